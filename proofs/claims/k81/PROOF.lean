import PyProof.Rows.All
import Wide.FinOn
import KE.KDictList
import KE.KDictOf
import KE.KRevIter
import KE.RegKIsAll
import Open.Fors
import KE.KItem
import KE.KTabLook
import PySem.Challenge.RW_slackchain_k81_whole_made_within_shares
set_option Elab.async false
set_option linter.all false
set_option maxRecDepth 100000
local macro_rules|`(command|universe $x)=>do return Lean.mkNullNode (<-(((List.range 1142).map (fun i=>s!"o_{i+43}")++"tree_469 sts_214 sts_131 view_39 tree_689 sts_440 tree_518 tree_424 sts_169 sts_641 sts_381 sts_280 tree_454 tree_168 tree_183 sts_519 sts_101 tree_1025 sts_332 env_41 tree_213 tree_380 sts_49 sts_146 tree_228 tree_145 sts_470 tree_1079 heap_46 tree_331 tree_1165 heap_1185 sts_1166 tree_70 sts_116 sts_71 sts_989 sts_184 sts_86 sts_229 tree_484 tree_1184 sts_455 tree_47 sts_901 tree_100 sts_1026 heap_39 sts_485 tree_988 tree_705 tree_944 tree_574 tree_439 tree_897 tree_640 sts_425 sts_199 tree_816 sts_575 tree_115 tree_130 sts_945 tree_85 tree_198 sts_1080 sts_706 sts_690 tree_279".splitOn " ").map ((`HDk).str ·)++[`PySem.Challenge.pw_slackchain_k81_whole_made_within_shares]).toArray.mapM fun x=>`(command|theorem $(Lean.mkIdent (.str `PySem.W.Fast s!"tw{x.hash}")):ident:True:=⟨⟩))
universe x
set_option maxHeartbeats 0 in
open_top HDk for PySem.Challenge.rw_slackchain_k81_whole_made_within_shares

open List renaming getElem?_eq_some_iff→aU,getElem?_eq_getElem→aV,mem_of_getElem?→aY,length_map→bc,mem_singleton→bf,getElem?_map→bg,take_of_length_le→de,mem_map→di,mem_append→dk,map_cons→dw,map_append→dy,getElem?_of_mem→dA,length_singleton→dD,replicate→dF,length_cons→dQ,length_append→dR,take_succ→dX,mem_cons_of_mem→dZ,size_toArray→eu,getElem?_eq_none→eN,mem_cons→eP,length_take→eS,nodup_append→fD,mem_cons_self→fM,getElem?_zip_eq_some→fN,map_nil→fP,mem_filter→fQ,find?_cons→fR,mem_append_right→fS,length_nil→fV,getD_eq_getElem?_getD→gh,nodup_cons→gy,find?_eq_none→gF,cons_append→gO,take_zero→gQ,mem_of_mem_take→gU,range→gX,mem_of_find?_eq_some→hU,mem_flatMap→ia,map_map→ie,getElem_mem→ij,filter_append→ir,not_mem_nil→iw,foldl_cons→iB,getElem?_append_right→iH,append_nil→iM,ext_getElem?→iS,foldl_append→js,getElem?_inj→jy,mem_append_left→jF,any_cons→jK,map_congr_left→jN,mem_range→kf,filter_eq_nil_iff→kg,eraseIdx_eq_take_drop_succ→kx,take_append_drop→kA,length_replicate→kB,length_filter_le→kC,cons.injEq→kD,nil_append→kL,lookup→kM,of_mem_zip→kQ,length_zip→kR,find?_some→kS,reverse_append→kX,filter_eq_self→kY
open PySem.W renaming Frag→aW,keepIn→jm,findIn→jn,emptyDict→jM,fnOf→ky,instObj→ma
open PySem renaming Value→aX,Shared→da,wpAny_bind→du,wpAny_pure→dU,wpAny→ei,model→eO,starEach→eQ,bootBuiltins→fo,World→fA,Program→fH,compareOp→fY,Around→fZ,mainGlobals→gi,wpAny_mono→gB,wpAny_Call_Name_kw→gK,FuncData→ip,binaryOp→iE,attributeBase→iL,relabel→iR,mem_of_lookup→iZ,wpAny_truthy_bool→jb,wpAny_newObj_type→jd,backTo→jq,tupleKind_room_in1→jv,sysModules→jw,wpAny_passesOwn→jD,call_meetsIn→jQ,wpAny_getItem_str_slice→ko,wpAny_Call_method0_late→kr,cLine→ku,codeAny→kG,NameKind→kH,evalArgs_none→kP,assignEach→kT,Paired→kU,behindInMarks→lq,sliceBounds→lJ,IntMulOk→mv
open Sum renaming inr→aZ
open PySem.Heap renaming get?_push_of_some→df,lt_size→dE,get?_push_size→dP,size_push→je,SameBut→lC
open Nat renaming le_refl→dh,zero_le→dG,ne_of_lt→dI,lt_of_lt_of_le→dO,lt_of_le_of_lt→fj,le_trans→fG,ne_of_gt→gT,lt_succ_self→ik,sub_lt_sub_left→jf,lt_irrefl→ju,lt_succ_of_lt→kl
open PySem.PassesOwn renaming never→dn
open PySem.F renaming plainAttrs_list→dJ,type_list_append→ej,slot_list_append→ek,slot_dict_values→ic,plainAttrs_dict→iq,slot_dict_get→iD,entry_dict_get→jZ,slot_list_getattribute→kj,args_dict_values_1→kW
open Option renaming map_eq_some_iff→dM,some.inj→eh,join_some→fK,isSome_some→gj,isSome_none→gC,map_some→kK
open Bool renaming false_ne_true→dY,and_eq_true→gr,eq_false_iff→jA,eq_iff_iff→jS,false_eq_true→jX
open Rat renaming le_trans→er,mul_le_mul_of_nonneg_right→fk,div_mul_cancel→fC,le_of_lt→gz,intCast_le_intCast→gJ,le_refl→hO,mul_nonneg→iu,not_lt→jH,mul_lt_mul_of_pos_right→lI
open PySem.Value renaming ref→eK,bool→kz
open PySem.SeqAt renaming RcNeAt→fB,RcAt→fU
open Int renaming gcd→fJ,le_refl→fW,natAbs_mul→gq,mul_assoc→gu,toNat_natCast→gA,eq_of_mul_eq_mul_right→gG,mul_comm→gL,fmod_eq_emod_of_nonneg→hI,eq_ofNat_of_zero_le→iz,mul_ne_zero→iT,mul_one→iW,natAbs_dvd_natAbs→jz,mul_neg_of_neg_of_pos→jO,dvd_trans→jR,sub_eq_add_neg→ka,mul_left_comm→km
open Ne renaming symm→gk
open PySem.Calls renaming callWith_builtin→gH,spliced_cons→gS,spliced_nil→iQ,evalArgs_plain→kI
open PyProof.Rows renaming callWith_type1→gM,slot_tuple_getitem→jP
open Classical renaming byContradiction→gY
open PySem.Builtin.Range renaming rangeSize→ib
open PySem.Str renaming ofString→il
open False renaming elim→ix
open Array renaming length_toList→iA,getElem?_toList→iI,toArray_toList→kJ
open True renaming intro→iG
open PySem.Builtin.Slice renaming slicePlaces→jr
open PySem.Builtin.Tuple renaming tupleExact→jx
open PySem.Builtin.Str renaming occurrences→jJ
open PySem.Around renaming under_plainId→kE
local macro_rules(kind:=Lean.Parser.Command.declaration)|s=>do
  if s.getHeadInfo matches .original .. then
    let s:=s.rewriteBottomUp (·.setInfo .none)
    return if s[0].getArgs.all (·.getNumArgs==0)&&(s[1].isOfKind `Lean.Parser.Command.definition||s[1].isOfKind `Lean.Parser.Command.abbrev) then s.setArg 0 (s[0].setArg 4 (Lean.mkNullNode #[Lean.mkNode `Lean.Parser.Command.noncomputable #[Lean.mkAtom "noncomputable"]])) else s
  else Lean.Macro.throwUnsupported
local macro_rules(kind:=Lean.Parser.Tactic.tacticLet__)|s=>do
  let m x:=Lean.mkNode `Lean.Parser.Tactic.rcasesPatMed #[Lean.mkNullNode #[x]]
  let g(r:Lean.Syntax->Lean.Syntax)(x:Lean.Syntax):Lean.Syntax:=if x.isIdent then Lean.mkNode `Lean.Parser.Tactic.rcasesPat.one #[x] else if x.isOfKind `Lean.Parser.Term.tuple then Lean.mkNode `Lean.Parser.Tactic.rcasesPat.tuple #[Lean.mkAtom "⟨",Lean.mkNullNode ((#[x[1][0],x[1][1]]++x[1][2].getArgs).map λy=>if y.isAtom then y else Lean.mkNode `Lean.Parser.Tactic.rcasesPatLo #[m (r y),Lean.mkNullNode]),Lean.mkAtom "⟩"] else Lean.mkNode `Lean.Parser.Tactic.rcasesPat.ignore #[x[0]]
  let d:=s[2][0]
  if !d[0].isOfKind `Lean.Parser.Term.tuple then Lean.Macro.throwUnsupported
  let h p v:Lean.TSyntax `tactic:=⟨Lean.mkNode `Lean.Parser.Tactic.obtain #[Lean.mkAtom "obtain",Lean.mkNullNode #[m (g (g (g (g id))) p)],Lean.mkNullNode,Lean.mkNullNode #[Lean.mkAtom ":=",Lean.mkNullNode #[v]]]⟩
  let o:=h d[0] d[4]
  let e:Array Lean.Term:=((#[d[0][1][0]]++d[0][1][2].getArgs).filter (!·.isAtom)).map (⟨·⟩)
  let i(x:Lean.Term):=x.raw.isIdent&&x.raw.getId != `rfl||x.raw.isOfKind `Lean.Parser.Term.hole
  let w:=(e.takeWhile i).size
  if e.size<4 then return o
  let f(c:Lean.Name)(k:Nat):Lean.MacroM (Lean.TSyntax `tactic):=do
    if w<k&&k != 1||e.size<=k||e.size==k+1&&w<=k then return<-`(tactic|fail)
    let mut b:=e.extract 0 k
    let mut u:Lean.TSyntax `tactic<-`(tactic|skip)
    if w==0 then
      let x<-`(x)
      u:=h b[0]! x
      b:=#[x]
    let(r,t):Lean.Term×Lean.TSyntax `tactic<-if e.size==k+1 then pure (e[k]!,<-`(tactic|skip)) else pure (<-`(r),<-`(tactic|let ($(e[k]!),$(e.extract (k+1) e.size),*):=r))
    let v:Lean.Term:=⟨d[4]⟩
    if v.raw.isIdent then `(tactic|(revert $(⟨v.raw⟩):ident;refine fun q=>$(Lean.mkIdent c) q fun $b* $r=>?_;clear q;$u;$t)) else `(tactic|(refine $(Lean.mkIdent c) $v fun $b* $r=>?_;$u;$t))
  `(tactic|first|($(<-f `L2.ex6 6):tactic)|($(<-f `L2.an6 6):tactic)|($(<-f `L2.ex3 3):tactic)|($(<-f `L2.an3 3):tactic)|($(<-f `Exists.elim 1):tactic)|($(<-f `L2.an1 1):tactic)|($o:tactic))
local macro_rules|`(tactic|show $t:term)=>do
  let x:=t.raw
  if !x.isOfKind `Lean.Parser.Term.tuple then return<-`(tactic|first|refine $t|change $t)
  let a:=#[x[1][0],x[1][1]]++x[1][2].getArgs
  let c(a:Array Lean.Syntax):Lean.Term:=⟨Lean.mkNode `Lean.Parser.Term.anonymousCtor #[Lean.mkAtom "⟨",Lean.mkNullNode a,Lean.mkAtom "⟩"]⟩
  let f(n:Lean.Name)(k:Nat):Lean.MacroM (Lean.TSyntax `tactic):=if a.size<2*k+1 then `(tactic|fail) else
    let e:Array Lean.Term:=((Array.range k).map λi=>⟨a[2*i]!⟩).push (if a.size==2*k+1 then ⟨a[2*k]!⟩ else c (a.extract (2*k) a.size))
    `(tactic|refine $(Lean.mkIdent n) $e*)
  if a.size<6 then `(tactic|first|refine $(c a)|change $t) else `(tactic|first|($(<-f `L2.xi6 6):tactic)|($(<-f `L2.xi3 3):tactic)|refine $(c a)|change $t)
local macro_rules|`(tactic|ac_nf)=>`(tactic|first|lia|omega)
local macro_rules|`(⋯)=>`(by decide)
local macro_rules|`(∅)=>`(by ac_nf)
local macro_rules|`(tactic|subst_eqs)=>`(tactic|(intro _ _ _ _ h;(repeat obtain ⟨_,h⟩:=h);all_goals(subst_vars;rfl)))
local macro_rules|`(tactic|decreasing_tactic)=>`(tactic|first|exact $(Lean.mkIdent `L2.o8) rfl|rfl|exact .inl rfl|exact .inr rfl|exact .inr (.inl rfl)|exact .inr (.inr rfl)|exact fun _=>rfl|exact fun _ _=>rfl|assumption|decide)
namespace L2
theorem xi3{α β γ:Sort _}{p:α->β->γ->Prop}(a b c)(h:p a b c):∃ a b c,p a b c:=⟨a,b,c,h⟩
theorem xi6{α β γ δ ε ζ:Sort _}{p:α->β->γ->δ->ε->ζ->Prop}(a b c d e f)(h:p a b c d e f):∃ a b c d e f,p a b c d e f:=⟨a,b,c,d,e,f,h⟩
theorem Po(_:True:=by decreasing_tactic):True:=⟨⟩
@[reducible]def Au:=Po._auto_1
theorem ex3{α β γ:Sort _}{p:α->β->γ->Prop}{r:Prop}:(∃ a b c,p a b c)->(∀ a b c,p a b c->r)->r:=λ⟨a,b,c,h⟩ k=>k a b c h
theorem ex6{α β γ δ ε ζ:Sort _}{p:α->β->γ->δ->ε->ζ->Prop}{r:Prop}:(∃ a b c d e f,p a b c d e f)->(∀ a b c d e f,p a b c d e f->r)->r:=λ⟨a,b,c,d,e,f,h⟩ k=>k a b c d e f h
theorem an1{a b r:Prop}(h:a/\b)(k:a->b->r):r:=k h.1 h.2
theorem an3{a b c d r:Prop}:a/\b/\c/\d->(a->b->c->d->r)->r:=λh k=>k h.1 h.2.1 h.2.2.1 h.2.2.2
theorem an6{a b c d e f g r:Prop}:a/\b/\c/\d/\e/\f/\g->(a->b->c->d->e->f->g->r)->r:=λh k=>an3 h λx y z h=>an3 h (k x y z)
open PySem PySem.Spec PyProof.Rows
abbrev gD:=Sum Bool Str
def isBoolOf:Bool->aX->Bool
 | b, .bool c=>b == c
 | _,_=>false
variable{b:Bool}
theorem OI{v:aX}(h:isBoolOf b v=true):v=.bool b:=by
 cases v <;> simp_all [isBoolOf]
def keyIs:gD->aX->Bool
 | .inl k,v=>isBoolOf k v
 | .inr x,v=>aX.isStrOf x v
def AW(w:fA):gD->Int
 | .inl k=>hashInt (if k then 1 else 0)
 | .inr x=>hashStr w x
theorem qR:∀{k:gD}{v:aX},keyIs k v=true->(∃ i,k=Sum.inl i/\v=kz i)\/(∃ x t,k=aZ x/\v=aX.str x t)
 | .inl i,v,h=>.inl ⟨i,rfl,OI h⟩
 | .inr x,v,h=>by
  let(t,e):=aX.isStrOf_shape (x:=x) (v:=v) h;show .inr ⟨x,t,rfl,e⟩
theorem M4(i:Bool):keyIs (.inl i) (.bool i)=true:=by simp[keyIs,isBoolOf]
theorem MM(x:Str)(t:Tok):keyIs (.inr x) (.str x t)=true:=by simp[keyIs,aX.isStrOf]
theorem JT(a b:Bool):decide ((Sum.inl a:gD)=Sum.inl b)=(a == b):=by cases a <;> cases b <;> rfl
theorem JQ(a b:Str):decide ((aZ a:gD)=aZ b)=decide (a=b):=by
 by_cases e:a=b
 .subst e;simp
 .have h:¬(aZ a:gD)=aZ b:=λq=>e (aZ.inj q);rw[decide_eq_false h,decide_eq_false e]
theorem JS(a:Bool)(b:Str):decide ((Sum.inl a:gD)=aZ b)=false:=decide_eq_false (λq=>nomatch q)
theorem JR(a:Str)(b:Bool):decide ((aZ a:gD)=Sum.inl b)=false:=decide_eq_false (λq=>nomatch q)
variable{prog:fH}{A:fZ}{E:aX->da->Prop}
theorem NB{w:fA}{s:da}{Q:Int->da->Prop}(h:Q (hashInt (if b then 1 else 0)) { s with toks:=s.toks+1 }) :
  ei (eO prog w) A (pyHash (.bool b)) Q E s:=by
 have c:=rawHash_range (if b then 1 else 0);have a:s.TypeIs (.bool b) "bool":=rfl;unfold pyHash;have d:[kz b].any aX.onHeap=false:=rfl;show du ?_;rw[cRoomFor,if_neg (by rw[d];show dY)];show dU ?_;show du (wpAny_specialOf a F.slot_bool_hash.lookup ?_);show ei _ _ (if(some (aX.builtin "int.__hash__") == some aX.none)=true then _ else _) Q E s;rw[if_neg (by rw[beq_builtin_none];show dY)];show du (wpAny_specialOf a F.slot_bool_hash.lookup ?_);show ei _ _ (callSpecialIfBoundUnlessNone? (.bool b) "__hash__" _ >>= _) Q E s;show du (wpAny_callSpecialIfBoundUnlessNone?_slot a F.slot_bool_hash
  (wpAny_call_entry F.slot_bool_hash a entry_int_hash
   (show ei _ _ (do ret (<- mkInt (rawHash (if b then 1 else 0)))) _ _ s from wpAny_ret_mkInt ?_) (args_int_hash _)))
 show ei _ _ (if(decide (-(2:Int) ^ 63<=rawHash (if b then 1 else 0))&&decide (rawHash (if b then 1 else 0)<2 ^ 63))=true then _ else _) Q E _;rw[if_pos (by rw[decide_eq_true c.1,decide_eq_true c.2];rfl)];show dU h
def mi(prog:fH)(w:fA):PySem.KeyKind prog w gD where
 is:=keyIs
 hash:=AW w
 inj:=λv a b ha hb=>by
  rcases qR ha with⟨i,rfl,rfl⟩ | ⟨x,t,rfl,rfl⟩
  .rcases qR hb with⟨j,rfl,e⟩ | ⟨y,u,rfl,e⟩
   .injection e with e1;rw[e1]
   .show nomatch e
  .rcases qR hb with⟨j,rfl,e⟩ | ⟨y,u,rfl,e⟩
   .show nomatch e
   .injection e with e1 _;rw[e1]
 byValue:=λk v h=>by
  rcases qR h with⟨i,rfl,rfl⟩ | ⟨x,t,rfl,rfl⟩ <;> rfl
 pyHash:=λhv h=>by
  rcases qR hv with⟨i,rfl,rfl⟩ | ⟨x,t,rfl,rfl⟩
  .show NB h
  .show wpAny_pyHash_str h
 eqBool:=λhu hv h=>by
  rcases qR hu with⟨i,rfl,rfl⟩ | ⟨x,t,rfl,rfl⟩
  .rcases qR hv with⟨j,rfl,rfl⟩ | ⟨y,u,rfl,rfl⟩
   .rw[JT]at h;show SeqAt.EqAt.bool_bool i j _ _ _ _ h
   .rw[JS]at h;show SeqAt.EqAt.bool_str i y u _ _ _ _ h
  .rcases qR hv with⟨j,rfl,rfl⟩ | ⟨y,u,rfl,rfl⟩
   .rw[JR]at h;show SeqAt.EqAt.str_bool x t j _ _ _ _ h
   .rw[JQ]at h;show wpAny_eqBool_str h
 «strs»:=λk x t v h=>by
  rcases qR h with⟨i,rfl,e⟩ | ⟨y,u,rfl,e⟩
  .show nomatch e
  .injection e with e1 _
   subst e1;cases v <;> rfl
theorem Ol(prog:fH)(w:fA)(i:Bool):(mi prog w).is (.inl i) (.bool i)=true:=M4 i
theorem Np(prog:fH)(w:fA)(x:Str)(t:Tok):(mi prog w).is (.inr x) (.str x t)=true:=MM x t
inductive V where
 | non | bl (b:Bool) | int (i:Int) | str (x:Str) | byt (b:Array UInt8) | flt (b:UInt64) | ref (a:Addr) | ty (n:String)
 deriving DecidableEq
def RelV:V->aX->Prop
 | .non,u=>u=aX.none
 | .bl b,u=>u=kz b
 | .int i,u=>∃ t,u=aX.int i t
 | .str x,u=>∃ t,u=aX.str x t
 | .byt b,u=>∃ t,u=aX.bytes b t
 | .flt b,u=>∃ t,u=aX.float b t
 | .ref a,u=>u=eK a
 | .ty n,u=>u=aX.type n
abbrev Vals:List V->List aX->Prop:=kU RelV
variable{xs:List V}{us:List aX}
theorem Vals.length(r:Vals xs us):xs.length=us.length:=kU.length r
theorem Vals.get{i:Nat}{x:V}(h:Vals xs us):xs[i]?=some x->∃ u,us[i]?=some u/\RelV x u:=by
 induction h generalizing i with
 | nil=>showλe=>by cases e
 | cons r _ ih=>
  cases i with
  | zero=>showλe=>by cases e;show(_,rfl,r)
  | succ i=>showλe=>ih e
variable{ys:List V}
theorem Vals.append{ws:List aX}(h:Vals xs us)(s:Vals ys ws):Vals (xs++ys) (us++ws):=by
 induction h with
 | nil=>show s
 | cons r _ ih=>show .cons r ih
theorem Vals.take(n:Nat)(h:Vals xs us):Vals (xs.take n) (us.take n):=by
 induction h generalizing n with
 | nil=>cases n <;> show .nil
 | cons r _ ih=>
  cases n with
  | zero=>show .nil
  | succ n=>show .cons r (ih n)
theorem Vals.drop:∀{xs:List V}{us:List aX}(n:Nat),Vals xs us->Vals (xs.drop n) (us.drop n)
 | _,_,0,r=>r
 | _,_,_+1, .nil=>.nil
 | _,_,n+1, .cons _ t=>Vals.drop n t
def RelO:Option V->Option aX->Prop
 | some v,some u=>RelV v u
 | none,none=>True
 | _,_=>False
def KV{κ:Type}:List (κ × V)->List (κ × aX)->Prop:=kU λ(p : κ × V)(q : κ × aX)=>p.1=q.1/\RelV p.2 q.2
def kV:gD->V
 | .inl i=>.bl i
 | .inr x=>.str x
inductive HO where
 | lst (xs:List V)
 | tup (xs:List V)
 | dK (kvs:List (gD × V)) | dT (kvs:List (List gD × V))
 | set (S:Int->Bool) (n:Nat)
 | ins (C dx:Addr) (fs:List (Str × V))
 | own (x:Addr)
 | xd (fs:List (Str × V))
 | met (f x:Addr)
 | rng (lo hi:Int)
 | frz (o:Obj) (u:HO)
 | tbl (ps:Array aX)
 | ext (φ : Heap->Prop)
abbrev Hp:=Addr->Option HO
def upd(H:Hp)(a:Addr)(o:HO):Hp:=λb=>if b=a then some o else H b
variable{H:Hp}{a:Addr}{o:HO}
theorem jo:upd H a o a=some o:=by unfold upd;rw[if_pos rfl]
variable{b:Addr}
theorem fF(h:b≠a):upd H a o b=H b:=by unfold upd;rw[if_neg h]
variable{u:HO}
theorem nV(h:H a=some o)(h':H b=some u)(d:o≠u):a≠b:=by
 intro e;subst e;rw[h]at h';show d (eh h')
theorem iy(h:H a=some o)(h':H b=none):a≠b:=by
 intro e;subst e;rw[h]at h';cases h'
section
variable(P:fH)(w:fA)
def jh(H:Hp)(h:Heap)(a:Addr):HO->Prop
 | .lst xs=>xs.length<=sizeLine/\∃(its:List aX)(n:Nat),Vals xs its/\h.get? a=some { cls:=.type "list",data:=.seq its.toArray n }
 | .tup xs=>xs.length<=sizeLine/\∃ its:List aX,Vals xs its/\IsTup h a its.toArray
 | .dK kvs=>kvs.length<=sizeLine/\(a == jw)=false/\∃ vs,KV kvs vs/\h.DictOf (mi P w) a vs
 | .dT kvs=>kvs.length<=sizeLine/\(a == jw)=false/\∃ xs:List (List gD × Addr × aX),
   kU (λ(p:List gD × V)(q:List gD × Addr × aX)=>p.1=q.1/\H q.2.1=some (.tup (p.1.map kV))/\RelV p.2 q.2.2) kvs xs /\
   ∃ o es ep,h.get? a=some o/\o.ExactDict/\o.data=.dict es ep/\es.toList=xs.map (entryOfKey (tupleKind (mi P w)))/\(xs.map (·.1)).Nodup
 | .set S n=>h.SetOf (intKind P w) a S n
 | .ins C dx fs=>H dx=some (.own a)/\fs.length<=1000/\dx≠a/\h.get? a=some (ma C dx) /\
   ∃ mA,h.Ns1 dx mA/\(∀ f,RelO (fs.lookup f) (mA f))/\PySem.Within mA (fs.map (·.1))
 | .own _=>∃ o,h.get? a=some o
 | .xd fs=>∃ mA,h.Ns1 a mA/\∀ f,RelO (fs.lookup f) (mA f)
 | .rng lo hi=>∃ t u v,h.get? a=some { cls:=.type "range",data:=.fields #[.int lo t, .int hi u, .int 1 v] }
 | .frz o u=>h.get? a=some o/\jh H h a u
 | .tbl ps=>h.get? a=some { cls:=.none,data:=.fields ps }
 | .met f x=>h.get? a=some (W.methodObj (.ref f) (.ref x))
 | .ext φ=>φ h/\(∃ o,h.get? a=some o)/\∀ h1 h2:Heap,φ h1->(∀ o,h1.get? a=some o->h2.get? a=some o)->φ h2
def mS(H:Hp)(h:Heap):Prop:=∀ a o,H a=some o->jh P w H h a o
end
section
variable{P:fH}{H':Hp}{h h':Heap}{w:fA}
theorem jh.lt(x:jh P w H h a o):a<h.objs.size:=by
 cases o with
 | lst xs=>let(_,_,_,_,e):=x;show dE e
 | tup xs=>let(_,_,_,p):=x;show p.lt
 | dK kvs=>let(_,_,_,_,o,_,_,e,_):=x;show dE e
 | dT kvs=>let(_,_,_,_,o,_,_,e,_):=x;show dE e
 | set S n=>let(o,_,_,_,e,_):=x;show dE e
 | ins C dx fs=>let(_,_,_,e,_):=x;show dE e
 | own y=>let(_,e):=x;show dE e
 | xd fs=>let(_,(_,_,_,e,_),_):=x;show dE e
 | rng lo hi=>let(_,_,_,e):=x;show dE e
 | frz ob u=>let(e,_):=x;show dE e
 | tbl ps=>show dE (show h.get? a=some _ from x)
 | met f y=>show dE (show h.get? a=some _ from x)
 | ext φ=>let(_,(_,e),_):=x;show dE e
variable{α:Type}
theorem Paired.mapP{β:Type}{F G : α->β->Prop}{l₁ : List α}{l₂ : List β}(h:kU F l₁ l₂)(f:∀ a b,F a b->G a b):kU G l₁ l₂:=by
 induction h with
 | nil=>show .nil
 | cons r _ ih=>show .cons (f _ _ r) ih
theorem jh.stay(x:jh P w H h a o)(k:∀ b u,(b=a\/H b=some (.own a))->h.get? b=some u->h'.get? b=some u)
  (ho:∀ b,H b=some (.own a)->H' b=some (.own a)) (ht:∀ b xs,H b=some (.tup xs)->H' b=some (.tup xs)):jh P w H' h' a o:=by
 induction o with
 | lst xs=>let(z,l,n,r,e):=x;show(z,l,n,r,k _ _ (.inl rfl) e)
 | tup xs=>let(z,l,r,g,e,c):=x;show(z,l,r,g,k _ _ (.inl rfl) e,c)
 | dK kvs=>let(z,y,B,r,g,j,i,e,c):=x;show(z,y,B,r,g,j,i,k _ _ (.inl rfl) e,c)
 | dT kvs=>
  let(z,y,xs,r,g,j,i,e,c):=x;show(z,y,xs,Paired.mapP r λp q z=>⟨z.1,ht _ _ z.2.1,z.2.2⟩,g,j,i,k _ _ (.inl rfl) e,c)
 | set S n=>let(g,j,i,t,e,c):=x;show(g,j,i,t,k _ _ (.inl rfl) e,c)
 | ins C dx fs=>
  let(d,z,E,e,s,(m,j,i,D,c),r):=x;show(ho _ d,z,E,k _ _ (.inl rfl) e,s,⟨m,j,i,k _ _ (.inr d) D,c⟩,r)
 | own y=>let(g,e):=x;show(g,k _ _ (.inl rfl) e)
 | xd fs=>let(s,(m,j,i,e,c),r):=x;show(s,⟨m,j,i,k _ _ (.inl rfl) e,c⟩,r)
 | rng lo hi=>let(t,u,v,e):=x;show(t,u,v,k _ _ (.inl rfl) e)
 | frz g u ih=>let(e,q):=x;show(k _ _ (.inl rfl) e,ih q)
 | tbl ps=>
  have e:h.get? a=some { cls:=.none,data:=.fields ps }:=x;show h'.get? a=some { cls:=.none,data:=.fields ps };show k a _ (.inl rfl) e
 | met f y=>
  have e:h.get? a=some (W.methodObj (.ref f) (.ref y)):=x;show h'.get? a=some (W.methodObj (.ref f) (.ref y));show k a _ (.inl rfl) e
 | ext φ=>let(p,(o,e),A):=x;show(A _ _ p λo q=>k _ _ (.inl rfl) q,⟨o,k _ _ (.inl rfl) e⟩,A)
theorem mS.lt(x:mS P w H h)(e:H a=some o):a<h.objs.size:=(x a o e).lt
theorem mS.fresh(x:mS P w H h)(e:h.objs.size<=a):H a=none:=by
 cases q:H a with
 | none=>rfl
 | some u=>show absurd (dO (x.lt q) e) (ju _)
theorem mS.kept(x:mS P w H h)(k:∀ b u,h.get? b=some u->h'.get? b=some u):mS P w H h':=λa o e=>
 (x a o e).stay (λb u _ q=>k b u q) (λ_ q=>q) λ_ _ q=>q
theorem mS.laid(x:mS P w H h)(k:∀ b u,h.get? b=some u->h'.get? b=some u)(hp:h.objs.size<=a)(new:jh P w (upd H a o) h' a o):mS P w (upd H a o) h':=λb u e=>by
 have f:=x.fresh hp;by_cases d:b=a
 .subst d;rw[jo]at e;cases e;show new
 .rw[fF d]at e;show(x b u e).stay (λc v _ q=>k c v q) (λc q=>by rw[fF (iy q f)];show q) λc g q=>by rw[fF (iy q f)];show q
end
def Rd(H:Hp)(a:Addr)(u:HO):Prop:=H a=some u\/∃ o,H a=some (.frz o u)
variable{P:fH}{h:Heap}
theorem Rd.ok{w:fA}(r:Rd H a u)(x:mS P w H h):jh P w H h a u:=by
 rcases r with r | ⟨o,r⟩
 .show x a u r
 .let(_,q):=x a _ r;show q
def Mut:Option HO->Prop
 | some (.lst _)=>True
 | some (.dK _)=>True
 | some (.dT _)=>True
 | some (.set _ _)=>True
 | some (.ins _ _ _)=>True
 | some (.ext _)=>True
 | _=>False
section
variable{h':Heap}{x e:Addr}{o':HO}{w:fA}
theorem mS.write(ok:mS P w H h)(mu:Mut (H x))(he:e=x\/H e=some (.own x))(k:∀ b u,b≠e->h.get? b=some u->h'.get? b=some u)(heo:∃ u,h'.get? e=some u)
  (new:jh P w (upd H x o') h' x o'):mS P w (upd H x o') h':=λb u q=>by
 have d:∀ c y,H c=some (.own y)->c≠x:=λc y r z=>by subst z;rw[r]at mu;show mu
 have f:∀ c j,H c=some (.tup j)->c≠x:=λc j r z=>by subst z;rw[r]at mu;show mu
 by_cases i:b=x
 .subst i;rw[jo]at q;cases q;show new
 .rw[fF i]at q;by_cases a:b=e
  .have l:H b=some (.own x):=by
    rcases he with z | z
    .show absurd (a.trans z) i
    .rw[a];show z
   rw[q]at l;cases l;let(v,m):=heo;show(v,by rw[a];show m)
  .show(ok b u q).stay (λc v g r=>k c v ?_ r) (λc r=>by rw[fF (d c b r)];show r) λc j r=>by rw[fF (f c j r)];show r
   rcases g with rfl | g
   .show a
   .rintro rfl;rcases he with z | z
    .show d c b g z
    .rw[g]at z;cases z;show i rfl
end
structure Un(fs ex:List Addr)(H H':Hp)(h h':Heap):Prop where
 keep:∀ b o,h.get? b=some o->H b=none->b∉fs->b∉ex->h'.get? b=some o
 slot:∀ b o,h.get? b=some o->H b=none->b∈fs->b∉ex->∃ sl,h'.get? b=some { o with slots:=sl }
 free:∀ b o,h.get? b=some o->H b=none->b∉ex->H' b=none
 there:∀ b o,h.get? b=some o->b∉ex->∃ o',h'.get? b=some o'
 tups:∀ b xs,H b=some (.tup xs)->H' b=some (.tup xs)
 frzs:∀ b o u,H b=some (.frz o u)->H' b=some (.frz o u)
 tbls:∀ b ps,H b=some (.tbl ps)->∃ more,H' b=some (.tbl (ps++more))
section
variable{fs' ex ex':List Addr}{H1 H2:Hp}{h1 h2 h':Heap}{x e:Addr}{fs:List Addr}
theorem Un.any(u:Un fs ex H H1 h h1){b:Addr}{ob:Obj}(q:h.get? b=some ob)(n:H b=none)(hx:b∉ex):∃ sl,h1.get? b=some { ob with slots:=sl }:=by
 by_cases a:b∈fs
 .show u.slot b ob q n a hx
 .show(ob.slots,u.keep b ob q n a hx)
theorem Un.kept(k:∀ b u,h.get? b=some u->h'.get? b=some u):Un fs ex H H h h' :=
 ⟨λb a q _ _ _=>k b a q,λb a q _ _ _=>⟨a.slots,k b a q⟩,λ_ _ _ n _=>n,λb a q _=>⟨a,k b a q⟩,λ_ _ q=>q,λ_ _ _ q=>q,λ_ c q=>⟨#[],by rw[q];simp⟩⟩
theorem Un.refl:Un fs ex H H h h:=Un.kept λ_ _ q=>q
theorem Un.laid(k:∀ b u,h.get? b=some u->h'.get? b=some u)(hp:h.objs.size<=a)(hn:H a=none):Un fs ex H (upd H a o) h h' where
 keep:=λb u q _ _ _=>k b u q
 slot:=λb u q _ _ _=>⟨u.slots,k b u q⟩
 free:=λb u q n _=>by rw[fF (dI (dO (dE q) hp))];show n
 there:=λb u q _=>⟨u,k b u q⟩
 tups:=λb c q=>by rw[fF (iy q hn)];show q
 frzs:=λb u c q=>by rw[fF (iy q hn)];show q
 tbls:=λb d q=>⟨#[],by rw[fF (iy q hn),q];simp⟩
theorem Un.write(mu:Mut (H x))(he:e=x\/H e=some (.own x))(k:∀ b u,b≠e->h.get? b=some u->h'.get? b=some u)(heo:∃ u,h'.get? e=some u):Un fs ex H (upd H x o) h h':=by
 have f:∀ b,H b=none->b≠x:=λb n z=>by subst z;rw[n]at mu;show mu
 have d:∀ b,H b=none->b≠e:=λb n z=>by
  subst z;rcases he with r | r
  .show f b n r
  .rw[n]at r;cases r
 have c:∀ b u,H b=some u->¬ Mut (some u)->b≠x:=λb u q i z=>by subst z;rw[q]at mu;show i mu
 show(λb u q n _ _=>k b u (d b n) q,λb u q n _ _=>⟨u.slots,k b u (d b n) q⟩,λb u q n _=>by rw[fF (f b n)];show n,λb u q _=>?_,
  λb g q=>by rw[fF (c b _ q λz=>z)];show q,λb u g q=>by rw[fF (c b _ q λz=>z)];show q,λb j q=>⟨#[],by rw[fF (c b _ q λz=>z),q];simp⟩)
 by_cases a:b=e
 .subst a;show heo
 .show(u,k b u a q)
end
def x9(h:Heap)(H:Hp):List Addr:=(gX h.objs.size).filter λa=>(H a).isSome
def oA(h:Heap)(H:Hp):Heap:=W.hideAll h (x9 h H)
theorem MO(h:Heap)(H:Hp):(oA h H).objs.size=h.objs.size:=W.hideAll_size _ _
variable{o:Obj}
theorem L8(e:h.get? b=some o)(n:H b=none):(oA h H).get? b=some o :=
 W.hideAll_get _ e λa=>by
  have q:(H b).isSome=true:=(fQ.mp a).2;rw[n]at q;simp at q
theorem Kw(e:(oA h H).get? b=some o):h.get? b=some o/\H b=none:=by
 have a:h.get? b=some o:=W.of_hideAll (x9 h H) e;show(a,?_);cases q:H b with
 | none=>rfl
 | some x=>
  have c:b∈x9 h H:=fQ.mpr ⟨kf.mpr (dE a),by simp[q]⟩;have z:(oA h H).get? b=none:=W.hideAll_none (x9 h H) c;rw[z]at e;cases e
def LM(g h:Heap)(L:Addr):List (Addr × Obj):=(gX h.objs.size).filterMap λa=>if a=L\/(g.get? a).isSome=true then none else(h.get? a).map λo=>(a,o)
def rest(g h:Heap)(L d:Addr):List (Addr × Obj):=(LM g h L).filter λp=>decide (p.1≠d)
structure Mod(K:aW)(mg:Str->Option aX)(base:Heap):Prop where
 kin:K.In base
 glob:base.Ns gi mg
 blt:∃ mb,base.Ns builtinsNs mb/\∀ x:Str,x≠"__name__"->mb x=fo x
 nolimit:base.NoLimit
set_option genInjectivity false in
structure Cx where
 prog:fH
 w:fA
 K:aW
 mg:Str->Option aX
 base:Heap
 A:fZ
 N:List Str
 s₀ : da
 H₀ : Hp
 env:Env
 outer:List Env
 stack:List Env
 ex:List Addr
 fn:Str->Bool
 calm:Bool
 pn:List (Addr × Obj)
 xe:aX->da->Prop
def pw(l:List Env):List Addr:=l.filterMap (·.frame)
abbrev Cx.fs(X:Cx):List Addr:=pw X.outer
def AY(sc:Scope)(x:Str):Prop:=sc.names.lookup x=some .local\/sc.names.lookup x=some .cell\/sc.names.lookup x=some .free
def Loc(sc:Scope)(x:Str):Prop:=sc.names.lookup x=some .local\/sc.names.lookup x=some .cell
def Look(env:Env)(h:Heap)(m:Str->Option aX)(x:Str)(u:aX):Prop :=
 (env.kindOf x=some .local/\m x=some u)\/((env.kindOf x=some .cell\/env.kindOf x=some .free)/\∃ c,env.cells.lookup x=some c/\h.IsCell c (some u))
structure Cx.Ok(X:Cx):Prop where
 mod:Mod X.K X.mg X.base
 kind:X.env.scope.kind=.function
 glob:X.env.globals=gi
 blt:X.env.builtins=builtinsNs
 above:X.s₀.heap.objs.size<=X.env.locals
 inj:∀ x y c,X.env.cells.lookup x=some c->X.env.cells.lookup y=some c->x=y
 has:∀ x,(X.env.kindOf x=some .cell\/X.env.kindOf x=some .free)->∃ c,X.env.cells.lookup x=some c
 cab:∀ x c,X.fn x=true->X.env.cells.lookup x=some c->X.s₀.heap.objs.size<=c
 hd:X.calm=true->X.A.handled=none
 frames:X.A.frames=some X.stack
 stk:X.stack=X.outer\/(X.stack=X.env::X.outer/\X.env.frame=some X.env.locals)
 exf:∀ b∈X.ex,b≠X.env.locals/\∀ x c,X.env.cells.lookup x=some c->c≠b
 bs:∀ b o,X.base.get? b=some o->X.s₀.heap.get? b=some o/\X.H₀ b=none
 bsz:X.base.objs.size<=X.s₀.heap.objs.size
 noex:∀ b o,X.base.get? b=some o->b∉X.ex
 exfs:∀ b∈X.ex,b∉X.fs
 funs:X.s₀.heap.FunFrames X.base X.outer
 frf:∀ b∈X.fs,X.H₀ b=none
structure Inv(X:Cx)(pins:List (Addr × Obj))(σ : List (Option V))(H:Hp)(s:da):Prop where
 ok:X.Ok
 os:s.os=X.s₀.os
 bare:AllBare s.gens
 base:Un X.fs X.ex X.H₀ H X.s₀.heap s.heap
 loc:∃ m,s.heap.Ns X.env.locals m/\∀(i:Nat)(x:Str)(v:V),X.N[i]?=some x->σ[i]?=some (some v)->AY X.env.scope x->∃ u,RelV v u/\Look X.env s.heap m x u
 cell:∀ x c,X.env.cells.lookup x=some c->∃ v,s.heap.IsCell c v
 free:H X.env.locals=none
 freeC:∀ x c,X.env.cells.lookup x=some c->H c=none
 pin:∀ p∈X.pn++pins,s.heap.get? p.1=some p.2/\H p.1=none/\p.1≠X.env.locals/\p.1∉X.fs/\∀ v,p.2.data≠.cell v
 hok:mS X.prog X.w H s.heap
 len : σ.length=X.N.length
section
variable{X:Cx}{pins:List (Addr × Obj)}{σ:List (Option V)}{H':Hp}{h':Heap}{s:da}
theorem Cx.Ok.nofr(ok:X.Ok){b:Addr}{o:Obj}(e:X.base.get? b=some o):b∉X.fs:=λa=>by
 have:=(ok.funs.mem a).1;rw[e]at this;cases this
theorem Inv.bs(I:Inv X pins σ H s):∀ b o,X.base.get? b=some o->s.heap.get? b=some o/\H b=none:=λb o e=>
 ⟨I.base.keep b o (I.ok.bs b o e).1 (I.ok.bs b o e).2 (I.ok.nofr e) (I.ok.noex b o e),I.base.free b o (I.ok.bs b o e).1 (I.ok.bs b o e).2 (I.ok.noex b o e)⟩
theorem Inv.bk(I:Inv X pins σ H s):∀ b o,X.base.get? b=some o->s.heap.get? b=some o:=λb o e=>(I.bs b o e).1
theorem Inv.mod(I:Inv X pins σ H s):Mod X.K X.mg X.base:=I.ok.mod
theorem Inv.kIn(I:Inv X pins σ H s):X.K.In s.heap:=I.ok.mod.kin.keeps I.bk
theorem Inv.lt(I:Inv X pins σ H s):X.env.locals<s.heap.objs.size:=let⟨_,hn,_⟩:=I.loc;hn.lt
theorem Inv.sz(I:Inv X pins σ H s):X.s₀.heap.objs.size<=s.heap.objs.size:=fG I.ok.above (Nat.le_of_lt I.lt)
theorem Inv.nofs(I:Inv X pins σ H s){a:Addr}(h:s.heap.objs.size<=a):a∉X.fs:=λb=>by
 let(_,o,c,_):=I.ok.funs.mem b;show absurd (dO (dE c) (fG I.sz h)) (ju _)
theorem Inv.cne(I:Inv X pins σ H s):∀ x c,X.env.cells.lookup x=some c->c≠X.env.locals:=λx c e z=>by
 let(v,o,f,d):=I.cell x c e;let(m,(g,i,h,a,b,_),_):=I.loc;rw[z,a]at f;cases f;rw[b]at d;cases d
theorem Inv.funs(I:Inv X pins σ H s):s.heap.FunFrames X.base X.outer:=by
 have all:∀(l:List Env),(∀ b∈pw l,b∈X.fs)->X.s₀.heap.FunFrames X.base l->s.heap.FunFrames X.base l:=by
  intro l;induction l with
  | nil=>intro _ _;trivial
  | cons env r ih=>
   intro f i;let(k,(L,o,a,j,m,g),h):=i;have d:L∈X.fs:=f L (by unfold pw;rw[List.filterMap_cons,a];show fM);let(n,e):=I.base.slot L o m (I.ok.frf L d) d λz=>I.ok.exfs L z d;show(k,⟨L,_,a,j,e,g⟩,ih (λb c=>f b (by unfold pw;rw[List.filterMap_cons,a];show dZ _ c)) h)
 show all X.outer (λ_ c=>c) I.ok.funs
theorem Inv.stack(I:Inv X pins σ H s):s.heap.FunFrames X.base X.stack:=by
 rcases I.ok.stk with e | ⟨e,hf⟩
 .rw[e];show I.funs
 .rw[e];let(m,a,_):=I.loc;show .cons (by rw[I.ok.kind];decide) hf a ?_ I.funs;show Heap.get?_none_of_le (fG I.ok.bsz I.ok.above)
theorem Inv.stkSub(I:Inv X pins σ H s):∀ b∈pw X.stack,b∈X.env.locals::X.fs:=λb a=>by
 rcases I.ok.stk with e | ⟨e,hf⟩
 .rw[e]at a;show dZ _ a
 .rw[e]at a;unfold pw at a;rw[List.filterMap_cons,hf]at a;show a
theorem Inv.stkFree(I:Inv X pins σ H s):∀ b∈pw X.stack,H b=none:=λb a=>by
 rcases eP.mp (I.stkSub b a)with e | a
 .rw[e];show I.free
 .let(_,o,c,_):=I.ok.funs.mem a;show I.base.free b o c (I.ok.frf b a) λz=>I.ok.exfs b z a
variable{g':Array GenState}{t':Nat}{d':Drawn}{ch:List Addr}
theorem Inv.step(I:Inv X pins σ H s)
  (hch:∀ b∈ch,(b∈X.ex\/X.s₀.heap.objs.size<=b)/\b≠X.env.locals/\(∀ x c,X.env.cells.lookup x=some c->c≠b)/\∀ p∈X.pn++pins,p.1≠b)
  (keep:∀ b o,b≠X.env.locals->b∉X.fs->b∉ch->s.heap.get? b=some o->H b=none->h'.get? b=some o)
  (slot:∀ b o,b≠X.env.locals->b∈X.fs->b∉ch->s.heap.get? b=some o->H b=none->∃ sl,h'.get? b=some { o with slots:=sl }) (free:∀ b o,b∉ch->s.heap.get? b=some o->H b=none->H' b=none)
  (there:∀ b o,b∉ch->s.heap.get? b=some o->∃ o',h'.get? b=some o')
  (tups:∀ b xs,H b=some (.tup xs)->H' b=some (.tup xs)) (frzs:∀ b o u,H b=some (.frz o u)->H' b=some (.frz o u)) (tbls:∀ b ps,H b=some (.tbl ps)->∃ more,H' b=some (.tbl (ps++more)))
  (ns:∀ m,s.heap.Ns X.env.locals m->h'.Ns X.env.locals m) (hok:mS X.prog X.w H' h') (hg:AllBare g') :
  Inv X pins σ H' { s with heap:=h',gens:=g',drawn:=d',toks:=t' }:=by
 have B:∀ b o,X.s₀.heap.get? b=some o->b≠X.env.locals:=λb o e=>dI (dO (dE e) I.ok.above);have j:∀ b o,X.s₀.heap.get? b=some o->b∉X.ex->b∉ch:=λb o e a t=>by
  rcases(hch b t).1 with z | z
  .show a z
  .show absurd (dO (dE e) z) (ju _)
 have f:∀ x c,X.env.cells.lookup x=some c->∀ v,s.heap.IsCell c v->h'.IsCell c v:=λx c e v ⟨o,y,C⟩=>by
  have g:c∉ch:=λz=>(hch c z).2.2.1 x c e rfl;by_cases F:c∈X.fs
  .let(sl,q):=slot c o (I.cne x c e) F g y (I.freeC x c e);show(_,q,C)
  .show(o,keep c o (I.cne x c e) F g y (I.freeC x c e),C)
 show(I.ok,I.os,hg,⟨λb o e n t a=>?_,λb o e n t a=>?_,λb o e n a=>?_,λb o e a=>?_,λb xs e=>tups b xs (I.base.tups b xs e),λb o xs e=>frzs b o xs (I.base.frzs b o xs e),λb ps e=>?_⟩,?_,λx c e=>?_,?_,λx c e=>?_,λp E=>?_,hok,I.len)
 .show keep b o (B b o e) t (j b o e a) (I.base.keep b o e n t a) (I.base.free b o e n a)
 .let(sl,h):=I.base.slot b o e n t a;let(D,A):=slot b _ (B b o e) t (j b o e a) h (I.base.free b o e n a);show(D,A)
 .let(o',h):=I.base.there b o e a;show free b o' (j b o e a) h (I.base.free b o e n a)
 .let(o',h):=I.base.there b o e a;show there b o' (j b o e a) h
 .let(M,h):=I.base.tbls b ps e;let(L,A):=tbls b _ h;show(M++L,by rw[A,Array.append_assoc])
 .let(m,K,N):=I.loc;show(m,ns m K,λi x v h A O=>?_);let(u,r,l):=N i x v h A O;show(u,r,?_);rcases l with l | ⟨k,c,e,z⟩
  .show .inl l
  .show .inr ⟨k,c,e,f x c e _ z⟩
 .let(v,z):=I.cell x c e;show(v,f x c e v z)
 .let(m,(o,_,_,y,_),_):=I.loc;show free _ o (λz=>(hch _ z).2.1 rfl) y I.free
 .let(v,o,y,C):=I.cell x c e;show free c o (λz=>(hch c z).2.2.1 x c e rfl) y (I.freeC x c e)
 .let(e,n,G,J,d):=I.pin p E;have g:p.1∉ch:=λz=>(hch p.1 z).2.2.2 p E rfl;show(keep p.1 p.2 G J g e n,free p.1 p.2 g e n,G,J,d)
theorem Inv.un(I:Inv X pins σ H s)(u:Un X.fs [] H H' s.heap h')(hok:mS X.prog X.w H' h'):Inv X pins σ H' { s with heap:=h',toks:=t' }:=by
 let(m,(o,q,p,g,r),_):=id I.loc;let(t,i):=u.any g I.free (by simp);show I.step (g':=s.gens) (d':=s.drawn) (ch:=[]) (λ_ z=>nomatch z) (λb o _ d _ e n=>u.keep b o e n d (by simp)) (λb o _ d _ e n=>u.slot b o e n d (by simp)) (λb o _ e n=>u.free b o e n (by simp)) (λb o _ e=>u.there b o e (by simp)) u.tups u.frzs u.tbls (λk j=>by
  let(l,f,c,a,h):=j;rw[g]at a;cases a;show(_,f,c,i,h)) hok I.bare
theorem Inv.call(I:Inv X pins σ H s)(u:Un (pw X.stack) ch H H' s.heap h')(hok:mS X.prog X.w H' h')(hg:AllBare g')
  (hch:∀ b∈ch,(b∈X.ex\/X.s₀.heap.objs.size<=b)/\b≠X.env.locals/\(∀ x c,X.env.cells.lookup x=some c->c≠b)/\∀ p∈X.pn++pins,p.1≠b) :
  Inv X pins σ H' { s with heap:=h',gens:=g',drawn:=d',toks:=t' }:=by
 let(m,(o,y,v,i,r),_):=id I.loc;let(A,g):=u.any i I.free λz=>(hch _ z).2.1 rfl;show I.step (ch:=ch) hch (λb o g k a e n=>u.keep b o e n (λz=>(eP.mp (I.stkSub b z)).elim g k) a) (λb o _ _ a e n=>u.any e n a) (λb o a e n=>u.free b o e n a) (λb o a e=>u.there b o e a) u.tups u.frzs u.tbls (λq l=>by
  let(t,h,f,d,j):=l;rw[i]at d;cases d;show(_,h,f,g,j)) hok hg
variable{it:Addr}
theorem Inv.turned(I:Inv X pins σ H s)(k:∀ b o,b≠it->s.heap.get? b=some o->h'.get? b=some o)(hn:H it=none)(hL:it≠X.env.locals)
  (h1:it∈X.ex\/X.s₀.heap.objs.size<=it) (h2:∀ x c,X.env.cells.lookup x=some c->c≠it) (h3:∀ p∈X.pn++pins,p.1≠it):Inv X pins σ H { s with heap:=h',toks:=t' }:=by
 have d:∀ b u,H b=some u->b≠it:=λb u e z=>by rw[z,hn]at e;cases e
 show I.step (g':=s.gens) (d':=s.drawn) (ch:=[it]) (λb g=>?_) (λb o _ _ a e _=>k b o (λz=>a (by simp[z])) e) (λb o _ _ a e _=>⟨o.slots,k b o (λz=>a (by simp[z])) e⟩) (λ_ _ _ _ n=>n)
  (λb o a e=>⟨o,k b o (λz=>a (by simp[z])) e⟩) (λ_ _ e=>e) (λ_ _ _ e=>e) (λb l e=>⟨#[],by rw[e];simp⟩) (λm j=>?_) (λb u e=>?_) I.bare
 .have e:b=it:=by simpa using g
  subst e;show(h1,hL,h2,h3)
 .let(o,i,h,f,r):=j;show(o,i,h,k _ o (gk hL) f,r)
 .show(I.hok b u e).stay (λc v a q=>k c v ?_ q) (λ_ q=>q) λ_ _ q=>q;rcases a with z | z
  .rw[z];show d b u e
  .show d c _ z
theorem Inv.tok(I:Inv X pins σ H s)(t:Nat):Inv X pins σ H { s with toks:=t }:=I.un (h':=s.heap) (t':=t) Un.refl I.hok
theorem Inv.kept(I:Inv X pins σ H s)(k:∀ b u,s.heap.get? b=some u->h'.get? b=some u):Inv X pins σ H { s with heap:=h',toks:=t' }:=I.un (Un.kept k) (I.hok.kept k)
variable{o:HO}
theorem Inv.laid(I:Inv X pins σ H s)(k:∀ b u,s.heap.get? b=some u->h'.get? b=some u)(hp:s.heap.objs.size<=a)(new:jh X.prog X.w (upd H a o) h' a o) :
  Inv X pins σ (upd H a o) { s with heap:=h',toks:=t' }:=I.un (Un.laid k hp (I.hok.fresh hp)) (I.hok.laid k hp new)
theorem Inv.write{x e:Addr}(I:Inv X pins σ H s)(mu:Mut (H x))(he:e=x\/H e=some (.own x))(k:∀ b u,b≠e->s.heap.get? b=some u->h'.get? b=some u)(heo:∃ u,h'.get? e=some u)
  (new:jh X.prog X.w (upd H x o) h' x o):Inv X pins σ (upd H x o) { s with heap:=h',toks:=t' }:=I.un (Un.write mu he k heo) (I.hok.write mu he k heo new)
theorem Inv.pins_of{pins':List (Addr × Obj)}(I:Inv X pins σ H s)(h:∀ p∈pins',s.heap.get? p.1=some p.2/\H p.1=none/\p.1≠X.env.locals/\p.1∉X.fs/\∀ v,p.2.data≠.cell v):Inv X pins' σ H s :=
 ⟨I.ok,I.os,I.bare,I.base,I.loc,I.cell,I.free,I.freeC,λp a=>(dk.mp a).elim (λz=>I.pin p (jF _ z)) (h p),I.hok,I.len⟩
variable{N:List Str}
theorem F2(hN:N.Nodup){i j:Nat}{x:Str}(a:N[i]?=some x)(b:N[j]?=some x):i=j:=by
 let(f,c):=aU.mp a;let(e,d):=aU.mp b;show(List.getElem_inj hN).mp (c.trans d.symm)
variable{M:Model}{x:Str}{v:V}{u:aX}{Q:Unit->da->Prop}
theorem GA{i:Nat}(I:Inv X pins σ H s)(hN:X.N.Nodup)(hi:X.N[i]?=some x)(hx:Loc X.env.scope x)(r:RelV v u)
  (h:∀ s',Inv X pins (σ.set i (some v)) H s'->(∃ a,lC a s.heap s'.heap/\(a=X.env.locals\/X.env.cells.lookup x=some a))->Q () s') (hf:autoParam (X.fn x=true\/X.env.scope.names.lookup x=some .local) Au):ei M A (storeName X.env x u) Q E s:=by
 let(m,hn,hl):=id I.loc;have R:(X.env.scope.kind == .class||(X.env.scope.kind == .module&&X.env.locals != X.env.globals))=false:=by rw[I.ok.kind];rfl
 have hiσ : i<σ.length:=by rw[I.len];show(aU.mp hi).1
 have D:=I.cne;have l:∀{a:Addr}{K:Heap},(∃ o,s.heap.get? a=some o/\H a=none)->lC a s.heap K->mS X.prog X.w H K:=λ{a K} ha f b ob e=>by
  let(_,_,B):=ha;show(I.hok b ob e).stay (λc T t q=>(f.2 c ?_).trans q) (λ_ q=>q) λ_ _ q=>q;rintro rfl;rcases t with rfl | t
  .rw[B]at e;cases e
  .rw[B]at t;cases t
 rcases hx with hk | hk
 .show wpAny_storeName_local hk hn (λK a1 f=>?_) R;let(oL,_,_,a0,_):=id hn;show h _ ⟨I.ok,I.os,I.bare,⟨λb o e n G hx=>?_,λb o e n G hx=>?_,I.base.free,λb o e hx=>?_,I.base.tups,I.base.frzs,I.base.tbls⟩,⟨_,a1,λj y v' g C e3=>?_⟩,λy c e=>?_,I.free,I.freeC,λp Z=>?_,l ⟨oL,a0,I.free⟩ f,by simpa using I.len⟩ ⟨_,f, .inl rfl⟩
  .show(f.2 b (dI (dO (dE e) I.ok.above))).trans (I.base.keep b o e n G hx)
  .let(sl,g):=I.base.slot b o e n G hx;show(sl,(f.2 b (dI (dO (dE e) I.ok.above))).trans g)
  .let(o',g):=I.base.there b o e hx;show(o',(f.2 b (dI (dO (dE e) I.ok.above))).trans g)
  .by_cases J:j=i
   .subst J;rw[hi]at g;cases g;rw[List.getElem?_set_self hiσ]at C;cases C;show(u,r, .inl ⟨hk,by simp⟩)
   .rw[List.getElem?_set_ne (gk J)]at C;let(u',Y,q):=hl j y v' g C e3;show(u',Y,?_);rcases q with⟨k,e⟩ | ⟨k,c,e,z⟩
    .show .inl ⟨k,?_⟩;have : y≠x:=λe=>J (F2 hN g (e ▸ hi));simp[this,e]
    .show .inr ⟨k,c,e,z.sameBut f (D y c e)⟩
  .let(T,z):=I.cell y c e;show(T,z.sameBut f (D y c e))
  .let(e,n,U,nf,d):=I.pin p Z;show((f.2 p.1 U).trans e,n,U,nf,d)
 .have F:X.fn x=true:=by
   rcases hf with z | z
   .show z
   .rw[z]at hk;cases hk
  let(c,t):=I.ok.has x (.inl hk);let(T,z):=I.cell x c t;show wpAny_storeName_cell I.ok.kind hk t z (λK P f=>?_);let(oc,L,S):=id z;show h { s with heap:=K } ⟨I.ok,I.os,I.bare,⟨λb o e n G hx=>?_,λb o e n G hx=>?_,I.base.free,λb o e hx=>?_,I.base.tups,I.base.frzs,I.base.tbls⟩,⟨m,hn.sameBut f (gk (D x c t)),λj y v' g C e3=>?_⟩,λy W e=>?_,I.free,I.freeC,λp Z=>?_,l ⟨oc,L,I.freeC x c t⟩ f,by simpa using I.len⟩ ⟨c,f, .inr t⟩
  .show(f.2 b (dI (dO (dE e) (I.ok.cab x c F t)))).trans (I.base.keep b o e n G hx)
  .let(sl,g):=I.base.slot b o e n G hx;show(sl,(f.2 b (dI (dO (dE e) (I.ok.cab x c F t)))).trans g)
  .let(o',g):=I.base.there b o e hx;show(o',(f.2 b (dI (dO (dE e) (I.ok.cab x c F t)))).trans g)
  .by_cases J:j=i
   .subst J;rw[hi]at g;cases g;rw[List.getElem?_set_self hiσ]at C;cases C;show(u,r, .inr ⟨.inl hk,c,t,P⟩)
   .rw[List.getElem?_set_ne (gk J)]at C;let(u',Y,q):=hl j y v' g C e3;show(u',Y,?_);rcases q with q | ⟨k,W,e,z'⟩
    .show .inl q
    .show .inr ⟨k,W,e,z'.sameBut f ?_⟩;rintro rfl;show J (F2 hN g (I.ok.inj _ _ _ e t ▸ hi))
  .by_cases O:W=c
   .subst O;show(_,P)
   .let(w2,z2):=I.cell y W e;show(w2,z2.sameBut f O)
  .let(e,n,U,nf,d):=I.pin p Z;show((f.2 p.1 ?_).trans e,n,U,nf,d);intro q;rw[q,L]at e;have q':oc=p.2:=eh e;show d T (by rw[<- q'];show S)
theorem yM{i:Nat}(I:Inv X pins σ H s)(hN:X.N.Nodup)(hi:X.N[i]?=some x)(hx:Loc X.env.scope x)(r:RelV v u)
  (h:∀ s',Inv X pins (σ.set i (some v)) H s'->Q () s') (hf:autoParam (X.fn x=true\/X.env.scope.names.lookup x=some .local) Au):ei M A (storeName X.env x u) Q E s :=
 GA I hN hi hx r (λs' I' _=>h s' I') hf
variable{s':da}
theorem Inv.call'(I:Inv X pins σ H s)(ho:s'.os=s.os)(u:Un (pw X.stack) ch H H' s.heap s'.heap)(hok:mS X.prog X.w H' s'.heap)(hg:AllBare s'.gens)
  (hch:∀ b∈ch,(b∈X.ex\/X.s₀.heap.objs.size<=b)/\b≠X.env.locals/\(∀ x c,X.env.cells.lookup x=some c->c≠b)/\∀ p∈X.pn++pins,p.1≠b):Inv X pins σ H' s':=by
 let(d,g',d',t',a):=s';have e:a=s.os:=ho;subst e;show I.call (g':=g') (t':=t') (d':=d') u hok hg hch
end
abbrev XK:=aX->Option Addr->Hp->Prop
abbrev St:=List (Option V)
abbrev VK:=V->Hp->Prop
abbrev TE:=St->Hp->VK->Prop
abbrev TT:=St->Hp->(Bool->Hp->Prop)->Prop
abbrev TA:=St->Hp->(List V->Hp->Prop)->Prop
structure Ends where
 nx:St->Hp->Prop
 rt:VK
 bk:St->Hp->Prop:=λ_ _=>False
 ct:St->Hp->Prop:=λ_ _=>False
abbrev TS:=Ends->St->Hp->Prop
def EP(X:Cx)(pins:List (Addr × Obj))(σ : St)(Q:VK)(u:aX)(s':da):Prop:=∃ v H',Inv X pins σ H' s'/\RelV v u/\Q v H'
def TP(X:Cx)(pins:List (Addr × Obj))(σ : St)(Q:Bool->Hp->Prop)(b:Bool)(s':da):Prop:=∃ H',Inv X pins σ H' s'/\Q b H'
def AP(X:Cx)(pins:List (Addr × Obj))(σ : St)(Q:List V->Hp->Prop)(us:List aX)(s':da):Prop:=∃ vs H',Inv X pins σ H' s'/\Vals vs us/\Q vs H'
def SP(X:Cx)(pins:List (Addr × Obj))(D:Ends)(f:Flow)(s':da):Prop :=
 match f with
 | .next=>∃ σ' H',Inv X pins σ' H' s'/\D.nx σ' H'
 | .brk=>∃ σ' H',Inv X pins σ' H' s'/\D.bk σ' H'
 | .cont=>∃ σ' H',Inv X pins σ' H' s'/\D.ct σ' H'
 | .ret u=>∃ v σ' H',Inv X pins σ' H' s'/\RelV v u/\D.rt v H'
def PE(X:Cx)(e:Expr)(t:TE):Prop :=
 ∀(pins:List (Addr × Obj))(s:da)(σ : St)(H:Hp)(Q:VK),Inv X pins σ H s->t σ H Q->ei (eO X.prog X.w) X.A (eval e X.env) (EP X pins σ Q) X.xe s
def PT(X:Cx)(e:Expr)(t:TT):Prop :=
 ∀(pins:List (Addr × Obj))(s:da)(σ : St)(H:Hp)(Q:Bool->Hp->Prop),Inv X pins σ H s->t σ H Q->ei (eO X.prog X.w) X.A (isTrue e X.env (eval e X.env)) (TP X pins σ Q) X.xe s
def PW(X:Cx)(e:Expr)(t:TT):Prop :=
 ∀(whole:Sem aX)(pins:List (Addr × Obj))(s:da)(σ : St)(H:Hp)(Q:Bool->Hp->Prop),Inv X pins σ H s->t σ H Q->ei (eO X.prog X.w) X.A (isTrue e X.env whole) (TP X pins σ Q) X.xe s
variable{X:Cx}{e:Expr}
theorem PW.pt{t:TT}(h:PW X e t):PT X e t:=h _
def PA(X:Cx)(es:List Expr)(t:TA):Prop :=
 ∀(pos:Pos)(pins:List (Addr × Obj))(s:da)(σ : St)(H:Hp)(Q:List V->Hp->Prop),Inv X pins σ H s->t σ H Q->ei (eO X.prog X.w) X.A (spliced (jq pos (eQ es X.env))) (AP X pins σ Q) X.xe s
def PS(X:Cx)(st:Stmt)(t:TS):Prop :=
 ∀(pins:List (Addr × Obj))(s:da)(σ : St)(H:Hp)(D:Ends),Inv X pins σ H s->t D σ H->ei (eO X.prog X.w) X.A (exec st X.env) (SP X pins D) X.xe s
def qg(X:Cx)(st:List Stmt)(t:TS):Prop :=
 ∀(pins:List (Addr × Obj))(s:da)(σ : St)(H:Hp)(D:Ends),Inv X pins σ H s->t D σ H->ei (eO X.prog X.w) X.A (execs st X.env) (SP X pins D) X.xe s
variable{M:Model}
theorem iF{α:Type}{t:Sem α}{Q Q' : α->da->Prop}{s:da}(h:ei M A t Q E s)(hQ:∀ a s,Q a s->Q' a s):ei M A t Q' E s:=gB h hQ λ_ _ x=>x
section
def yf(o:Option (Option V))(H:Hp)(Q:VK):Prop:=match o with
 | some (some v)=>Q v H
 | _=>False
theorem Lq{o:Option (Option V)}{Q:VK}(h:yf o H Q):∃ v,o=some (some v)/\Q v H:=by
 match o,h with
 | some (some v),h=>show(v,rfl,h)
def pY(x:V)(R:Bool->Prop):Prop:=match x with
 | .bl k=>R k
 | _=>False
theorem vD{x:V}{R:Bool->Prop}(h:pY x R):∃ k,x=.bl k/\R k:=by
 cases x with
 | bl k=>show(k,rfl,h)
 | _=>show h.elim
def qW(i:Nat):TE:=λσ H Q=>yf σ[i]? H Q
def tC(v:V):TE:=λ_ H Q=>Q v H
variable{x:Str}{pos:Pos}
theorem Kq{i:Nat}(hN:X.N[i]?=some x)(hv:AY X.env.scope x)(hd:autoParam ((x == ("__debug__" : Str))=false) Au)(hcd:autoParam ((x == ("__classdict__" : Str))=false) Au):PE X (.Name x pos) (qW i):=by
 intro b s σ H Q I h;let(v,e,h):=Lq h;let(m,d,f):=I.loc;let(u,r,l):=f i x v hN e hv;have a:EP X b σ Q u s:=⟨v,H,I,r,h⟩;rcases l with⟨hk,hm⟩ | ⟨hk,c,hc,hcell⟩
 .show wpAny_Name (wpAny_loadName_local I.ok.kind hk d hm a) hd
 .rcases hk with hk | hk
  .show wpAny_Name (wpAny_loadName_cell I.ok.kind hk hc hcell a) hd
  .show wpAny_Name (wpAny_loadName_free I.ok.kind hk hc hcell a hcd) hd
theorem gW{i j pos}:PE X (.Constant (.int i) j pos) (tC (.int i)):=λ_ _ _ H _ I h=>wpAny_Constant_int ⟨.int i,H,I.tok _,⟨_,rfl⟩,h⟩
theorem ja{b j pos}:PE X (.Constant (.bool b) j pos) (tC (.bl b)):=λ_ _ _ H _ I h=>Constant_bool ⟨.bl b,H,I,rfl,h⟩
theorem oQ{j pos}:PE X (.Constant .none j pos) (tC .non):=λ_ _ _ H _ I h=>Constant_none ⟨.non,H,I,rfl,h⟩
theorem rP{x j pos}:PE X (.Constant (.str x) j pos) (tC (.str x)):=λ_ _ _ H _ I h=>Calls.Constant_str ⟨.str x,H,I.tok _,⟨_,rfl⟩,h⟩
def Gl(X:Cx)(x:Str):Prop:=X.env.kindOf x=some .globalImplicit
variable{pins:List (Addr × Obj)}{σ:St}{u:aX}{Q:aX->da->Prop}
theorem yH{s:da}(I:Inv X pins σ H s)(hg:Gl X x)(hm:X.mg x=some u)(h:Q u s)
  (hd:autoParam ((x == ("__debug__" : Str))=false) Au):ei (eO X.prog X.w) X.A (eval (.Name x pos) X.env) Q E s :=
 Calls.Name_function_global I.ok.kind hg (Calls.loadGlobal_global (by rw[I.ok.glob];show I.mod.glob.keeps I.bk) hm h) hd
theorem sM{s:da}(I:Inv X pins σ H s)(hg:Gl X x)(hm:X.mg x=none)(hv:fo x=some u)(h:Q u s)
  (hn:autoParam (x≠"__name__") Au) (hd:autoParam ((x == ("__debug__" : Str))=false) Au):ei (eO X.prog X.w) X.A (eval (.Name x pos) X.env) Q E s:=by
 let(c,b,a):=I.mod.blt;show Calls.Name_function_global I.ok.kind hg (Calls.loadGlobal_builtin (by rw[I.ok.glob];show I.mod.glob.keeps I.bk) hm (by rw[I.ok.blt];show b.keeps I.bk) ((a x hn).trans hv) h) hd
variable{v:V}
theorem qP(hg:Gl X x)(hm:X.mg x=some u)(r:RelV v u)(hd:autoParam ((x == ("__debug__" : Str))=false) Au):PE X (.Name x pos) (tC v) :=
 λ_ _ _ H _ I h=>yH I hg hm ⟨v,H,I,r,h⟩ hd
theorem vH(hg:Gl X x)(hm:X.mg x=none)(hv:fo x=some u)(r:RelV v u)(hn:autoParam (x≠"__name__") Au)(hd:autoParam ((x == ("__debug__" : Str))=false) Au):PE X (.Name x pos) (tC v) :=
 λ_ _ _ H _ I h=>sM I hg hm hv ⟨v,H,I,r,h⟩ hn hd
variable{a b:Expr}{ta tb:TE}
def PC(X:Cx)(op:CmpOp)(a b:Expr)(t:TE):Prop :=
 ∀(pins:List (Addr × Obj))(s:da)(σ : St)(H:Hp)(Q:VK),Inv X pins σ H s->t σ H Q ->
  ei (eO X.prog X.w) X.A (eval a X.env) (λv s₁=>ei (eO X.prog X.w) X.A (eval b X.env) (λu s₂=>ei (eO X.prog X.w) X.A (fY op v u) (EP X pins σ Q) X.xe s₂) X.xe s₁) X.xe s
def tB(t:TE):TT:=λσ H Q=>t σ H λx H1=>pY x λc=>Q c H1
variable{op:CmpOp}
theorem Kr{t:TE}(h:PC X op a b t)(h1:autoParam (lq op b=false) Au):PE X (.Compare a [op] [b] pos) t:=λc s σ H Q I d=>wpAny_Compare1 (h c s σ H Q I d) h1
theorem oP{t:TE}(h:PC X op a b t)(h1:autoParam (lq op b=false) Au):PT X (.Compare a [op] [b] pos) (tB t):=by
 intro e s σ H Q I j;show wpAny_isTrue_Compare1 (iF (h e s σ H _ I j) λv n h1=>iF h1 λu m f=>iF f λc l ζ=>?_) h1;let(x,k,I1,g,i):=ζ;let(d,rfl,q):=vD i;cases g;show jb ⟨k,I1,q⟩
theorem mR{t:TE}(h:PE X e t)(he:autoParam (∀ whole,isTrue e X.env whole=(do let v <- whole;standAt e.pos;holding [v] (truthy v))) Au):PT X e (tB t):=by
 intro a s σ H Q I b;show isTrue_plain (iF (h a s σ H _ I b) λv i ζ=>?_) (he _);let(x,f,I1,c,g):=ζ;let(d,rfl,q):=vD g;cases c;show jb ⟨f,I1,q⟩
variable{tA tB':TT}{rest:List Expr}
def wL(t u:TT):TT:=λσ H Q=>t σ H λc H1=>if c=true then u σ H1 Q else Q false H1
def Eb(t u:TT):TT:=λσ H Q=>t σ H λc H1=>if c=true then Q true H1 else u σ H1 Q
def wG(t:TT):TT:=λσ H Q=>t σ H λc H1=>Q (!c) H1
theorem Br(ha:PT X a tA):PW X (.BoolOp .And [a] pos) tA:=by
 intro d b s σ H Q I h;show isTrue_and (iF (ha b s σ H Q I h) λc f e=>?_);cases c with
 | true=>show isTrue_and_nil e
 | false=>show e
theorem pM(ha:PT X a tA):PW X (.BoolOp .Or [a] pos) tA:=by
 intro d b s σ H Q I h;show isTrue_or (iF (ha b s σ H Q I h) λc f e=>?_);cases c with
 | false=>show isTrue_or_nil e
 | true=>show e
theorem A8(ha:PT X a tA)(hb:PW X (.BoolOp .And (b::rest) pos) tB'):PW X (.BoolOp .And (a::b::rest) pos) (wL tA tB'):=by
 intro g d s σ H Q I h;show isTrue_and (iF (ha d s σ H _ I h) λc i ζ=>?_);let(e,I1,f):=ζ;cases c with
 | true=>show hb g d i σ e Q I1 f
 | false=>show(e,I1,f)
theorem kF(ha:PT X a tA)(hb:PW X (.BoolOp .Or (b::rest) pos) tB'):PW X (.BoolOp .Or (a::b::rest) pos) (Eb tA tB'):=by
 intro g d s σ H Q I h;show isTrue_or (iF (ha d s σ H _ I h) λc i ζ=>?_);let(e,I1,f):=ζ;cases c with
 | true=>show(e,I1,f)
 | false=>show hb g d i σ e Q I1 f
theorem oH(ha:PT X a tA):PT X (.UnaryOp .Not a pos) (wG tA):=by
 intro b s σ H Q I h;show isTrue_not (ha b s σ H (λc d=>Q (!c) d) I h)
def tK(ta tb:TE):TE:=λσ H Q=>ta σ H λx H1=>pY x λc=>if c=true then tb σ H1 Q else Q (.bl false) H1
def wF(ta tb:TE):TE:=λσ H Q=>ta σ H λx H1=>pY x λc=>if c=true then Q (.bl true) H1 else tb σ H1 Q
def tF(ta:TE):TE:=λσ H Q=>ta σ H λx H1=>pY x λc=>Q (.bl (!c)) H1
theorem sP{op}{t:TE}(h:PE X a t):PE X (.BoolOp op [a] pos) t:=λb s σ H Q I c=>BoolOp_one (h b s σ H Q I c)
theorem qN(ha:PE X a ta)(hb:PE X (.BoolOp .And (b::rest) pos) tb):PE X (.BoolOp .And (a::b::rest) pos) (tK ta tb):=by
 intro d s σ H Q I h;show BoolOp_and (iF (ha d s σ H _ I h) λv i ζ=>?_);let(x,f,I1,g,e):=ζ;let(c,rfl,e):=vD e;cases g;show jb ?_;cases c with
 | true=>show hb d i σ f Q I1 e
 | false=>show(.bl false,f,I1,rfl,e)
theorem wY(ha:PE X a ta)(hb:PE X (.BoolOp .Or (b::rest) pos) tb):PE X (.BoolOp .Or (a::b::rest) pos) (wF ta tb):=by
 intro d s σ H Q I h;show BoolOp_or (iF (ha d s σ H _ I h) λv i ζ=>?_);let(x,f,I1,g,e):=ζ;let(c,rfl,e):=vD e;cases g;show jb ?_;cases c with
 | false=>show hb d i σ f Q I1 e
 | true=>show(.bl true,f,I1,rfl,e)
theorem yu(ha:PE X a ta):PE X (.UnaryOp .Not a pos) (tF ta):=by
 intro b s σ H Q I h;show UnaryOp_ (iF (ha b s σ H _ I h) λv g ζ=>?_);let(x,f,I1,e,d):=ζ;let(c,rfl,d):=vD d;cases e;show not_of (jb ⟨.bl (!c),f,I1,rfl,d⟩)
def Ec(t:TT)(ta tb:TE):TE:=λσ H Q=>t σ H λc H1=>if c=true then ta σ H1 Q else tb σ H1 Q
variable{c:Expr}
theorem FZ(hc:PT X c tA)(ha:PE X a ta)(hb:PE X b tb):PE X (.IfExp c a b pos) (Ec tA ta tb):=by
 intro e s σ H Q I h;show wpAny_IfExp (iF (hc e s σ H _ I h) λd f ζ=>?_);let(g,I1,i):=ζ;cases d with
 | true=>show ha e f σ g Q I1 i
 | false=>show hb e f σ g Q I1 i
end
def fI(K:aW)(H:Hp)(a:Addr)(xs:List V):Prop :=
 Rd H a (.lst xs) \/
  ∃(o:Obj)(its:Array aX)(n:Nat),K.lookup a=some o/\o.cls=.type "list"/\o.dict=none/\o.data=.seq its n/\its.size<=sizeLine/\Vals xs its.toList
def gZ(K:aW)(H:Hp)(a:Addr)(xs:List V):Prop :=
 Rd H a (.tup xs) \/
  ∃(o:Obj)(its:Array aX)(n:Nat),K.lookup a=some o/\o.cls=.type "tuple"/\o.data=.seq its n/\its.size<=sizeLine/\Vals xs its.toList
def absV:aX->Option V
 | .none=>some .non
 | .bool b=>some (.bl b)
 | .int i _=>some (.int i)
 | .str x _=>some (.str x)
 | .bytes b _=>some (.byt b)
 | .float b _=>some (.flt b)
 | .ref a=>some (.ref a)
 | .type n=>some (.ty n)
 | _=>none
variable{x:V}{u:aX}
theorem RelV.abs(r:RelV x u):absV u=some x:=by
 cases x with
 | non=>cases r;rfl
 | bl _=>cases r;rfl
 | int _=>let(t,rfl):=r;rfl
 | str _=>let(t,rfl):=r;rfl
 | byt _=>let(t,rfl):=r;rfl
 | flt _=>let(t,rfl):=r;rfl
 | ref _=>cases r;rfl
 | ty _=>cases r;rfl
theorem RelV.inj{y:V}(r:RelV x u)(q:RelV y u):x=y:=eh (r.abs.symm.trans q.abs)
theorem Vals.inj(h:Vals xs us)(k:Vals ys us):xs=ys:=by
 induction h generalizing ys with
 | nil=>cases k;rfl
 | cons r _ ih=>
  cases k with
  | cons q s=>rw[r.inj q,ih s]
section
variable{pins:List (Addr × Obj)}{σ:St}{s:da}
theorem fI.of{K:aW}(h:H a=some (.lst xs)):fI K H a xs:=.inl (.inl h)
theorem gZ.of{K:aW}(h:H a=some (.tup xs)):gZ K H a xs:=.inl (.inl h)
theorem Inv.list(I:Inv X pins σ H s)(h:fI X.K H a xs):∃ its:List aX,Vals xs its/\PlainL s.heap a its.toArray/\xs.length<=sizeLine:=by
 rcases h with h | ⟨o,its,n,hk,hc,hd,hs,hz,r⟩
 .let(z,its,n,r,e):=h.ok I.hok;show(its,r,⟨_,n,e,rfl,rfl,rfl⟩,z)
 .show(its.toList,r,⟨o,n,I.kIn a o hk,hc,hd,by simpa using hs⟩,?_);have e:=r.length;simp only[iA]at e;ac_nf
theorem Inv.tuple(I:Inv X pins σ H s)(h:gZ X.K H a xs):∃ its:List aX,Vals xs its/\IsTup s.heap a its.toArray/\xs.length<=sizeLine:=by
 rcases h with h | ⟨o,its,n,hk,hc,hs,hz,r⟩
 .let(z,its,r,p):=h.ok I.hok;show(its,r,p,z)
 .show(its.toList,r,⟨o,I.kIn a o hk,hc,n,by simpa using hs⟩,?_);have e:=r.length;simp only[iA]at e;ac_nf
theorem Inv.list_inj(I:Inv X pins σ H s)(h:fI X.K H a xs)(h':fI X.K H a ys):xs=ys:=by
 let(c,r,(o,n,e,_,_,d),_):=I.list h;let(b,i,(j,k,g,_,_,f),_):=I.list h';rw[e]at g;cases g;rw[d]at f;injection f with d1 _
 have : c=b:=by simpa using congrArg Array.toList d1
 subst this;show r.inj i
theorem Inv.tuple_inj(I:Inv X pins σ H s)(h:gZ X.K H a xs)(h':gZ X.K H a ys):xs=ys:=by
 let(c,r,(o,e,_,n,d),_):=I.tuple h;let(b,i,(j,g,_,k,f),_):=I.tuple h';rw[e]at g;cases g;rw[d]at f;injection f with d1 _
 have : c=b:=by simpa using congrArg Array.toList d1
 subst this;show r.inj i
end
abbrev Cx.wish(X:Cx)(E:aX->da->Prop):Cx:={ X with xe:=E }
abbrev Cx.nox(X:Cx):Cx:=X.wish λ_ _=>False
theorem Cx.Ok.wish(ok:X.Ok)(E:aX->da->Prop):(X.wish E).Ok :=
 ⟨ok.mod,ok.kind,ok.glob,ok.blt,ok.above,ok.inj,ok.has,ok.cab,ok.hd,ok.frames,ok.stk,ok.exf,ok.bs,ok.bsz,ok.noex,ok.exfs,ok.funs,ok.frf⟩
theorem Cx.Ok.unwish(ok:(X.wish E).Ok):X.Ok :=
 ⟨ok.mod,ok.kind,ok.glob,ok.blt,ok.above,ok.inj,ok.has,ok.cab,ok.hd,ok.frames,ok.stk,ok.exf,ok.bs,ok.bsz,ok.noex,ok.exfs,ok.funs,ok.frf⟩
section
variable{pins:List (Addr × Obj)}{σ:St}{s:da}
theorem Inv.wish(I:Inv X pins σ H s)(E:aX->da->Prop):Inv (X.wish E) pins σ H s:=⟨I.ok.wish E,I.os,I.bare,I.base,I.loc,I.cell,I.free,I.freeC,I.pin,I.hok,I.len⟩
theorem Inv.unwish(I:Inv (X.wish E) pins σ H s):Inv X pins σ H s:=⟨I.ok.unwish,I.os,I.bare,I.base,I.loc,I.cell,I.free,I.freeC,I.pin,I.hok,I.len⟩
variable{s':da}
theorem SP.unwish{D:Ends}{f:Flow}(h:SP (X.wish E) pins D f s'):SP X pins D f s':=by
 cases f with
 | next=>let(σ',a,I,q):=h;show(σ',a,I.unwish,q)
 | brk=>let(σ',a,I,q):=h;show(σ',a,I.unwish,q)
 | cont=>let(σ',a,I,q):=h;show(σ',a,I.unwish,q)
 | ret u=>let(v,σ',a,I,r,q):=h;show(v,σ',a,I.unwish,r,q)
theorem qg.nox{st:List Stmt}{t:TS}(h:qg X.nox st t):qg X st t:=λa s σ H D I b=>
 gB (h a s σ H D (I.wish _) b) (λ_ _ q=>q.unwish) λ_ _ z=>ix z
end
section
variable{st:Stmt}{u:TS}{te:TE}{pos:Pos}{rest:List Stmt}{t:TS}
def tNext:TS:=λD σ H=>D.nx σ H
def gP(t u:TS):TS:=λD σ H=>t { D with nx:=u D } σ H
theorem ki:qg X [] tNext:=λ_ _ σ H _ I h=>wpAny_execs_nil ⟨σ,H,I,h⟩
theorem fi(h1:PS X st t)(h2:qg X rest u):qg X (st::rest) (gP t u):=by
 intro a s σ H D I h;show wpAny_execs_cons (iF (h1 a s σ H { D with nx:=u D } I h) λf c q=>?_);cases f with
 | next=>
  let(σ',b,I',q):=q;show h2 a c σ' b D I' q
 | ret v=>show q
 | brk=>show q
 | cont=>show q
theorem fT(h1:PS X st t):qg X [st] t:=by
 intro a s σ H D I h;show wpAny_execs_cons (iF (h1 a s σ H D I h) λf b q=>?_);cases f with
 | next=>show wpAny_execs_nil q
 | ret v=>show q
 | brk=>show q
 | cont=>show q
variable{pins:List (Addr × Obj)}{σ:St}
theorem Inv.quiet{s:da}(I:Inv X pins σ H s):interactive X.env=false:=by simp[interactive,I.ok.kind]
def tG(te:TE):TS:=λD σ H=>te σ H λ_ H1=>D.nx σ H1
theorem nX(he:PE X e te)(hs:autoParam (swapsWith e none pos.line X.env=pure false) Au):PS X (.Expr e pos) (tG te):=by
 intro a s σ H D I h;show wpAny_Expr_any (iF (he a s σ H _ I h) λv f ζ=>by let(x,b,I1,d,c):=ζ;show(σ,b,I1,c)) I.quiet hs
def mh(te:TE):TS:=λD σ H=>te σ H D.rt
theorem iO(he:PE X e te):PS X (.Return (some e) pos) (mh te):=by
 intro a s σ H D I h;show wpAny_Return_some (iF (he a s σ H _ I h) λv f ζ=>by let(x,c,I1,b,d):=ζ;show(x,σ,c,I1,b,d))
def tRetN:TS:=λD _ H=>D.rt .non H
def ud(c:TT)(t u:TS):TS:=λD σ H=>c σ H λb H1=>if b=true then t D σ H1 else u D σ H1
variable{c:Expr}{tc:TT}
theorem fX{a b:List Stmt}(hc:PT X c tc)(ha:qg X a t)(hb:qg X b u):PS X (.If c a b pos) (ud tc t u):=by
 intro e s σ H D I h;show wpAny_If (iF (hc e s σ H _ I h) λd f ζ=>?_);let(g,I1,i):=ζ;cases d with
 | true=>show ha e f σ g D I1 i
 | false=>show hb e f σ g D I1 i
end
abbrev TG:=V->St->Hp->(St->Hp->Prop)->Prop
abbrev rN:=List V->St->Hp->(St->Hp->Prop)->Prop
def PG(X:Cx)(target:Expr)(t:TG):Prop :=
 ∀(pins:List (Addr × Obj))(s:da)(σ : St)(H:Hp)(v:V)(u:aX)(Q:St->Hp->Prop),Inv X pins σ H s->RelV v u->t v σ H Q ->
  ei (eO X.prog X.w) X.A (assign target X.env u) (λ_ s'=>∃ σ' H',Inv X pins σ' H' s'/\Q σ' H') X.xe s
def vq(X:Cx)(ts:List Expr)(t:rN):Prop :=
 ∀(pins:List (Addr × Obj))(s:da)(σ : St)(H:Hp)(vs:List V)(us:List aX)(Q:St->Hp->Prop),Inv X pins σ H s->Vals vs us->t vs σ H Q ->
  ei (eO X.prog X.w) X.A (assignInOrder ((kT ts X.env).map (·.2)) us) (λ_ s'=>∃ σ' H',Inv X pins σ' H' s'/\Q σ' H') X.xe s
variable{pos:Pos}
def p4(i:Nat):TG:=λv σ H Q=>Q (σ.set i (some v)) H
variable{x:Str}
theorem iV(i:Nat)(hN:X.N.Nodup)(hi:autoParam (X.N[i]?=some x) Au)(hx:autoParam (Loc X.env.scope x) Au)(hf:autoParam (X.fn x=true\/X.env.scope.names.lookup x=some .local) Au):PG X (.Name x pos) (p4 i):=by
 intro a s σ H v u Q I r h;show wpAny_assign_Name (yM I hN hi hx r (λb I'=>⟨_,H,I',h⟩) hf)
def gNil:rN:=λvs σ H Q=>vs=[]/\Q σ H
def p5(t:TG)(u:rN):rN:=λvs σ H Q=>∃ v r,vs=v::r/\t v σ H λσ' H'=>u r σ' H' Q
theorem rC:vq X [] gNil:=by
 intro a s σ H c b Q I r h;let(e,h):=h;subst e;cases r;show assignInOrder_nil ⟨σ,H,I,h⟩
variable{es:List Expr}
theorem mK{t:TG}{u:rN}(h1:PG X e t)(h2:vq X es u)
  (hs:autoParam ((kT (e::es) X.env).map (·.2)=assign e X.env::(kT es X.env).map (·.2)) Au):vq X (e::es) (p5 t u):=by
 intro a s σ H j i Q I r h;let(v,g,b,h):=h;subst b;cases r with
 | cons r rr=>
  rw[hs];show assignInOrder_cons (iF (h1 a s σ H _ _ _ I r h) λ_ c ζ=>?_);let(σ1,d,I1,f):=ζ;show h2 a c σ1 d _ _ Q I1 rr f
def xn(K:aW)(n:Nat)(t:rN):TG:=λv σ H Q=>∃ a xs,v=.ref a/\gZ K H a xs/\xs.length=n/\t xs σ H Q
theorem sO{k:Nat}{t:rN}{n:Nat}(hc:X.calm=true)(h:vq X es t)
  (hn:autoParam ((kT es X.env).length=n) Au) (hst:autoParam ((kT es X.env).findIdx? (·.1)=none) Au):PG X (.Tuple es k pos) (xn X.K n t):=by
 intro c s σ H v u Q I r d;let(a,m,l,i,w,d):=d;subst l;cases r;let(j,f,p,x):=I.tuple i;show assign_Tuple_tuple (I.ok.hd hc) p (by simp[hn, <- w,f.length]) hst λg q=>?_;have I1:Inv X c σ H { s with heap:=g }:=I.kept (t':=s.toks) λb o e=>q b o (dI (dE e)) e;show h c _ σ H m _ Q I1 (by simpa using f) d
def qp(te:TE)(g:TG):TS:=λD σ H=>te σ H λx H1=>g x σ H1 D.nx
variable{tg:Expr}{te:TE}
theorem EW{g:TG}(he:PE X e te)(hg:PG X tg g)(hs:autoParam (swapsWithSole [tg] e pos.line X.env=pure false) Au)(hw:autoParam (swappedStores [tg] e X.env=pure none) Au)
  (h1:autoParam ((kT [tg] X.env).map (·.2)=[assign tg X.env]) Au):PS X (.Assign [tg] e pos) (qp te g):=by
 intro a s σ H D I h;show wpAny_Assign_stores (iF (he a s σ H _ I h) λv c ζ=>?_) hs hw;let(x,d,I1,b,f):=ζ;rw[h1];show iF (hg a c σ d x v _ I1 b f) λ_ i q=>q
variable{pos':Pos}
theorem gI(i:Nat)(hN:X.N.Nodup)(he:PE X e te)(hi:autoParam (X.N[i]?=some x) Au)(hx:autoParam (Loc X.env.scope x) Au)(hs:autoParam (swapsWith e (some (.Name x pos')) pos.line X.env=pure false) Au)(hf:autoParam (X.fn x=true\/X.env.scope.names.lookup x=some .local) Au) :
  PS X (.Assign [.Name x pos'] e pos) (qp te (p4 i)):=by
 intro a s σ H D I h;show wpAny_Assign_Name (iF (he a s σ H _ I h) λv g ζ=>?_) hs;let(y,c,I1,b,d):=ζ;show yM I1 hN hi hx b (λf I2=>⟨_,c,I2,d⟩) hf
def ua(i j:Nat)(ta:TA):TS:=λD σ H=>ta σ H λvs H1=>∃ v w,vs=[v,w]/\D.nx ((σ.set i (some v)).set j (some w)) H1
variable{a:Expr}{ta:TA}
theorem EU{i j:Nat}{y:Str}{b:Expr}{px py pt:Pos}{kt k2 pt2}(hc:X.calm=true)(hN:X.N.Nodup)(hi:X.N[i]?=some x)(hj:X.N[j]?=some y)(hij:i≠j)
  (hx:X.env.scope.names.lookup x=some .local) (hy:X.env.scope.names.lookup y=some .local) (ha:PA X [a,b] ta)
  (hw:swappedStores [.Tuple [.Name x px, .Name y py] kt pt] (.Tuple [a,b] k2 pt2) X.env=pure (some [x,y]))
  (hs:autoParam (swapsWithSole [.Tuple [.Name x px, .Name y py] kt pt] (.Tuple [a,b] k2 pt2) pos.line X.env=pure false) Au) :
  PS X (.Assign [.Tuple [.Name x px, .Name y py] kt pt] (.Tuple [a,b] k2 pt2) pos) (ua i j ta):=by
 intro c s σ H D I h;rw[exec_Assign_arm];show du (wpAny_standAt ?_);rw[hs];show du (dU ?_);rw[if_neg ⋯];show du (Tuple_ (iF (ha _ c s σ H _ I h) λu g ζ=>?_));let(B,n,I1,r,l):=ζ;let(v,w,t,l):=l;subst t;obtain⟨f,d,rfl,z,k⟩:∃ f d,u=[f,d]/\RelV v f/\RelV w d:=by
  cases r with
  | cons p q=>
   cases q with
   | cons p' q'=>
    cases q';show(_,_,rfl,p,p')
 show jd ?_ (by show 2<=sizeLine;decide);have I2:Inv X c σ n { g with heap:=g.heap.push { cls:=.type "tuple",data:=.seq [f,d].toArray } }:=I1.kept (t':=g.toks) λb o e=>df _ e;rw[hw];show du (dU ?_);show ei (eO X.prog X.w) X.A (do rule "assign.swapped-stores";let items <- unpackItems (.ref g.heap.objs.size) 2 none;assignInOrder [λv=>bindName X.env y v,λv=>bindName X.env x v] items.reverse;pure Flow.next) _ _ _;show du (wpAny_rule (du (unpackItems_tuple (items:=#[f,d]) (I.ok.hd hc) (IsTup.new g.heap _) λh' m=>?_)));have I3:=I2.kept (h':=h') (t':=g.toks) λb o e=>m b o (dI (dE e)) e;show ei _ _ (assignInOrder [λv=>bindName X.env y v,λv=>bindName X.env x v] [d,f] >>= λ_=>pure Flow.next) _ _ _;show du (assignInOrder_cons (wpAny_bindName (yM I3 hN hj (.inl hy) k (λE I4=>?_) (.inr hy))));show assignInOrder_cons (wpAny_bindName (yM I4 hN hi (.inl hx) z (λC I5=>assignInOrder_nil (dU ?_)) (.inr hx)));rw[List.set_comm _ _ (gk hij)]at I5;show(_,n,I5,l)
def J8(c:TT)(tb:TS):TS:=λD σ H=>∃ W:Nat->St->Hp->Prop,(∃ m,W m σ H)/\∀ m σ H,W m σ H ->
 c σ H λb H1=>if b=true then∃ N:St->Hp->Prop,(∀ σ' H',N σ' H'->∃ m',m'<m/\W m' σ' H')/\tb { D with nx:=N,ct:=N,bk:=D.nx } σ H1 else D.nx σ H1
variable{c:Expr}{body:List Stmt}{tb:TS}
theorem xM{tc:TT}(hp:PassesOwn (eO X.prog X.w) X.A X.env X.xe)(hc:PT X c tc)(hb:qg X body tb):PS X (.While c body [] pos) (J8 tc tb):=by
 intro a s σ H D I h;let(W,(t,r),d):=h;show wpAny_While (codeAny_whileLoop (λn u=>∃ σ' H',Inv X a σ' H' u/\W n σ' H') ?_ t ⟨σ,H,I,r⟩);rintro n z ⟨σ1,q,I1,y⟩;show jD hp (iF (hc a z σ1 q _ I1 (d n σ1 q y)) λb x ζ=>?_);let(p,I2,g):=ζ;cases b with
 | true=>
  let(N,o,g):=g;rw[if_pos rfl];show jD hp (iF (hb a x σ1 p _ I2 g) λf B i=>?_);cases f with
  | next=>
   let(σ3,e,I3,j):=i;let(k,l,m):=o σ3 e j;show(k,l,σ3,e,I3,m)
  | cont=>
   let(σ3,e,I3,j):=i;let(k,l,m):=o σ3 e j;show(k,l,σ3,e,I3,m)
  | brk=>show i
  | ret v=>show i
 | false=>
  rw[if_neg dY];show wpAny_execs_nil ⟨σ1,p,I2,g⟩
structure It where
 go:Nat->Hp->Prop
 yld:Nat->Hp->V->Hp->Prop
 stop:Nat->Hp->Prop
def nY(X:Cx)(pins:List (Addr × Obj))(H:Hp)(b:Addr):Prop :=
 H b=none/\b≠X.env.locals/\b∉X.fs/\(b∈X.ex\/X.s₀.heap.objs.size<=b)/\(∀ x c,X.env.cells.lookup x=some c->c≠b)/\∀ p∈X.pn++pins,p.1≠b
variable{pins:List (Addr × Obj)}{σ:St}{H':Hp}
theorem Inv.fpOk{s:da}(I:Inv X pins σ H s)(hb:s.heap.objs.size<=b)(hn:H' b=none):nY X pins H' b:=by
 show(hn,gT (dO I.lt hb),I.nofs hb, .inr (fG I.sz hb),λx c e z=>?_,λp a z=>?_)
 .let(v,q):=I.cell x c e;show absurd (dO q.lt (by rw[z];show hb)) (ju _)
 .show absurd (dO (dE (I.pin p a).1) (by rw[z];show hb)) (ju _)
structure Turn(P:fH)(w:fA)(K:aW)(tg:Expr)(J:It)(fp:List Addr)(it:Addr)(tn:Nat->Heap->Prop):Prop where
 mem:it∈fp
 obj:∀ i h,tn i h->∀ b∈fp, ∃ o,h.get? b=some o/\∀ v,o.data≠.cell v
 keep:∀ i h h',tn i h->(∀ b∈fp, ∀ o,h.get? b=some o->h'.get? b=some o)->tn i h'
 item:∀(X:Cx),X.prog=P->X.w=w->X.K=K->X.calm=true->∀(i:Nat)(pins:List (Addr × Obj))(s:da)(σ : St)(H:Hp)(E:aX->da->Prop),Inv X pins σ H s->(∀ b∈fp,nY X pins H b)->tn i s.heap->J.go i H ->
  ei (eO P w) X.A (pyNext (.ref it)) (λr s1=>∃ u,r=some u /\
   ei (eO P w) X.A (letOwnedTupleGo tg (.ref it) u) (λ_ s2=>∃ x H',Inv X pins σ H' s2/\RelV x u/\J.yld i H x H'/\tn (i+1) s2.heap/\∀ b∈fp,H' b=none) E s1) E s
 done:∀(X:Cx),X.prog=P->X.w=w->X.K=K->X.calm=true->∀(i:Nat)(pins:List (Addr × Obj))(s:da)(σ : St)(H:Hp)(E:aX->da->Prop),Inv X pins σ H s->(∀ b∈fp,nY X pins H b)->tn i s.heap->J.stop i H ->
  ei (eO P w) X.A (pyNext (.ref it)) (λr s1=>r=none/\Inv X pins σ H s1) E s
 self:∀(A:fZ)(i:Nat)(s:da)(Q:aX->da->Prop)(E:aX->da->Prop),tn i s.heap->Q (.ref it) s->ei (eO P w) A (pyIter (.ref it)) Q E s
abbrev TI:=St->Hp->(It->Hp->Prop)->Prop
def yi(X:Cx)(pins:List (Addr × Obj))(σ : St)(tg:Expr)(R:It->Hp->Prop)(itv:aX)(s2:da):Prop :=
 ∃(it:Addr)(fp:List Addr)(tn:Nat->Heap->Prop)(J:It)(H':Hp),itv=.ref it/\Inv X pins σ H' s2/\Turn X.prog X.w X.K tg J fp it tn/\tn 0 s2.heap/\(∀ b∈fp,nY X pins H' b)/\R J H'
def PI(X:Cx)(tg iter:Expr)(wi:TI):Prop :=
 ∀(pins:List (Addr × Obj))(s:da)(σ : St)(H:Hp)(R:It->Hp->Prop),Inv X pins σ H s->wi σ H R ->
  ei (eO X.prog X.w) X.A (eval iter X.env) (λv s1=>ei (eO X.prog X.w) X.A (pyIter v) (yi X pins σ tg R) X.xe s1) X.xe s
theorem nI{s:da}{it:Addr}{n:String}{vs:Array aX}{Q:Unit->da->Prop}(ho:s.heap.get? it=some o)(hc:o.cls=.type n)(hd:o.data=.fields vs)
    (hn:["enumerate","zip","dict_itemiterator","dict_reverseitemiterator","odict_iterator","itertools.zip_longest","itertools.pairwise"].contains n=false) (hQ:Q () s):ei M A (letOwnedTupleGo tg (.ref it) u) Q E s:=by
  unfold letOwnedTupleGo;cases tg <;> first
    | show dU hQ
    | (cases u <;> first
        | show dU hQ
        | (show du (wpAny_load ho ?_)
           rw[hc,hd];show ei M A (if(["enumerate","zip","dict_itemiterator","dict_reverseitemiterator","odict_iterator","itertools.zip_longest","itertools.pairwise"].contains n&&vs[0]? == some (rawInt _))=true then _ else _) Q E s;rw[if_neg (by intro h;rw[hn,Bool.false_and]at h;cases h)];show dU hQ))
def qS(K:aW)(a:Addr):It :=
 ⟨λi H=>∃ xs x,fI K H a xs/\xs[i]?=some x,λi H x H'=>H'=H/\∀ xs,fI K H a xs->xs[i]?=some x,λi H=>∃ xs,fI K H a xs/\xs.length<=i⟩
def uY(K:aW)(a:Addr):It :=
 ⟨λi H=>∃ xs x,gZ K H a xs/\xs[i]?=some x,λi H x H'=>H'=H/\∀ xs,gZ K H a xs->xs[i]?=some x,λi H=>∃ xs,gZ K H a xs/\xs.length<=i⟩
def rY(lo:Int)(n:Nat):It:=⟨λi _=>i<n,λi H x H'=>H'=H/\x=.int (lo+i),λi _=>n<=i⟩
theorem Mg{w:fA}{K:aW}(a it:Addr):Turn P w K tg (qS K a) [it] it (λi h=>h.IsListIter it a i) where
 mem:=by simp
 obj:=λi h f b j=>by
  have e:b=it:=by simpa using j
  subst e;let(o,e,c,d):=f;show(o,e,λv z=>by rw[d]at z;cases z)
 keep:=λi h n f k=>f.at λo e=>k it (by simp) o e
 item:=by
  intro X r D y N i g s σ H E I m f C;subst r D y;let(T,x,q,G):=C;let(A,L,p,V):=I.list q;let(u,S,U):=L.get G;let(t,M,Y,J,F,B):=m it (by simp);show wpAny_pyNext_list_item f p.isList (x:=u) (by simpa using S) λn l O=>?_;have I1:Inv X g σ H { s with heap:=n }:=I.turned (t':=s.toks) (λb o j e=>(O.2 b j).trans e) t M J F B;let(o,e,c,d):=id l;show(u,rfl,nI (s:={ s with heap:=n }) e c d ⋯ ⟨x,H,I1,U,⟨rfl,λZ R=>by rw[I.list_inj R q];show G⟩,l,λb j=>(m b j).1⟩)
 done:=by
  intro X r D y N i g s σ H E I m f C;subst r D y;let(T,q,G):=C;let(A,L,p,V):=I.list q;let(t,M,Y,J,F,B):=m it (by simp);have hl:=L.length;show wpAny_pyNext_list_end (I.ok.hd N) f p.isList (by simp;ac_nf) λn Q=>⟨rfl,I.turned (t':=s.toks) (λb o j e=>Q b o j e) t M J F B⟩
 self:=λ_ _ _ _ _ f h=>wpAny_pyIter_listiter f h
theorem Mz{w:fA}{K:aW}(a it:Addr):Turn P w K tg (uY K a) [it] it (λi h=>h.IsTupleIter it a i) where
 mem:=by simp
 obj:=λi h f b j=>by
  have e:b=it:=by simpa using j
  subst e;let(o,e,c,d):=f;show(o,e,λv z=>by rw[d]at z;cases z)
 keep:=λi h q f k=>f.at λo e=>k it (by simp) o e
 item:=by
  intro X t D A N i g s σ H E I n f C;subst t D A;let(T,x,r,G):=C;let(l,L,p,V):=I.tuple r;let(u,S,U):=L.get G;let(y,M,Y,J,F,B):=n it (by simp);show wpAny_pyNext_tuple_item f (show s.heap.IsTuple a l.toArray from p) (x:=u) (by simpa using S) λq m O=>?_;have I1:Inv X g σ H { s with heap:=q }:=I.turned (t':=s.toks) (λb o j e=>(O.2 b j).trans e) y M J F B;let(o,e,c,d):=id m;show(u,rfl,nI (s:={ s with heap:=q }) e c d ⋯ ⟨x,H,I1,U,⟨rfl,λZ R=>by rw[I.tuple_inj R r];show G⟩,m,λb j=>(n b j).1⟩)
 done:=by
  intro X t D A N i g s σ H E I n f C;subst t D A;let(T,r,G):=C;let(l,L,p,V):=I.tuple r;let(y,M,Y,J,F,B):=n it (by simp);have hl:=L.length;show wpAny_pyNext_tuple_end (I.ok.hd N) f (show s.heap.IsTuple a l.toArray from p) (by simp;ac_nf) λq Q=>⟨rfl,I.turned (t':=s.toks) (λb o j e=>Q b o j e) y M J F B⟩
 self:=λ_ _ _ _ _ f h=>wpAny_pyIter_tupleiter f h
theorem MA{w:fA}{K:aW}(it:Addr)(lo:Int)(n:Nat):Turn P w K tg (rY lo n) [it] it (λi h=>IsRangeIter h it (lo+(i:Nat)*1) ((n:Int)-(i:Nat)) 1) where
 mem:=by simp
 obj:=λi h a b d=>by
  have e:b=it:=by simpa using d
  subst e;show(_,a,λv z=>by
   have G:Data.fields _=Data.cell v:=z;cases G)
 keep:=λi h j a k=>k it (by simp) _ a
 item:=by
  intro X l x p u i c s σ H E I g a r;subst l x p;let(m,B,J,A,y,q):=g it (by simp);have W:=Walks.range (prog:=X.prog) (w:=X.w) (I.ok.hd u) it lo 1 n;show W.item i s _ _ r a λv j C L f F=>?_;let(t,rfl):=L;have I1:Inv X c σ H { s with heap:=j,toks:=C }:=I.turned (λb o d e=>F b o (by simpa using d) e) m B A y q;show(_,rfl,nI (s:={ s with heap:=j,toks:=C }) (n:="range_iterator") f rfl rfl ⋯ ⟨.int (lo+i),H,I1,⟨t,?_⟩,⟨rfl,rfl⟩,f,λb d=>(g b d).1⟩);rw[iW]
 done:=by
  intro X l x p u i c s σ H E I g a r;subst l x p;let(m,B,J,A,y,q):=g it (by simp);show wpAny_pyNext_range_end (I.ok.hd u) a (by have : n<=i:=r;ac_nf) λj D=>⟨rfl,I.turned (t':=s.toks) (λb o d e=>D b o d e) m B A y q⟩
 self:=λ_ _ _ _ _ a h=>wpAny_pyIter_rangeiter a h
theorem Mj{s:da}{R:It->Hp->Prop}{lo hi:Int}{t u v:Tok}{tk:Nat}(I:Inv X pins σ H s)(h1 : -(2 ^ 62)<=lo)(h2:lo<2 ^ 62)(h3 : -(2 ^ 62)<=hi)(h4:hi<2 ^ 62)
  (q:R (rY lo (hi-lo).toNat) H):ei (eO X.prog X.w) X.A (pyIter (.ref s.heap.objs.size)) (yi X pins σ tg R) E { s with heap:=s.heap.push { cls:=.type "range",data:=.fields #[.int lo t, .int hi u, .int 1 v] },toks:=tk }:=by
 show wpAny_pyIter_range (IsRange.new ..) (small_one h1 h2 h3 h4) ?_;have I1:Inv X pins σ H { s with heap:=s.heap.push { cls:=.type "range",data:=.fields #[.int lo t, .int hi u, .int 1 v] },toks:=tk }:=I.kept λb o e=>df _ e;show((s.heap.push { cls:=.type "range",data:=.fields #[.int lo t, .int hi u, .int 1 v] }).objs.size,[(s.heap.push { cls:=.type "range",data:=.fields #[.int lo t, .int hi u, .int 1 v] }).objs.size],_,_,H,rfl,
  I1.kept (t':=tk) λb o e=>df _ e,MA _ lo (hi-lo).toNat,?_,λb a=>?_,q)
 .have c:lo+((0:Nat):Int)*1=lo:=by simp
  have d:(((hi-lo).toNat:Nat):Int)-((0:Nat):Int)=ib lo hi 1:=by rw[rangeSize_one];split <;> ac_nf
  show IsRangeIter _ _ (lo+((0:Nat):Int)*1) ((((hi-lo).toNat:Nat):Int)-((0:Nat):Int)) 1;rw[c,d];show dP _ rfl
 .have e:b=(s.heap.push { cls:=.type "range",data:=.fields #[.int lo t, .int hi u, .int 1 v] }).objs.size:=by simpa using a
  subst e;show I1.fpOk (dh _) (I1.hok.fresh (dh _))
def tP(ta:TA):TI:=λσ H R=>ta σ H λvs H1=>∃ j:Int,vs=[.int j]/\-(2 ^ 62)<=j/\j<2 ^ 62/\R (rY 0 j.toNat) H1
def xk(ta:TA):TI:=λσ H R=>ta σ H λvs H1=>∃ i j:Int,vs=[.int i, .int j]/\(-(2 ^ 62)<=i/\i<2 ^ 62/\-(2 ^ 62)<=j/\j<2 ^ 62)/\R (rY i (j-i).toNat) H1
theorem uL{p:Pos}(hg:Gl X "range")(hm:X.mg "range"=none)(ha:PA X [a] ta)(hs:autoParam (eQ [a] X.env=[(false,eval a X.env)]) Au):PI X tg (.Call (.Name "range" p) [a] [] pos) (tP ta):=by
 intro b s σ H R I h;show Call_ (sM I hg hm boot_range (gM (iF (ha pos b s σ H _ I h) λi g ζ=>?_) hs rfl));let(k,l,I1,f,c):=ζ;let(j,e,c,d,q):=c;subst e;cases f with
 | cons r rr=>
  cases rr;let(t,rfl):=r;show call_range_1 (Mj I1 ∅ ∅ c d (by simpa using q))
def oT(wi:TI)(g:TG)(tb:TS):TS:=λD σ H=>wi σ H λJ H1=>∃ W:Nat->Nat->St->Hp->Prop,(∃ m,W 0 m σ H1)/\∀ i m σ H,W i m σ H ->
 (J.stop i H/\D.nx σ H)\/(J.go i H/\∃ N:St->Hp->Prop,(∀ σ' H',N σ' H'->∃ m',m'<m/\W (i+1) m' σ' H')/\∀ x H',J.yld i H x H'->g x σ H' λσ2 H2=>tb { D with nx:=N,ct:=N,bk:=D.nx } σ2 H2)
def yt(fp:List Addr)(h:Heap):List (Addr × Obj):=fp.filterMap λb=>(h.get? b).map λo=>(b,o)
variable{fp:List Addr}
theorem yS(hb:b∈fp)(e:h.get? b=some o):(b,o)∈yt fp h:=List.mem_filterMap.mpr ⟨b,hb,by rw[e];rfl⟩
theorem MI{p:Addr × Obj}(hp:p∈yt fp h):p.1∈fp/\h.get? p.1=some p.2:=by
 let(b,a,e):=List.mem_filterMap.mp hp;cases q:h.get? b with
 | none=>rw[q]at e;cases e
 | some o=>
  rw[q]at e;have c:(b,o)=p:=eh e;subst c;show(a,q)
theorem Inv.pinned{s:da}(I:Inv X pins σ H s)(hf:∀ b∈fp,nY X pins H b)(ho:∀ b∈fp, ∃ o,s.heap.get? b=some o/\∀ v,o.data≠.cell v):Inv X (pins++yt fp s.heap) σ H s :=
 I.pins_of λp i=>(dk.mp i).elim (λz=>I.pin p (fS _ z)) λz=>by
  let(a,e):=MI z;let(g,h,f,_):=hf p.1 a;let(o,c,d):=ho p.1 a;rw[e]at c;cases c;show(e,g,h,f,d)
theorem Inv.unpinned{pl:List (Addr × Obj)}{s:da}(I:Inv X (pins++pl) σ H s):Inv X pins σ H s:=I.pins_of λp a=>I.pin p (fS _ (jF _ a))
theorem lL{iter:Expr}{wi:TI}{g:TG}(hp:PassesOwn (eO X.prog X.w) X.A X.env X.xe)(hc:X.calm=true)(hi:PI X tg iter wi)(hg:PG X tg g)(hb:qg X body tb)
  (hs:autoParam (∀ x,foldedSetIterable iter X.env x=pure x) Au):PS X (.For tg iter body [] pos) (oT wi g tb):=by
 intro a s σ H D I h;show wpAny_For (iF (hi a s σ H _ I h) λv s1 h1=>iF h1 λa0 s2 h2=>?_) hs;let(it,z,L,J,H2,e,I2,T,G,Q,W,(Y,U),q):=h2;subst e;have c:∀{H':Hp},(∀ b∈z,H' b=none)->∀ b∈z,nY X a H' b:=λhn b hb=>⟨hn b hb,(Q b hb).2⟩;show codeAny_forLoop_any (λn P=>∃ i σ' H',Inv X a σ' H' P/\L i P.heap/\(∀ b∈z,H' b=none)/\W i n σ' H') ?_ Y ⟨0,σ,H2,I2,G,λb hb=>(Q b hb).1,U⟩;intro n O z_;let(i,σ3,C,I3,y,t,w3):=z_;rcases q i n σ3 C w3 with⟨stop,qn⟩ | ⟨go,N,hN,step⟩
 .show jD hp (iF (T.done X rfl rfl rfl hc i a O σ3 C X.xe I3 (c t) y stop) λr s4 ⟨E,I4⟩=>?_);subst E;show wpAny_execs_nil ⟨σ3,C,I4,qn⟩
 .show jD hp (iF (T.item X rfl rfl rfl hc i a O σ3 C X.xe I3 (c t) y go) λr s4 ζ=>?_);let(u,E,h4):=ζ;subst E;show jD hp (iF h4 λ_ M ζ=>?_);let(x,R,I5,r5,Z,p,K):=ζ;have I5':=I5.pinned (c K) (T.obj _ _ p);show jD hp (iF (hg _ M σ3 R x u _ I5' r5 (step x R Z)) λ_ s6 ζ=>?_);let(σ6,S,I6,q6):=ζ;show jD hp (iF (hb _ s6 σ6 S _ I6 q6) λf F l=>?_);have k:∀{σ7:St}{j:Hp},Inv X (a++yt z M.heap) σ7 j F->N σ7 j->∃ m,m<n/\∃ i σ' H',Inv X a σ' H' F/\L i F.heap/\(∀ b∈z,H' b=none)/\W i m σ' H':=λ{σ7 j} I7 B=>by
   let(m',hm,V):=hN σ7 j B;show(m',hm,i+1,σ7,j,I7.unpinned,T.keep _ _ _ p λb hb o e=>(I7.pin (b,o) (fS _ (fS _ (yS hb e)))).1,λb hb=>?_,V);let(o,e,d):=T.obj _ _ p b hb;show(I7.pin (b,o) (fS _ (fS _ (yS hb e)))).2.1
  cases f with
  | next=>let(σ7,j,I7,B):=l;show k I7 B
  | cont=>let(σ7,j,I7,B):=l;show k I7 B
  | brk=>let(σ7,j,I7,l):=l;show(σ7,j,I7.unpinned,l)
  | ret v=>let(x7,σ7,j,I7,r7,l):=l;show(x7,σ7,j,I7.unpinned,r7,l)
variable{n:Nat}
theorem MQ{lo:Int}{g:TG}{D:Ends}(Pv:Nat->St->Hp->Prop)(h0:Pv 0 σ H)
  (hs:∀ i σ H,i<n->Pv i σ H->g (.int (lo+i)) σ H λσ2 H2=>tb { D with nx:=Pv (i+1),ct:=Pv (i+1),bk:=D.nx } σ2 H2) (hd:∀ σ H,Pv n σ H->D.nx σ H) :
  ∃ W:Nat->Nat->St->Hp->Prop,(∃ m,W 0 m σ H)/\∀ i m σ H,W i m σ H ->
   ((rY lo n).stop i H/\D.nx σ H)\/((rY lo n).go i H/\∃ N:St->Hp->Prop,(∀ σ' H',N σ' H'->∃ m',m'<m/\W (i+1) m' σ' H')/\∀ x H',(rY lo n).yld i H x H'->g x σ H' λσ2 H2=>tb { D with nx:=N,ct:=N,bk:=D.nx } σ2 H2):=by
 show(λi m σ H=>m=n-i/\i<=n/\Pv i σ H,⟨n,by simp,dG _,h0⟩,?_);rintro i m σ H ⟨rfl,c,p⟩;by_cases a:i<n
 .show .inr ⟨a,Pv (i+1),λσ' H' b=>⟨n-(i+1),∅,rfl,a,b⟩,λx H' y=>?_⟩;let(e,y):=y;subst e y;show hs i σ _ a p
 .have e:i=n:=by ac_nf
  subst e;show .inl ⟨dh _,hd σ H p⟩
abbrev R2:=V->V->Hp->VK->Prop
def lU(X:Cx)(f:aX->aX->Sem aX)(r:R2):Prop :=
 ∀(pins:List (Addr × Obj))(s:da)(σ : St)(H:Hp)(x y:V)(v u:aX)(Q:VK),Inv X pins σ H s->RelV x v->RelV y u->r x y H Q ->
  ei (eO X.prog X.w) X.A (f v u) (EP X pins σ Q) X.xe s
def AZ(X:Cx)(f:aX->Sem aX)(r:V->Hp->VK->Prop):Prop :=
 ∀(pins:List (Addr × Obj))(s:da)(σ : St)(H:Hp)(x:V)(v:aX)(Q:VK),Inv X pins σ H s->RelV x v->r x H Q ->
  ei (eO X.prog X.w) X.A (f v) (EP X pins σ Q) X.xe s
def lH(X:Cx)(f:aX)(r:List V->Hp->VK->Prop):Prop :=
 ∀(pins:List (Addr × Obj))(s:da)(σ : St)(H:Hp)(xs:List V)(us:List aX)(Q:VK),Inv X pins σ H s->Vals xs us->r xs H Q ->
  ei (eO X.prog X.w) X.A (call f us) (EP X pins σ Q) X.xe s
def ub(r:R2)(ta tb:TE):TE:=λσ H Q=>ta σ H λx H1=>tb σ H1 λy H2=>r x y H2 Q
def D9(r:V->Hp->VK->Prop)(ta:TE):TE:=λσ H Q=>ta σ H λx H1=>r x H1 Q
def rI(C:Int->Int->Prop)(g:Int->Int->V):R2:=λx y H Q=>∃ i j,x=.int i/\y=.int j/\C i j/\Q (g i j) H
def rJ(g:Int->Int->V):R2:=λx y H Q=>∃ i j,x=.int i/\y=.int j/\Q (g i j) H
def rU(g:Int->V):V->Hp->VK->Prop:=λx H Q=>∃ i,x=.int i/\Q (g i) H
variable{b:Expr}{ta tb tc:TE}
theorem uu(ha:PE X a ta)(hb:PE X b tb){pins:List (Addr × Obj)}{s:da}{σ : St}{H:Hp}{R:V->V->Hp->Prop}(I:Inv X pins σ H s)
  (h:ta σ H λx H1=>tb σ H1 λy H2=>R x y H2) {Q:aX->da->Prop} {f:aX->aX->Sem aX}
  (hf:∀ v u s2 x y H2,Inv X pins σ H2 s2->RelV x v->RelV y u->R x y H2->ei (eO X.prog X.w) X.A (f v u) Q X.xe s2) :
  ei (eO X.prog X.w) X.A (eval a X.env) (λv s₁=>ei (eO X.prog X.w) X.A (eval b X.env) (λu s₂=>ei (eO X.prog X.w) X.A (f v u) Q X.xe s₂) X.xe s₁) X.xe s:=by
 show iF (ha pins s σ H _ I h) λv g ζ=>?_;let(x,H1,I1,d,i):=ζ;show iF (hb pins g σ H1 _ I1 i) λu s2 ζ=>?_;let(y,H2,I2,e,c):=ζ;show hf v u s2 x y H2 I2 d e c
theorem dW{op:Operator}{r:R2}(ho:lU X (iE op) r)(ha:PE X a ta)(hb:PE X b tb):PE X (.BinOp a op b pos) (ub r ta tb):=by
 intro c s σ H Q I h;show wpAny_BinOp (uu ha hb I h λv u d x y g I2 f e q=>ho c d σ g x y v u Q I2 f e q)
theorem nG{op:UnaryOp}{r:V->Hp->VK->Prop}(ho:AZ X (unaryOp op) r)(ha:PE X a ta):PE X (.UnaryOp op a pos) (D9 r ta):=by
 intro b s σ H Q I h;show UnaryOp_ (iF (ha b s σ H _ I h) λv d ζ=>by let(x,e,I1,c,f):=ζ;show ho b d σ e x v Q I1 c f)
theorem yc{f:aX->aX->Sem aX}{C:Int->Int->Prop}{g:Int->Int->Int}
  (rule:∀(i j:Int)(t u:Tok)(s:da)(Q:aX->da->Prop)(E:aX->da->Prop),C i j->Q (.int (g i j) s.toks) { s with toks:=s.toks+1 }->ei (eO X.prog X.w) X.A (f (.int i t) (.int j u)) Q E s) :
  lU X f (rI C λi j=>.int (g i j)):=by
 intro a s σ H x y v u Q I e c h;let(i,j,rfl,rfl,b,q):=h;let(t,rfl):=e;let(d,rfl):=c;show rule i j t d s _ _ b ⟨.int (g i j),H,I.tok _,⟨_,rfl⟩,q⟩
theorem wZ{f:aX->aX->Sem aX}{g:Int->Int->Int}
  (rule:∀(i j:Int)(t u:Tok)(s:da)(Q:aX->da->Prop)(E:aX->da->Prop),Q (.int (g i j) s.toks) { s with toks:=s.toks+1 }->ei (eO X.prog X.w) X.A (f (.int i t) (.int j u)) Q E s) :
  lU X f (rJ λi j=>.int (g i j)):=by
 intro a s σ H x y v u Q I d b h;let(i,j,rfl,rfl,q):=h;let(t,rfl):=d;let(c,rfl):=b;show rule i j t c s _ _ ⟨.int (g i j),H,I.tok _,⟨_,rfl⟩,q⟩
theorem uj{f:aX->aX->Sem aX}{g:Int->Int->Bool}
  (rule:∀(i j:Int)(t u:Tok)(s:da)(Q:aX->da->Prop)(E:aX->da->Prop),Q (.bool (g i j)) s->ei (eO X.prog X.w) X.A (f (.int i t) (.int j u)) Q E s) :
  lU X f (rJ λi j=>.bl (g i j)):=by
 intro a s σ H x y v u Q I d b h;let(i,j,rfl,rfl,q):=h;let(t,rfl):=d;let(c,rfl):=b;show rule i j t c s _ _ ⟨.bl (g i j),H,I,rfl,q⟩
def sZ(i j:Int):Prop:=0<=j/\j<=1000000/\i.natAbs<2 ^ 64
theorem JI:lU X (iE .Add) (rJ λi j=>.int (i+j)):=wZ λ_ _ _ _ _ _ _ q=>add_int q
theorem Bd:lU X (iE .Sub) (rJ λi j=>.int (i-j)):=wZ λ_ _ _ _ _ _ _ q=>sub_int q
theorem Lk:lU X (iE .Mod) (rI (λ_ j=>j≠0) λi j=>.int (i.fmod j)):=yc λ_ _ _ _ _ _ _ a q=>mod_int' a q
theorem JC:lU X (iE .Pow) (rI sZ λi j=>.int (i ^ j.toNat)):=yc λ_ _ _ _ _ _ _ a q=>pow_int_small a.1 a.2.1 a.2.2 q
theorem JA{f:aX->Sem aX}{g:Int->Int}
  (rule:∀(i:Int)(t:Tok)(s:da)(Q:aX->da->Prop)(E:aX->da->Prop),Q (.int (g i) s.toks) { s with toks:=s.toks+1 }->ei (eO X.prog X.w) X.A (f (.int i t)) Q E s) :
  AZ X f (rU λi=>.int (g i)):=by
 intro a s σ H x v Q I b h;let(i,rfl,q):=h;let(t,rfl):=b;show rule i t s _ _ ⟨.int (g i),H,I.tok _,⟨_,rfl⟩,q⟩
theorem tT:AZ X (unaryOp .USub) (rU λi=>.int (-i)):=JA λ_ _ _ _ _ q=>neg_int q
def scal:V->V->Bool
 | .non, .non=>true | .non, .int _=>true | .int _, .non=>true | .non, .bl _=>true | .bl _, .non=>true | .non, .str _=>true | .str _, .non=>true
 | .int _, .int _=>true | .bl _, .bl _=>true | .str _, .str _=>true | .byt _, .byt _=>true
 | .int _, .str _=>true | .str _, .int _=>true | .bl _, .str _=>true | .str _, .bl _=>true
 | _,_=>false
def rEq:R2:=λx y H Q=>scal x y=true/\Q (.bl (decide (x=y))) H
def rNe:R2:=λx y H Q=>scal x y=true/\Q (.bl (!decide (x=y))) H
theorem Fz{i j:Int}:decide (V.int i=V.int j)=(i == j):=by
 rw[jS];simp
theorem Es{i j:Bool}:decide (V.bl i=V.bl j)=(i == j):=by
 rw[jS];simp
theorem Fy{i j:Str}:decide (V.str i=V.str j)=(i == j):=by
 rw[jS];simp
theorem FA{i j:Array UInt8}:decide (V.byt i=V.byt j)=(i.toList == j.toList):=by
 rw[jS];cases i;cases j;simp
theorem mM{s:da}{Q:VK}{k k':Bool}(I:Inv X pins σ H s)(q:Q (.bl k) H)(e:k=k'):EP X pins σ Q (.bool k') s:=by
 subst e;show(.bl k,H,I,rfl,q)
theorem op_eq:lU X (fY .Eq) rEq:=by
 intro e s σ H x y v u Q I d a h;let(c,q):=h;cases x with
 | non=>
  cases d;cases y with
  | non=>cases a;show PySem.EqNone.eq_none_none (mM I q (by simp))
  | bl j=>cases a;show PySem.EqNone.eq_none_bool (mM I q (by simp))
  | int j=>let(b,rfl):=a;show PySem.EqNone.eq_none_int (mM I q (by simp))
  | str j=>let(b,rfl):=a;show PySem.EqNone.eq_none_str (mM I q (by simp))
  | _=>show absurd (show false=true from c) dY
 | bl i=>
  cases d;cases y with
  | non=>cases a;show PySem.EqNone.eq_bool_none (mM I q (by simp))
  | bl j=>cases a;show eq_bool (mM I q Es)
  | str j=>let(b,rfl):=a;show PySem.EqMixed.eq_bool_str (mM I q (by simp))
  | _=>show absurd (show false=true from c) dY
 | int i=>
  let(t,rfl):=d;cases y with
  | non=>cases a;show PySem.EqNone.eq_int_none (mM I q (by simp))
  | int j=>let(b,rfl):=a;show eq_int (mM I q Fz)
  | str j=>let(b,rfl):=a;show PySem.EqMixed.eq_int_str (mM I q (by simp))
  | _=>show absurd (show false=true from c) dY
 | str i=>
  let(t,rfl):=d;cases y with
  | non=>cases a;show PySem.EqNone.eq_str_none (mM I q (by simp))
  | bl j=>cases a;show PySem.EqMixed.eq_str_bool (mM I q (by simp))
  | int j=>let(b,rfl):=a;show PySem.EqMixed.eq_str_int (mM I q (by simp))
  | str j=>let(b,rfl):=a;show eq_str (mM I q Fy)
  | _=>show absurd (show false=true from c) dY
 | byt i=>
  let(t,rfl):=d;cases y with
  | byt j=>let(b,rfl):=a;show W.eq_bytes (mM I q FA)
  | _=>show absurd (show false=true from c) dY
 | _=>cases y <;> show absurd (show false=true from c) dY
theorem op_ne:lU X (fY .NotEq) rNe:=by
 intro e s σ H x y v u Q I d a h;let(c,q):=h;cases x with
 | non=>
  cases d;cases y with
  | non=>cases a;show PySem.EqNone.ne_none_none (mM I q (by simp))
  | bl j=>cases a;show PySem.EqNone.ne_none_bool (mM I q (by simp))
  | int j=>let(b,rfl):=a;show PySem.EqNone.ne_none_int (mM I q (by simp))
  | str j=>let(b,rfl):=a;show PySem.EqNone.ne_none_str (mM I q (by simp))
  | _=>show absurd (show false=true from c) dY
 | bl i=>
  cases d;cases y with
  | non=>cases a;show PySem.EqNone.ne_bool_none (mM I q (by simp))
  | bl j=>cases a;show ne_bool (mM I q (congrArg not Es))
  | str j=>let(b,rfl):=a;show PySem.EqMixed.ne_bool_str (mM I q (by simp))
  | _=>show absurd (show false=true from c) dY
 | int i=>
  let(t,rfl):=d;cases y with
  | non=>cases a;show PySem.EqNone.ne_int_none (mM I q (by simp))
  | int j=>let(b,rfl):=a;show ne_int (mM I q (congrArg not Fz))
  | str j=>let(b,rfl):=a;show PySem.EqMixed.ne_int_str (mM I q (by simp))
  | _=>show absurd (show false=true from c) dY
 | str i=>
  let(t,rfl):=d;cases y with
  | non=>cases a;show PySem.EqNone.ne_str_none (mM I q (by simp))
  | bl j=>cases a;show PySem.EqMixed.ne_str_bool (mM I q (by simp))
  | int j=>let(b,rfl):=a;show PySem.EqMixed.ne_str_int (mM I q (by simp))
  | str j=>let(b,rfl):=a;show ne_str (mM I q (congrArg not Fy))
  | _=>show absurd (show false=true from c) dY
 | byt i=>
  let(t,rfl):=d;cases y with
  | byt j=>let(b,rfl):=a;show W.ne_bytes (mM I q (congrArg not FA))
  | _=>show absurd (show false=true from c) dY
 | _=>cases y <;> show absurd (show false=true from c) dY
theorem op_lt:lU X (fY .Lt) (rJ λi j=>.bl (decide (i<j))):=uj λ_ _ _ _ _ _ _ q=>lt_int q
theorem op_gt:lU X (fY .Gt) (rJ λi j=>.bl (decide (j<i))):=uj λ_ _ _ _ _ _ _ q=>gt_int q
theorem op_ge:lU X (fY .GtE) (rJ λi j=>.bl (decide (j<=i))):=uj λ_ _ _ _ _ _ _ q=>ge_int q
theorem MC:lU X (fY .In) (λx y H Q=>∃ i j,x=.str i/\y=.str j/\Q (.bl (!(jJ j i 0 j.length 1).isEmpty)) H):=by
 intro a s σ H x y v u Q I c b h;let(i,j,rfl,rfl,q):=h;let(t,rfl):=c;let(d,rfl):=b;show in_str (mM I q rfl)
theorem JE:lU X (fY .Is) (λx y H Q=>y=.non/\Q (.bl (decide (x=.non))) H):=by
 intro b s σ H x y v u Q I a c h;let(rfl,q):=h;cases c;show is_none_gen (mM I q ?_);cases x <;> first
  | (cases a;rfl)
  | (let(t,rfl):=a;rfl)
theorem Lh:lU X (fY .IsNot) (λx y H Q=>y=.non/\Q (.bl (!decide (x=.non))) H):=by
 intro b s σ H x y v u Q I a c h;let(rfl,q):=h;cases c;show isnot_none_gen (mM I q ?_);cases x <;> first
  | (cases a;rfl)
  | (let(t,rfl):=a;rfl)
theorem kO(b:Expr){op:CmpOp}(h:autoParam (op≠.In) Au)(h2:autoParam (op≠.NotIn) Au):lq op b=false:=by
 have a:(op == CmpOp.In)=false:=by cases op <;> first | rfl | show absurd rfl h
 have c:(op == CmpOp.NotIn)=false:=by cases op <;> first | rfl | show absurd rfl h2
 cases b <;> simp[lq,a,c]
variable{op:CmpOp}{r:R2}
theorem pP(ho:lU X (fY op) r)(ha:PE X a ta)(hb:PE X b tb)(hm:lq op b=false):PE X (.Compare a [op] [b] pos) (ub r ta tb):=by
 intro c s σ H Q I h;show wpAny_Compare1 (uu ha hb I h λv u d x y g I2 f e q=>ho c d σ g x y v u Q I2 f e q) hm
def tf(t:TE):TT:=λσ H Q=>t σ H λx H'=>pY x λk=>Q k H'
theorem mC(ho:lU X (fY op) r)(ha:PE X a ta)(hb:PE X b tb)(hm:lq op b=false):PT X (.Compare a [op] [b] pos) (tf (ub r ta tb)):=by
 intro d s σ H Q I h;show wpAny_isTrue_Compare1 (iF (ha d s σ H _ I h) λv q ζ=>?_) hm;let(x,t,I1,j,m):=ζ;show iF (hb d q σ t _ I1 m) λu o ζ=>?_;let(y,p,I2,l,g):=ζ;show iF (ho d o σ p x y v u _ I2 j l g) λc w ζ=>?_;let(z,n,I3,i,f):=ζ
 let(k,e,f):=vD f;subst e;cases i;show jb ⟨n,I3,f⟩
def Kb(r r':R2)(ta tb tc:TE):TE:=λσ H Q=>ta σ H λx H1=>tb σ H1 λy H2=>r x y H2 λz H3=>pY z λk=>
 (if k=true then tc σ H3 λw' H4=>r' y w' H4 Q else Q (.bl false) H3)
theorem vB:(sizeLine:Nat)<2 ^ 63:=by rw[sizeLine_eq];decide
theorem Nj:lU X (iE .Add) (λx y H Q=>∃ i j,x=.str i/\y=.str j/\i.length+j.length<=sizeLine/\Q (.str (i++j)) H):=by
 intro a s σ H x y v u Q I b d h;let(i,j,rfl,rfl,c,q):=h;let(t,rfl):=b;let(e,rfl):=d;show add_str (λe f=>⟨.str (i++j),H,I.tok _,⟨_,rfl⟩,q⟩) c
variable{x:V}
theorem vals1(r:Vals [x] us):∃ u,us=[u]/\RelV x u:=by
 cases r with
 | cons r1 r2=>cases r2;show(_,rfl,r1)
variable{y:V}
theorem vals2(r:Vals [x,y] us):∃ u w',us=[u,w']/\RelV x u/\RelV y w':=by
 cases r with
 | cons r1 r2=>
  cases r2 with
  | cons r3 r4=>cases r4;show(_,_,rfl,r1,r3)
theorem Mb:lH X (.builtin "abs") (λxs H Q=>∃ i,xs=[.int i]/\Q (.int (if i<0 then -i else i)) H):=by
 intro a s σ H xs c Q I r h;let(i,rfl,q):=h;let(u,rfl,t,rfl):=vals1 r;show call_abs_int λu b=>⟨.int (if i<0 then -i else i),H,I.tok _,⟨_,rfl⟩,q⟩
structure pL(h:Heap)(x dx C:Addr)(mA:Str->Option aX):Prop where
 obj:h.get? x=some (ma C dx)
 ns:h.Ns1 dx mA
 ne:dx≠x
variable{dx:Addr}{mA:Str->Option aX}
theorem MK(n:h.Ns1 dx mA):∃ od,h.get? dx=some od/\∀ name,W.lookIn name od=some (mA name):=by
 let(o,c,l,k,d,g,_,j):=n;show(o,k,λname=>?_);have e:=j name;unfold nsFind findBy at e;rw[<- Array.find?_toList]at e;unfold W.lookIn;rw[d];dsimp only;split
 .rename_i y q;rw[q]at e;show congrArg some e
 .rename_i q;rw[q]at e;have a:c.toList.any (·.refKey)=false:=by
   rw[List.any_eq_false];intro y i;let(z,t,b):=g y (Array.mem_toList_iff.mp i);simp[DictEntry.refKey,b]
  have f:¬ c.toList.any (·.refKey)=true:=by rw[a];show dY
  rw[if_neg f];show congrArg some e
variable{x C:Addr}
theorem pL.look(I:pL h x dx C mA):∃ od,W.InstAt h x (ma C dx) C (some od)/\∀ name,W.lookIn name od=some (mA name) :=
 let⟨od,ho,hl⟩:=MK I.ns
 ⟨od,⟨I.obj,rfl,rfl,ho⟩,hl⟩
section
variable{name:Str}{v:aX}{w:fA}{s:da}{K:aW}{f:Addr}
theorem get_map{expr:Bool}{Q:aX->da->Prop}(X:K.In s.heap)(I:pL s.heap x dx C mA)(hg:W.plainGet K C name=true)(hh:W.hasDictIn K C=true)
  (ha:jn K (.ref C) name=some none) (hv:mA name=some v) (hv':W.handedIn v=true) (h:Q v { s with toks:=s.toks+1 }) :
  ei (eO prog w) A (getAttr (.ref x) name expr) Q E s:=by
 let(b,J,a):=I.look;show W.get_value X J (W.plainGet_of hg).1 (W.findObj_own hh ha rfl (by rw[a,hv])) hv' h
theorem L9{pl:Sem Bool}{Q:aX × List aX->da->Prop}(X:K.In s.heap)(I:pL s.heap x dx C mA)(hg:W.plainGet K C name=true)
  (hf:jn K (.ref C) name=some (some (.ref f))) (ht:W.isFn K (.ref f)=true) (hv:mA name=none) (h:Q (.ref f,[.ref x]) s) :
  ei (eO prog w) A (getMethod (.ref x) name pl) Q E s:=by
 let(a,J,b):=I.look;show W.method_fn X J (W.plainGet_of hg).1 (W.plainGet_of hg).2 hf (beq_iff_eq.mp ht) (by show(W.lookIn name a).map (·.isSome)=some false;rw[b,hv];rfl) h
theorem K4{ns:List Str}{Q:Unit->da->Prop}(X:K.In s.heap)(I:pL s.heap x dx C mA)
  (hs:jn K (.ref C) "__setattr__"=some (some (.builtin "object.__setattr__"))) (hp:W.plainOver K C=true) (ht:W.takerIn K C name=some none) (hh:W.hasDictIn K C=true)
  (hw:PySem.Within mA ns) (hsz:ns.length<=sizeLine)
  (h:∀ h',pL h' x dx C (λy=>if y=name then some v else mA y)->lC dx s.heap h'->Q () { s with heap:=h',toks:=s.toks+2 }) :
  ei (eO prog w) A (setAttr (.ref x) name v) Q E s:=by
 let(n,J,o):=I.look;show W.set_plain X J hs (W.osa_open (s:={ s with toks:=s.toks+1 }) (r:=none) X J hp ht λb=>?_);let(p,j,g):=W.any_some hh;have m:s.heap.get? x=some ⟨.ref C,some dx, .plain, #[]⟩:=I.obj;show du (dU (du (du (wpAny_loadPart m (du (W.Looks.here (s:={ s with toks:=s.toks+1 }) (W.looks_clsIn X j) ?_))))));rw[g];show dU (a:=some dx) (du (dU (du ?_)));show wpAny_nsSet1 (s:={ s with toks:=s.toks+1 }) I.ns λh' d c=>?_;let(q,k,l,i,f,e):=d.count (PySem.Within.cons name v hw);show du (wpAny_lookBehind i (by rw[f];show pastItsLine_dict (fG e (by rw[dQ];ac_nf))) ?_);show dU (h _ ⟨(c.2 _ (gk I.ne)).trans I.obj,d,I.ne⟩ c)
variable{kw:List (Str × aX)}
theorem L3{R:Result->da->Prop}{vs:List aX}(X:K.In s.heap)(hm:W.makesIn K C=true)
  (hi:jn K (.ref C) "__init__"=some (some (.ref f))) (hf:W.typeIn K (.ref f)=some (.type "function"))
  (h:kG (eO prog w) (A.under (.builtin "type.__call__" ⟨.ref C::vs,kw⟩)) (.call (.ref f) ⟨.ref (s.heap.objs.size+1)::vs,kw⟩) (W.InitBack (s.heap.objs.size+1) R)
   { s with heap:=(s.heap.push jM).push (ma C s.heap.objs.size) }) :
  kG (eO prog w) A (.call (.ref C) ⟨vs,kw⟩) R s:=by
 let(b,g,d,t,c):=s;show W.make_core (W.makes_of X hm) (W.looks_findIn X hi) (λa=>W.bind_fn X a hf) (.inl rfl) h
end
def jL(f:Str)(v:V):List (Str × V)->List (Str × V)
 | []=>[(f,v)]
 | (g,x)::r=>if g=f then(g,v)::r else(g,x)::jL f v r
theorem Hc(f g:Str)(v:V):∀ fs:List (Str × V),(jL f v fs).lookup g=if g=f then some v else fs.lookup g
 | []=>by
  show kM g [(f,v)]=_;by_cases h:g=f
  .have hb:(g == f)=true:=beq_iff_eq.mpr h;simp only[kM,hb,if_pos h]
  .have hb:(g == f)=false:=beq_eq_false_iff_ne.mpr h;simp only[kM,hb,if_neg h]
 | (k,x)::r=>by
  have ih:=Hc f g v r;rw[show jL f v ((k,x)::r)=(if k=f then(k,v)::r else(k,x)::jL f v r)from rfl];by_cases hk:k=f
  .rw[if_pos hk];by_cases h:g=k
   .have hb:(g == k)=true:=beq_iff_eq.mpr h;simp only[kM,hb,if_pos (h.trans hk)]
   .have hb:(g == k)=false:=beq_eq_false_iff_ne.mpr h;simp only[kM,hb,if_neg (λe:g=f=>h (e.trans hk.symm))]
  .rw[if_neg hk];by_cases h:g=k
   .have hb:(g == k)=true:=beq_iff_eq.mpr h;simp only[kM,hb,if_neg (λe:g=f=>hk (h.symm.trans e))]
   .have hb:(g == k)=false:=beq_eq_false_iff_ne.mpr h;simp only[kM,hb];show ih
theorem Ca(f:Str)(v:V):∀ fs:List (Str × V),f∈(jL f v fs).map (·.1)/\∀ g,g∈fs.map (·.1)->g∈(jL f v fs).map (·.1)
 | []=>⟨by simp[jL],λg h=>by simp at h⟩
 | (k,x)::r=>by
  let(i1,i2):=Ca f v r;rw[show jL f v ((k,x)::r)=(if k=f then(k,v)::r else(k,x)::jL f v r)from rfl];by_cases hk:k=f
  .rw[if_pos hk];subst hk;show(by simp,λg h=>by simpa using h)
  .rw[if_neg hk];show(?_,λg h=>?_)
   .rw[dw];show dZ _ i1
   .rw[dw]at h ⊢;rcases eP.mp h with e | e
    .show eP.mpr (.inl e)
    .show dZ _ (i2 g e)
theorem Hd(f:Str)(v:V):∀ fs:List (Str × V),(jL f v fs).length<=fs.length+1
 | []=>by simp[jL]
 | (k,x)::r=>by
  have ih:=Hd f v r;rw[show jL f v ((k,x)::r)=(if k=f then(k,v)::r else(k,x)::jL f v r)from rfl];by_cases hk:k=f
  .rw[if_pos hk,dQ,dQ];ac_nf
  .rw[if_neg hk,dQ,dQ];ac_nf
variable{v:V}{o:Option aX}
theorem RelO.some_of(r:RelO (some v) o):∃ u,o=some u/\RelV v u:=by
 cases o with
 | none=>show(show False from r).elim
 | some u=>show(u,rfl,r)
theorem RelO.none_of(r:RelO none o):o=none:=by
 cases o with
 | none=>rfl
 | some u=>show(show False from r).elim
theorem MP(r:RelV v u):W.handedIn u=true:=by
 cases v with
 | non=>cases(show u=aX.none from r);rfl
 | bl b=>cases(show u=kz b from r);rfl
 | int i=>let(t,e):=(show∃ t,u=aX.int i t from r);cases e;rfl
 | str x=>let(t,e):=(show∃ t,u=aX.str x t from r);cases e;rfl
 | byt b=>let(t,e):=(show∃ t,u=aX.bytes b t from r);cases e;rfl
 | flt b=>let(t,e):=(show∃ t,u=aX.float b t from r);cases e;rfl
 | ref a=>cases(show u=eK a from r);rfl
 | ty n=>cases(show u=aX.type n from r);rfl
section
variable{h':Heap}{a:Addr}{fs':List (Str × V)}{w:fA}{fs:List (Str × V)}
theorem Bi(hok:mS P w H h)(e:H a=some (.ins C dx fs)):∃ mA,pL h a dx C mA/\(∀ f,RelO (fs.lookup f) (mA f))/\PySem.Within mA (fs.map (·.1))/\fs.length<=1000/\H dx=some (.own a):=by
 let(d,z,c,b,mA,n,r,q):=(show jh P w H h a (.ins C dx fs)from hok a _ e);show(mA,⟨b,n,c⟩,r,q,z,d)
end
structure Cls(K:aW)(C:Addr):Prop where
 pg:W.plainGet K C Str.empty=true
 hd:W.hasDictIn K C=true
 po:W.plainOver K C=true
 sa:jn K (.ref C) "__setattr__"=some (some (.builtin "object.__setattr__"))
theorem Cls.get{K:aW}(c:Cls K C)(f:Str):W.plainGet K C f=true:=c.pg
def mm(K:aW)(C:Addr)(f:Str):Prop:=jn K (.ref C) f=some none
theorem mm.taker{K:aW}{f:Str}(n:mm K C f):W.takerIn K C f=some none:=by
 unfold W.takerIn;rw[show jn K (.ref C) f=some none from n];rfl
structure uz(K:aW)(C:Addr)(m:Str)(f:Addr):Prop where
 at_:jn K (.ref C) m=some (some (.ref f))
 fn:W.isFn K (.ref f)=true
 kp:jm K (.ref f)=true
section
variable{a:Addr}{s:da}{fs:List (Str × V)}{f:Str}{b:Bool}
theorem M6{Q:aX->da->Prop}(I:Inv X pins σ H s)(e:H a=some (.ins C dx fs))(c:Cls X.K C)(n:mm X.K C f)(l:fs.lookup f=some v)
  (h:∀ u s',Inv X pins σ H s'->RelV v u->Q u s'):ei (eO X.prog X.w) A (getAttr (.ref a) f b) Q E s:=by
 let(g,O,r,_,_,_):=Bi I.hok e;let(u,i,d):=RelO.some_of (v:=v) (o:=g f) (by rw[<- l];show r f);show get_map I.kIn O (c.get f) c.hd n i (MP d) (h u _ (I.tok _) d)
theorem GY{m:Str}{g:Addr}{pl:Sem Bool}{Q:aX × List aX->da->Prop}(I:Inv X pins σ H s)(e:H a=some (.ins C dx fs))(c:Cls X.K C)(k:uz X.K C m g)(l:fs.lookup m=none)
  (h:Q (.ref g,[.ref a]) s):ei (eO X.prog X.w) A (getMethod (.ref a) m pl) Q E s:=by
 let(d,O,r,_,_,_):=Bi I.hok e;have b:d m=none:=RelO.none_of (by rw[<- l];show r m);show L9 I.kIn O (c.get m) k.at_ k.fn b h
theorem Nd{Q:Unit->da->Prop}(I:Inv X pins σ H s)(e:H a=some (.ins C dx fs))(c:Cls X.K C)(n:mm X.K C f)(hl:fs.length<1000)(ry:RelV y u)
  (h:∀ s',Inv X pins σ (upd H a (.ins C dx (jL f y fs))) s'->Q () s'):ei (eO X.prog X.w) A (setAttr (.ref a) f u) Q E s:=by
 let(d,O,r,j,_,i):=Bi I.hok e;have l:(fs.map (·.1)).length<=sizeLine:=by rw[bc,sizeLine_eq];ac_nf
 show K4 I.kIn O c.sa c.po n.taker c.hd j l λt O' k=>h _ ?_;have m:∃ o,t.get? dx=some o:=let⟨o,_,_,e',_⟩:=O'.ns;⟨o,e'⟩;show I.write (x:=a) (e:=dx) (by rw[e];show iG) (.inr i) (λb q p z=>(k.2 b p).trans z) m ?_;show(by rw[fF O.ne];show i,?_,O.ne,O'.obj,_,O'.ns,λg=>?_,λg v=>?_)
 .have:=Hd f y fs;ac_nf
 .show RelO ((jL f y fs).lookup g) (if g=f then some u else d g);rw[Hc];by_cases q:g=f
  .rw[if_pos q,if_pos q];show ry
  .rw[if_neg q,if_neg q];show r g
 .by_cases q:g=f
  .rw[q];show(Ca f y fs).1
  .show(Ca f y fs).2 g (j g λz=>v ?_);show(if g=f then some u else d g)=none;rw[if_neg q];show z
theorem Inv.made(I:Inv X pins σ H s):Inv X pins σ (upd (upd H s.heap.objs.size (.own (s.heap.objs.size+1))) (s.heap.objs.size+1) (.ins C s.heap.objs.size []))
  { s with heap:=(s.heap.push jM).push (ma C s.heap.objs.size) }:=by
 have c:(s.heap.push jM).get? s.heap.objs.size=some jM:=dP s.heap rfl;have g:((s.heap.push jM).push (ma C s.heap.objs.size)).get? (s.heap.objs.size+1)=some (ma C s.heap.objs.size):=by
  have:=dP (s.heap.push jM) (o:=ma C s.heap.objs.size) rfl
  rwa [je]at this
 have h:(s.heap.push jM).Ns s.heap.objs.size (λ_=>none):=⟨jM, #[],_,c,rfl,(λe f=>absurd f (by simp)),λ_=>rfl⟩;have I1:=I.laid (a:=s.heap.objs.size) (o:=.own (s.heap.objs.size+1)) (h':=s.heap.push jM) (t':=s.toks) (λb u q=>df _ q) (dh _) ⟨_,c⟩;show I1.laid (a:=s.heap.objs.size+1) (o:=.ins C s.heap.objs.size []) (t':=s.toks) (λb u q=>df _ q) (Nat.le_of_eq (je _ _)) ?_;have d:s.heap.objs.size≠s.heap.objs.size+1:=dI (ik _);show(by rw[fF d,jo],dG _,d,g,λ_=>none,(Heap.Ns1.of_empty h).at λo q=>df _ q,λ_=>iG,λy i=>absurd rfl i)
variable{Q:aX->da->Prop}
theorem LK{w:fA}{env:Env}{f:Str}{s:da}(hb:iL e f env (eval e env)=eval e env)
  (h:ei (eO prog w) A (eval e env) (λo s₁=>ei (eO prog w) A (getAttr o f true) Q E s₁) E s):ei (eO prog w) A (eval (.Attribute e f pos) env) Q E s :=
 Attribute_any_ h (by rw[arm_eval_Attribute,hb])
end
def ue(K:aW)(ta:TE)(f:Str):TE:=λσ H Q=>ta σ H λx H1=>∃ a C dx fs v,x=.ref a/\H1 a=some (.ins C dx fs)/\Cls K C/\mm K C f/\fs.lookup f=some v/\Q v H1
def uh(K:aW)(ta tv:TE)(f:Str):TS:=λD σ H=>tv σ H λy H1=>ta σ H1 λx H2=>∃ a C dx fs,x=.ref a/\H2 a=some (.ins C dx fs)/\Cls K C/\mm K C f/\fs.length<1000 /\
 D.nx σ (upd H2 a (.ins C dx (jL f y fs)))
section
variable{o value:Expr}{tpos:Pos}{tv:TE}{f:Str}
theorem iP(he:PE X e ta)(hb:iL e f X.env (eval e X.env)=eval e X.env):PE X (.Attribute e f pos) (ue X.K ta f):=by
 intro b s σ H Q I h;show LK hb (iF (he b s σ H _ I h) λu r ζ=>?_);let(x,k,I1,d,a,C,m,t,v,g,j,c,n,l,q):=ζ;subst g;obtain rfl:u=eK a:=d;show M6 I1 j c n l λo p I2 i=>⟨v,k,I2,i,q⟩
theorem mE(ha:PE X o ta)(hv:PE X value tv)(hs:swapsWith value (some (.Attribute o f pos')) pos.line X.env=pure false):PS X (.Assign [.Attribute o f pos'] value pos) (uh X.K ta tv f):=by
 intro b s σ H D I h;show plainObj_wpAny_Assign_Attribute (iF (hv b s σ H _ I h) λu m ζ=>?_) hs;let(y,p,I1,k,q):=ζ;show iF (ha b m σ p _ I1 q) λe v ζ=>?_;let(x,w,I2,g,a,C,r,z,i,j,c,n,l,d):=ζ;subst i;obtain rfl:e=eK a:=g;show Nd I2 j c n l k λt I3=>⟨σ,_,I3,d⟩
end
section
variable{Q:aX->da->Prop}{c:aX}{b:Bool}{s:da}
end
structure kh(k:Nat)(A:fZ):Prop where
 hd:A.handled=none
 dp:A.depth+3*k+5<recursionLimit
 un:A.units+16*k+200<ku
theorem kh.mono{j k:Nat}(r:kh k A)(h:j<=k):kh j A:=⟨r.hd,by have:=r.dp;ac_nf,by have:=r.un;ac_nf⟩
theorem kh.deeper{k:Nat}(r:kh (k+1) A)(env:Env):kh k (A.deeper env) :=
 ⟨r.hd,by have:=r.dp;show A.depth+1+3*k+5<_;ac_nf,by have:=r.un;show A.units+3+16*k+200<_;ac_nf⟩
variable{kw:List (Str × aX)}
theorem MZ:(A.under (.builtin "type.__call__" ⟨.ref C::us,kw⟩)).depth=A.depth+1:=by
 first | rfl | simp[fZ.under,Code.weight,Code.isCreation,Code.isGuard,Code.isCaller,Code.frames,Code.isFrame,guardIds]
theorem MY:(A.under (.builtin "type.__call__" ⟨.ref C::us,kw⟩)).units=A.units+1:=by
 first | rfl | simp[fZ.under,Code.cUnits,Code.frames,Code.isFrame]
theorem kh.make{k:Nat}(r:kh (k+1) A)(C:Addr)(us:List aX)(kw:List (Str × aX)):kh k (A.under (.builtin "type.__call__" ⟨.ref C::us,kw⟩)) :=
 ⟨r.hd,by have:=r.dp;rw[MZ];ac_nf,by have:=r.un;rw[MY];ac_nf⟩
theorem kh.depth{k:Nat}(r:kh k A):A.depth<recursionLimit:=by have:=r.dp;ac_nf
theorem kh.units{k:Nat}(r:kh k A):A.units+64<ku:=by have:=r.un;ac_nf
def tNil:TA:=λ_ H Q=>Q [] H
def qY(ta:TE)(tr:TA):TA:=λσ H Q=>ta σ H λx H1=>tr σ H1 λxs H2=>Q (x::xs) H2
section
variable{t:TA}
theorem oI:PA X [] tNil:=λ_ _ _ _ H Q I h=>iQ ⟨[],H,I, .nil,h⟩
theorem Lf(ha:PE X e te)(hr:PA X es t)(hs:autoParam (eQ (e::es) X.env=(false,eval e X.env)::eQ es X.env) Au):PA X (e::es) (qY te t):=by
 intro b a s σ H Q I h;rw[hs];show ei _ _ (spliced ((false,eval e X.env)::jq b (eQ es X.env))) _ _ s;show gS (iF (ha a s σ H _ I h) λu k ζ=>?_);let(x,l,I1,d,i):=ζ;show iF (hr b a k σ l _ I1 i) λm n ζ=>by let(f,j,I2,g,c):=ζ;show(x::f,j,I2, .cons d g,c)
def wD(t:TA):TE:=λσ H Q=>t σ H λxs H1=>xs.length<=sizeLine/\∀ p,H1 p=none->Q (.ref p) (upd H1 p (.tup xs))
def wH(t:TA):TE:=λσ H Q=>t σ H λxs H1=>xs.length<=sizeLine/\∀ p,H1 p=none->Q (.ref p) (upd H1 p (.lst xs))
theorem lh{x1}(h:PA X es t):PE X (.Tuple es x1 pos) (wD t):=by
 intro a s σ H Q I j;show wpAny_Tuple_spliced (iF (h pos a s σ H _ I j) λi c ζ=>?_);let(g,d,I1,r,z,q):=ζ;show(by rw[<- r.length];show z,?_);have f:d c.heap.objs.size=none:=I1.hok.fresh (dh _);show(.ref c.heap.objs.size,upd d c.heap.objs.size (.tup g),I1.laid (t':=c.toks) (λb u e=>df _ e) (dh _) ?_,rfl,q _ f);show(z,i,r,⟨_,dP _ rfl,rfl,_,rfl⟩)
theorem nv(h:PA X es t):PE X (.List es pos) (wH t):=by
 intro a s σ H Q I j;show wpAny_List_spliced (iF (h pos a s σ H _ I j) λi c ζ=>?_);let(g,d,I1,r,z,q):=ζ;show(by rw[<- r.length];show z,?_);have f:d c.heap.objs.size=none:=I1.hok.fresh (dh _);show(.ref c.heap.objs.size,upd d c.heap.objs.size (.lst g),I1.laid (t':=c.toks) (λb u e=>df _ e) (dh _) ?_,rfl,q _ f);show(z,i,0,r,dP _ rfl)
end
abbrev Sp:=List V->Hp->VK->XK->Prop
abbrev rG:=List Env->Hp->da->XK->aX->da->Prop
structure pT(P:fH)(w:fA)(K:aW)(mg:Str->Option aX)(base:Heap)(A:fZ)(outer:List Env)(s:da)(H:Hp):Prop where
 frames:A.frames=some outer
 mod:Mod K mg base
 bs:∀ b o,base.get? b=some o->s.heap.get? b=some o/\H b=none
 bsz:base.objs.size<=s.heap.objs.size
 funs:s.heap.FunFrames base outer
 frf:∀ b∈pw outer,H b=none
 hok:mS P w H s.heap
 bare:AllBare s.gens
def CE(outer:List Env)(P:fH)(w:fA)(H:Hp)(s:da)(Q:VK)(u:aX)(s':da):Prop :=
 ∃ v H',s'.os=s.os/\AllBare s'.gens/\Un (pw outer) [] H H' s.heap s'.heap/\mS P w H' s'.heap/\RelV v u/\Q v H'
def CR(CX:rG)(outer:List Env)(P:fH)(w:fA)(H:Hp)(s:da)(Q:VK)(E:XK)(r:Result)(s':da):Prop :=
 match r with
 | .ok (.ret u)=>CE outer P w H s Q u s'
 | .ok _=>False
 | .error e=>CX outer H s E e s'
structure mr(P:fH)(w:fA)(K:aW)(mg:Str->Option aX)(base:Heap)(CX:rG)(k:Nat)(f:Addr)(fd:ip)(ps:List Str)(sp:Sp):Prop where
 len:∀ vs H Q E,sp vs H Q E->vs.length=ps.length
 run:∀(A:fZ)(outer:List Env)(s:da)(H:Hp)(args:Args)(us:List aX)(vs:List V)(Q:VK)(E:XK),kh k A->pT P w K mg base A outer s H->BindsTo s fd args (ps.zip us)->Vals vs us->sp vs H Q E ->
  kG (eO P w) A (.call (.ref f) args) (CR CX outer P w H s Q E) s
variable{mg:Str->Option aX}{outer:List Env}
theorem pT.make{w:fA}{K:aW}{base:Heap}{s:da}(e:pT P w K mg base A outer s H)(C:Addr)(us:List aX)(kw:List (Str × aX)) :
  pT P w K mg base (A.under (.builtin "type.__call__" ⟨.ref C::us,kw⟩)) outer s H:=⟨by first | show e.frames | (simpa[fZ.under,Code.envs,Code.isFrame,pushEnvs]using e.frames),e.mod,e.bs,e.bsz,e.funs,e.frf,e.hok,e.bare⟩
section
variable{s':da}{s:da}
theorem Inv.env0(I:Inv X pins σ H s):pT X.prog X.w X.K X.mg X.base X.A X.stack s H :=
 ⟨I.ok.frames,I.ok.mod,I.bs,fG I.ok.bsz I.sz,I.stack,I.stkFree,I.hok,I.bare⟩
variable{Q:VK}
theorem Inv.after(I:Inv X pins σ H s)(h:CE X.stack X.prog X.w H s Q u s'):EP X pins σ Q u s':=by
 let(v,j,i,a,k,e,r,q):=h;let(f,g,d,t,c):=s';obtain rfl:c=s.os:=i;show(v,j,I.call (h':=f) (g':=g) (d':=d) (t':=t) (ch:=[]) k e a (λb z=>absurd z (by simp)),r,q)
end
def qZ(sp:Sp)(dvs:List V)(E:XK)(t:TA):TE:=λσ H Q=>t σ H λvs H1=>sp (vs++dvs) H1 Q E
def oS(C:Addr)(sp:Sp)(dvs:List V)(E:XK)(t:TA):TE:=λσ H Q=>t σ H λvs H1=>∀ x dx,H1 x=none->H1 dx=none->dx≠x ->
 sp (.ref x::(vs++dvs)) (upd (upd H1 dx (.own x)) x (.ins C dx [])) (λv H2=>v=.non/\Q (.ref x) H2) E
def Binds(K:aW)(fd:ip)(ps:List Str)(ds:List aX):Prop :=
 ∀(s:da)(us:List aX),K.In s.heap->(us++ds).length=ps.length->BindsTo s fd ⟨us,[]⟩ (ps.zip (us++ds))
variable{fd:ip}{ps:List Str}
theorem Binds.all{K:aW}(h:∀ us:List aX,us.length=ps.length->bindArgs fd ⟨us,[]⟩=pure (ps.zip us)):Binds K fd ps []:=λs us _ a=>by
 rw[iM]at a ⊢;show .of_eq (h us a)
def rz(CX:rG)(X:Cx)(E:XK):Prop:=∀(pins:List (Addr × Obj))(σ : St)(H:Hp)(s:da)(e:aX)(s':da),Inv X pins σ H s->CX X.stack H s E e s'->X.xe e s'
section
variable{CX:rG}{sp:Sp}{dvs:List V}{ds:List aX}{E:XK}{x:Str}{p apos:Pos}{o:Expr}{k:Nat}{f:Addr}{m:Str}{t:TA}{Q:VK}{vs:List V}
theorem A6{s:da}(F:mr X.prog X.w X.K X.mg X.base CX k f fd ps sp)(hr:kh k X.A)(hb:Binds X.K fd ps ds)(hd:Vals dvs ds)(hx:rz CX X E)
  (I:Inv X pins σ H s) (r:Vals vs us) (h:sp (vs++dvs) H Q E):ei (eO X.prog X.w) X.A (call (.ref f) us) (EP X pins σ Q) X.xe s:=by
 have b:Vals (vs++dvs) (us++ds):=r.append hd;have d:(us++ds).length=ps.length:=by rw[<- b.length];show F.len _ _ _ _ h
 show wpAny_call (codeAny_mono (F.run X.A X.stack s H ⟨us,[]⟩ (us++ds) (vs++dvs) Q E hr I.env0 (hb s us I.kIn d) b h) λr c a=>?_);cases r with
 | error e=>show hx pins σ H s e c I a
 | ok fl=>
  cases fl with
  | ret u=>show I.after a
  | next=>show ix a
  | brk=>show ix a
  | cont=>show ix a
theorem Le(F:mr X.prog X.w X.K X.mg X.base CX k f fd ps sp)(hr:kh k X.A)(hg:Gl X x)(hm:X.mg x=some (.ref f))(hk:jm X.K (.ref f)=true)(hb:Binds X.K fd ps ds)(hd:Vals dvs ds)(hx:rz CX X E)
  (ha:PA X (e::es) t) (hdb:autoParam ((x == ("__debug__" : Str))=false) Au) (he:autoParam (eQ (e::es) X.env=(false,eval e X.env)::eQ es X.env) Au) (hpl:autoParam ((jq pos (eQ es X.env)).any (·.1)=false) Au) :
  PE X (.Call (.Name x p) (e::es) [] pos) (qZ sp dvs E t):=by
 intro a s σ H Q I h;show gK (yH I hg hm ?_ hdb);show W.callWith_K (h₀:=X.base) I.ok.mod.kin hk (iF (ha pos a s σ H _ I h) λc b ζ=>?_) he hpl;let(d,g,I1,r,q):=ζ;show(I1.kIn,?_);show A6 F hr hb hd hx I1 r q
structure Mk(K:aW)(C f:Addr):Prop where
 makes:W.makesIn K C=true
 init:jn K (.ref C) "__init__"=some (some (.ref f))
 fn:W.isFn K (.ref f)=true
 kp:jm K (.ref C)=true
theorem Gr{s:da}(M:Mk X.K C f)(F:mr X.prog X.w X.K X.mg X.base CX k f fd ps sp)(hr:kh (k+1) X.A)(hb:Binds X.K fd ps ds)(hd:Vals dvs ds)
  (hx:rz CX X E) (I:Inv X pins σ H s) (r:Vals vs us)
  (h:∀ x dx,H x=none->H dx=none->dx≠x->sp (.ref x::(vs++dvs)) (upd (upd H dx (.own x)) x (.ins C dx [])) (λv H2=>v=.non/\Q (.ref x) H2) E) :
  ei (eO X.prog X.w) X.A (call (.ref C) us) (EP X pins σ Q) X.xe s:=by
 have c:=h (s.heap.objs.size+1) s.heap.objs.size (I.hok.fresh (Nat.le_succ _)) (I.hok.fresh (dh _)) (dI (ik _));have I2:=Inv.made (C:=C) I;have b:Vals (V.ref (s.heap.objs.size+1)::(vs++dvs)) (eK (s.heap.objs.size+1)::(us++ds)):=.cons rfl (r.append hd);have j:(eK (s.heap.objs.size+1)::us++ds).length=ps.length:=by
  have e:=b.length;rw[F.len _ _ _ _ c]at e;show e.symm
 show wpAny_call (L3 (f:=f) I.kIn M.makes M.init (beq_iff_eq.mp M.fn) (codeAny_mono (F.run _ X.stack _ _ ⟨eK (s.heap.objs.size+1)::us,[]⟩ (eK (s.heap.objs.size+1)::(us++ds)) _ _ E (hr.make C us [])
  (I2.env0.make C us []) (hb _ (eK (s.heap.objs.size+1)::us) I2.kIn j) b c) λr g a=>?_))
 cases r with
 | error e=>show hx pins σ _ _ e g I2 a
 | ok fl=>
  cases fl with
  | ret u=>
   let(v,m,I3,l,d,i):=I2.after a;subst d;show(l,⟨V.ref (s.heap.objs.size+1),m,I3,rfl,i⟩)
  | next=>show ix a
  | brk=>show ix a
  | cont=>show ix a
theorem Ld(M:Mk X.K C f)(F:mr X.prog X.w X.K X.mg X.base CX k f fd ps sp)(hr:kh (k+1) X.A)(hg:Gl X x)(hm:X.mg x=some (.ref C))(hb:Binds X.K fd ps ds)(hd:Vals dvs ds)(hx:rz CX X E)
  (ha:PA X (e::es) t) (hdb:autoParam ((x == ("__debug__" : Str))=false) Au) (he:autoParam (eQ (e::es) X.env=(false,eval e X.env)::eQ es X.env) Au) (hpl:autoParam ((jq pos (eQ es X.env)).any (·.1)=false) Au) :
  PE X (.Call (.Name x p) (e::es) [] pos) (oS C sp dvs E t):=by
 intro a s σ H Q I h;show gK (yH I hg hm ?_ hdb);show W.callWith_K (h₀:=X.base) I.ok.mod.kin M.kp (iF (ha pos a s σ H _ I h) λc b ζ=>?_) he hpl;let(d,g,I1,r,q):=ζ;show(I1.kIn,?_);show Gr M F hr hb hd hx I1 r q
theorem Mo(M:Mk X.K C f)(F:mr X.prog X.w X.K X.mg X.base CX k f fd ps sp)(hr:kh (k+1) X.A)(hg:Gl X x)(hm:X.mg x=some (.ref C))(hb:Binds X.K fd ps ds)(hd:Vals dvs ds)(hx:rz CX X E)
  (hdb:autoParam ((x == ("__debug__" : Str))=false) Au):PE X (.Call (.Name x p) [] [] pos) (oS C sp dvs E tNil):=by
 intro a s σ H Q I h;show gK (yH I hg hm ?_ hdb);show W.callWith_K0 I.kIn M.kp (Gr (us:=[]) M F hr hb hd hx I .nil h)
end
section
variable{CX:rG}{ks:List Str}{sp:Sp}{E:XK}{x:Str}{p apos kpos:Pos}{o:Expr}{kws:List Keyword}{tk:TA}{k:Nat}{f:Addr}{m:Str}{t:TA}{nm:Option Str}{gV:List V->List V->List V}{g:List aX->List aX->List aX}
end
structure iY(N P:List Str)(sc:Scope):Prop where
 kind:sc.kind=.function
 co:sc.isCoroutine=false
 gen:sc.isGenerator=false
 nd:N.Nodup
 pre:N.take P.length=P
 par:∀ x∈P,sc.names.lookup x=some .local\/sc.names.lookup x=some .cell
 nofree:∀ y∈sc.names,y.2≠.free
variable{kindOf:Str->Option kH}{x:Str}
theorem GI:∀{binds:List (Str × aX)}{m:Str->Option aX},(∀ v,(x,v)∉binds)->bindL kindOf binds m x=m x
 | [],_,_=>rfl
 | (n,v)::r,m,h=>by
  unfold bindL;rw[GI λw hw=>h w (dZ _ hw)];split
  .have : x≠n:=by rintro rfl;show h v fM
   simp[this]
  .rfl
theorem GK:∀{binds:List (Str × aX)}{m:Str->Option aX},(∀ v,(x,v)∉binds)->bindC kindOf binds m x=m x
 | [],_,_=>rfl
 | (n,v)::r,m,h=>by
  unfold bindC;rw[GK λw hw=>h w (dZ _ hw)];split
  .rfl
  .have : x≠n:=by rintro rfl;show h v fM
   simp[this]
variable{v:aX}
theorem GJ:∀{P:List Str}{vs:List aX}{i:Nat}{m:Str->Option aX},P.Nodup->P[i]?=some x->vs[i]?=some v->kindOf x=some .local ->
  bindL kindOf (P.zip vs) m x=some v
 | [],_,_,_,_,h,_,_=>by simp at h
 | _::_,[],_,_,_,_,h,_=>by simp at h
 | p::P,w::vs,0,m,nd,h1,h2,hk=>by
  simp at h1 h2;subst h1;subst h2;show bindL kindOf ((p,w)::P.zip vs) m p=_;unfold bindL;rw[GI λv hv=>(gy.mp nd).1 (kQ hv).1,if_pos hk];simp
 | p::P,w::vs,i+1,m,nd,h1,h2,hk=>by
  show bindL kindOf ((p,w)::P.zip vs) m x=_;unfold bindL;show GJ (i:=i) (gy.mp nd).2 (by simpa using h1) (by simpa using h2) hk
theorem GL:∀{P:List Str}{vs:List aX}{i:Nat}{m:Str->Option aX},P.Nodup->P[i]?=some x->vs[i]?=some v->kindOf x≠some .local ->
  bindC kindOf (P.zip vs) m x=some v
 | [],_,_,_,_,h,_,_=>by simp at h
 | _::_,[],_,_,_,_,h,_=>by simp at h
 | p::P,w::vs,0,m,nd,h1,h2,hk=>by
  simp at h1 h2;subst h1;subst h2;show bindC kindOf ((p,w)::P.zip vs) m p=_;unfold bindC;rw[GK λv hv=>(gy.mp nd).1 (kQ hv).1,if_neg hk];simp
 | p::P,w::vs,i+1,m,nd,h1,h2,hk=>by
  show bindC kindOf ((p,w)::P.zip vs) m x=_;unfold bindC;show GL (i:=i) (gy.mp nd).2 (by simpa using h1) (by simpa using h2) hk
def start(N:List Str)(vs:List V):St:=vs.map some++dF (N.length-vs.length) none
def pJ(CX:rG)(P:fH)(w:fA)(K:aW)(mg:Str->Option aX)(base:Heap)(N:List Str)(qual:Str)(scope:Scope)(f:Addr)(cd:aX)(A:fZ)(outer:List Env)(s:da)(H:Hp)(E:XK):Cx where
 prog:=P
 w:=w
 K:=K
 mg:=mg
 base:=base
 A:=A.deeper (envOfC qual scope s.heap.objs.size f cd)
 N:=N
 s₀:=s
 H₀:=H
 env:=envOfC qual scope s.heap.objs.size f cd
 outer:=outer
 stack:=envOfC qual scope s.heap.objs.size f cd::outer
 ex:=[]
 calm:=true
 fn:=λ_=>true
 pn:=[]
 xe:=λe s'=>ei (eO P w) (A.deeper (envOfC qual scope s.heap.objs.size f cd)) (leaving (envOfC qual scope s.heap.objs.size f cd) e) (λ_ s''=>CX outer H s E e s'') (λe' s''=>CX outer H s E e' s'') s'
theorem Gg{sc:Scope}(h:sc.names.lookup x=some .cell):∃ c,(cellsFrom n sc.names []).lookup x=some c:=by
 have q:=W.cellsFrom_some sc.names n [] (.inl h);show Option.isSome_iff_exists.mp q
variable{CX:rG}{qual:Str}{scope:Scope}
theorem MN{w:fA}{K:aW}{base:Heap}{N:List Str}{f:Addr}{cd:aX}{s s1:da}{E:XK}{vs:List V}
  (S:iY N ps scope) (hd:A.handled=none) (e0:pT P w K mg base A outer s H) (hl:vs.length=ps.length) (r:Vals vs us)
  (x:InCallC s s.heap.objs.size (bindL (envOfC qual scope s.heap.objs.size f cd).kindOf (ps.zip us) λ_=>none) (cellsFrom (s.heap.objs.size+1) scope.names []) (bindC (envOfC qual scope s.heap.objs.size f cd).kindOf (ps.zip us) λ_=>none) s1) :
  Inv (pJ CX P w K mg base N qual scope f cd A outer s H E) [] (start N vs) H s1:=by
 have D:ps.length<=N.length:=by have:=congrArg List.length S.pre;rw[eS]at this;ac_nf
 let(o,J,rfl,B):=x.done;have j:∀ b:Addr,b∉(pJ CX P w K mg base N qual scope f cd A outer s H E).ex:=λb z=>absurd (show b∈([]:List Addr)from z) (by simp);show(⟨e0.mod,S.kind,rfl,rfl,dh _,λy z c o d=>?_,λy g=>?_,λy c _ h=>?_,λ_=>hd,fZ.frames_deeper e0.frames, .inr ⟨rfl,rfl⟩,λb z=>absurd z (j b),e0.bs,e0.bsz,λb _ _=>j b,λb z=>absurd z (j b),e0.funs,e0.frf⟩,
  rfl,e0.bare,Un.kept B,⟨_,x.toInCall.ns,λi y v o d I=>?_⟩,λy c h=>⟨_,x.cell y c h⟩,e0.hok.fresh (dh _),λy c h=>?_,λp m=>absurd (show p∈([]:List (Addr × Obj))from m) (by simp),e0.hok.kept B,?_)
 .show name_of_addr x.apart (iZ o) (iZ d)
 .have g:scope.names.lookup y=some .cell\/scope.names.lookup y=some .free:=g;rcases g with g | g
  .show Gg g
  .show absurd rfl (S.nofree _ (iZ g))
 .show Nat.le_of_lt (x.above y c (iZ h))
 .have t:i<vs.length:=by
   unfold start at d;by_cases t:i<vs.length
   .show t
   .rw[iH (by simpa using t)]at d;rw[List.getElem?_replicate]at d;split at d <;> cases d
  have F:vs[i]?=some v:=by
   unfold start at d;rw[List.getElem?_append_left (by simpa using t),bg]at d;cases e:vs[i]? with
   | none=>rw[e]at d;cases d
   | some a=>rw[e]at d;cases d;rfl
  let(u,C,G):=r.get F;have m:ps[i]?=some y:=by
   rw[<- S.pre,List.getElem?_take_of_lt ∅];show o
  have l:ps.Nodup:=by rw[<- S.pre];show S.nd.sublist (List.take_sublist _ _)
  show(u,G,?_);rcases S.par y (aY m)with k | k
  .show .inl ⟨k,GJ l m C k⟩
  .let(c,e):=Gg (n:=s.heap.objs.size+1) k;show .inr ⟨.inl k,c,e,?_⟩;have q:=x.cell y c e;rw[GL l m C (by show scope.names.lookup y≠_;rw[k];decide)]at q;show q
 .show e0.hok.fresh (Nat.le_of_lt (x.above y c (iZ h)))
 .unfold start;show _=N.length;rw[dR,bc,kB];ac_nf
theorem xo{w:fA}{K:aW}{base:Heap}{k:Nat}{f:Addr}{name:Str}{params:Arguments}{dV kV doc pm cdv ct oc:aX}{an od:Option Addr}
  {osl:Array (Option aX)} {N ps:List Str} {sp:Sp} (lk:K.lookup f=some ⟨oc,od, .func (ky name qual params body scope dV kV doc pm an cdv ct),osl⟩) (hcd:W.codeIn K cdv qual=true) (S:iY N ps scope)
  (len:∀ vs H Q E,sp vs H Q E->vs.length=ps.length)
  (hbody:∀(A:fZ)(outer:List Env)(s:da)(H:Hp)(vs:List V)(Q:VK)(E:XK),kh k (A.deeper (envOfC qual scope s.heap.objs.size f cdv))->sp vs H Q E ->
   ∃ t,qg (pJ CX P w K mg base N qual scope f cdv A outer s H E) body t/\t { nx:=λ_ H'=>Q .non H',rt:=Q } (start N vs) H) :
  mr P w K mg base CX (k+1) f (ky name qual params body scope dV kV doc pm an cdv ct) ps sp:=by
 show(len,λA outer s H p L vs Q E i g D r h=>?_);have O:=len _ _ _ _ h;have KX:K.In s.heap:=g.mod.kin.keeps λb o e=>(g.bs b o e).1;have j:s.heap.NoLimit:=g.mod.nolimit.keeps λb o e=>(g.bs b o e).1;have a:∀ y∈ps.zip L,scope.names.lookup y.1=some .local\/(scope.names.lookup y.1=some .cell/\((cellsFrom (s.heap.objs.size+1) scope.names []).lookup y.1).isSome=true):=λ⟨n,v⟩ B=>by
  rcases S.par n (kQ B).1 with q | q
  .show .inl q
  .show .inr ⟨q,W.cellsFrom_some _ _ _ (.inl q)⟩
 show codeAny_call_function i.depth (KX _ _ lk) rfl S.co S.gen rfl (W.codeRec_of KX hcd) (D _ _ _ _ ?_);show wpAny_newFunctionEnv_cells S.kind a λM R z x=>?_;subst R;show(j.keeps x.toInCall.keep,codeAny_func ?_);let(t,F,C):=hbody A outer s H vs Q E (i.deeper _) h;have I:Inv (pJ CX P w K mg base N qual scope f cdv A outer s H E) [] (start N vs) H z:=MN S i.hd g O r x;show gB (F [] z (start N vs) H _ I C) (λG l c=>?_) λe l c=>c;have d:∀{σ':St}{H':Hp}{v:V}{u:aX},Inv (pJ CX P w K mg base N qual scope f cdv A outer s H E) [] σ' H' l->RelV v u->Q v H'->CE outer P w H s Q u l :=
  λ{σ' H' v u} J m q=>⟨v,H',J.os,J.bare,J.base,J.hok,m,q⟩
 cases G with
 | ret u=>
  let(v,σ',H',J,m,q):=c;show d J m q
 | next=>
  let(σ',H',J,q):=c;show d (v:=V.non) (u:=aX.none) J rfl q
 | brk=>
  let(_,_,_,q):=c;show ix q
 | cont=>
  let(_,_,_,q):=c;show ix q
section
variable{p:Pos}{id T:String}{r:List V->Hp->VK->Prop}{t:TA}
def AL(r:List V->Hp->VK->Prop)(t:TA):TE:=λσ H Q=>t σ H λvs H1=>r vs H1 Q
theorem mL(hc:lH X (.builtin id) r)(hg:Gl X x)(hm:X.mg x=none)(hv:fo x=some (.builtin id))(ha:PA X (e::es) t)(hn:autoParam (x≠"__name__") Au)(hdb:autoParam ((x == ("__debug__" : Str))=false) Au)
  (he:autoParam (eQ (e::es) X.env=(false,eval e X.env)::eQ es X.env) Au) (hpl:autoParam ((jq pos (eQ es X.env)).any (·.1)=false) Au):PE X (.Call (.Name x p) (e::es) [] pos) (AL r t):=by
 intro a s σ H Q I h;show gK (sM I hg hm hv ?_ hn hdb);show PyProof.Rows.callWith_builtin1 (iF (ha pos a s σ H _ I h) λd c ζ=>by let(f,g,I1,b,i):=ζ;show hc a c σ g f d Q I1 b i) he hpl
theorem xJ(hc:lH X (.type T) r)(hg:Gl X x)(hm:X.mg x=none)(hv:fo x=some (.type T))(ha:PA X (e::es) t)(hn:autoParam (x≠"__name__") Au)(hdb:autoParam ((x == ("__debug__" : Str))=false) Au)
  (he:autoParam (eQ (e::es) X.env=(false,eval e X.env)::eQ es X.env) Au) (hpl:autoParam ((jq pos (eQ es X.env)).any (·.1)=false) Au):PE X (.Call (.Name x p) (e::es) [] pos) (AL r t):=by
 intro a s σ H Q I h;show gK (sM I hg hm hv ?_ hn hdb);show gM (iF (ha pos a s σ H _ I h) λd c ζ=>by let(f,g,I1,b,i):=ζ;show hc a c σ g f d Q I1 b i) he hpl
end
end L2
namespace HT
open PySem PyProof.Rows
section
open PySem.SeqAt
open PySem.AutoSeq1 (wpAny_loadPart')
open PySem.MeetsSeq PySem.MeetsSeq2 PySem.MeetsSeq3
end
section
variable{prog:fH}{A:fZ}{E:aX->da->Prop}{w:fA}{s:da}
theorem cat_tup{t b:Addr}{vs ws:List aX}{Q:aX->da->Prop}(ht:IsTup s.heap t vs.toArray)(hb:IsTup s.heap b ws.toArray)(hv:vs≠[])
  (h1:ws=[]->Q (.ref t) s) (h2:ws≠[]->Q (.ref s.heap.objs.size) { s with heap:=s.heap.push { cls:=.type "tuple",data:=.seq (vs++ws).toArray } })
  (hsz:vs.length+ws.length<=sizeLine):ei (eO prog w) A (iE .Add (.ref t) (.ref b)) Q E s:=by
 let((cls,p,data,l),i,k,n,m):=id ht;let((q,f,j,d),a,g,o,c):=id hb;simp only at k m g c;subst k m g c;have e:vs.toArray++ws.toArray=(vs++ws).toArray:=by simp
 by_cases h:ws=[]
 .show concat_meets ⟨_,i,rfl⟩ ⟨_,a,rfl⟩ noFill_tuple_add seq_tuple_add PySem.F.slot_tuple_add PySem.F.entry_tuple_add (PySem.F.args_tuple_add_2 _ _)
   (tuple_addW1 t b vs.toArray ws.toArray n o p f l d (by simpa using hv) (by simp[h])) ⟨i,a,h1 h⟩
 .show concat_meets ⟨_,i,rfl⟩ ⟨_,a,rfl⟩ noFill_tuple_add seq_tuple_add PySem.F.slot_tuple_add PySem.F.entry_tuple_add (PySem.F.args_tuple_add_2 _ _)
   (tuple_addW2 t b vs.toArray ws.toArray n o p f l d (by simpa using hv) (by simpa using h) (by rw[eu,eu];show hsz)) ⟨i,a,?_⟩
  rw[e];show h2 h
def sIx(n d:Nat):Option Int->Nat
 | none=>d
 | some v=>if v<0 then(v+(n:Int)).toNat else min v.toNat n
theorem Ki(n d:Nat)(hd:d<=n)(o:Option Int):sIx n d o<=n:=by
 cases o with
 | none=>show hd
 | some v=>
  show(if v<0 then(v+(n:Int)).toNat else min v.toNat n)<=n;by_cases a:v<0
  .rw[if_pos a];ac_nf
  .rw[if_neg a];show Nat.min_le_right _ _
theorem FF(v:Int)(n d:Nat):(if v<0 then max (v+(n:Int)) 0 else min v (n:Int))=((sIx n d (some v):Nat):Int):=by
 show(if v<0 then max (v+(n:Int)) 0 else min v (n:Int))=(((if v<0 then(v+(n:Int)).toNat else min v.toNat n):Nat):Int);by_cases a:v<0
 .simp only[if_pos a];ac_nf
 .simp only[if_neg a];ac_nf
theorem Nb(lo hi:Option Int)(n:Nat):Builtin.Slice.sliceAdjust lo hi 1 (n:Int)=(((sIx n 0 lo:Nat):Int),((sIx n n hi:Nat):Int)):=by
 have a:¬((1:Int)<0):=by ac_nf
 unfold Builtin.Slice.sliceAdjust;simp only[a,if_false];show Prod.ext ?_ ?_
 .cases lo with
  | none=>rfl
  | some v=>show FF v n 0
 .cases hi with
  | none=>rfl
  | some v=>show FF v n n
theorem Ni(i j:Nat):jr (i:Int) (j:Int) 1=j-i:=by
 unfold jr;have a:(1:Int) > 0:=by ac_nf
 simp only[a,if_true,Int.ediv_one];split <;> ac_nf
theorem GW{v:aX}{o:Option Int}{Q:Option Int->da->Prop}(p:IsPart v o)(h:Q o s):ei (eO prog w) A (Builtin.Slice.slicePartIndex v) Q E s:=by
 cases p with
 | none=>show slicePart_none h
 | int i t=>show slicePart_int h
variable{vu:aX}{hi:Option Int}
theorem O2{sl:Addr}{vl:aX}{lo:Option Int}{n:Nat}{Q:Int × Int × Nat->da->Prop}(hs:s.heap.IsSliceOf sl vl vu .none)(pl:IsPart vl lo)(pu:IsPart vu hi)
  (h:Q (((sIx n 0 lo:Nat):Int),1,sIx n n hi-sIx n 0 lo) s):ei (eO prog w) A (Builtin.Slice.sliceApplied (.ref sl) (pure (n:Int))) Q E s:=by
 let(d,b,c,a):=id hs;unfold Builtin.Slice.sliceApplied Builtin.Slice.sliceFields;show du (du (wpAny_field b a (x:=vl) rfl (du (wpAny_field b a (x:=vu) rfl (du (wpAny_field b a (x:=.none) rfl (dU ?_)))))));show du (slicePart_none ?_);show ei _ _ (if((1:Int) == 0)=true then _ else _) _ _ s;rw[if_neg ⋯];show du (GW pl (du (GW pu (du (dU ?_)))));show ei _ _ (match Builtin.Slice.sliceAdjust lo hi 1 (n:Int)with | (lo,hi)=>pure (lo,(1:Int),jr lo hi 1)) _ _ s;rw[Nb lo hi n];show ei _ _ (pure (((sIx n 0 lo:Nat):Int),(1:Int),jr ((sIx n 0 lo:Nat):Int) ((sIx n n hi:Nat):Int) 1)) _ _ s;rw[Ni];show dU h
theorem Mm(xs:Array aX)(i k:Nat):((gX k).filterMap λ(m:Nat)=>xs[((i:Int)+(m:Int)*1).toNat]?).toArray=((xs.toList.drop i).take k).toArray:=by
 have e:(λ(m:Nat)=>xs[((i:Int)+(m:Int)*1).toNat]?)=λm=>xs[i+m]?:=by
  funext m
  have : ((i:Int)+(m:Int)*1).toNat=i+m:=by ac_nf
  rw[this]
 rw[e];have:=pick_run xs i k;rw[List.filterMap_map]at this;have a:((λx=>xs[x]?) ∘ λx=>i+x)=λm=>xs[i+m]?:=rfl;rw[a]at this;rw[this]
theorem getItem_tuple_cut{t sl:Addr}{items:Array aX}{vl:aX}{lo:Option Int}{Q:aX->da->Prop}(ht:IsTup s.heap t items)(hs:s.heap.IsSliceOf sl vl vu .none)(pl:IsPart vl lo)(pu:IsPart vu hi)
  (hw:¬(sIx items.size 0 lo=0/\sIx items.size items.size hi=items.size))
  (h:Q (.ref s.heap.objs.size) { s with heap:=s.heap.push { cls:=.type "tuple",data:=.seq ((items.toList.drop (sIx items.size 0 lo)).take (sIx items.size items.size hi-sIx items.size 0 lo)).toArray } })
  (hsz:items.size<=sizeLine):ei (eO prog w) A (getItem (.ref t) (.ref sl)) Q E s:=by
 have a:sizeOk (.seq ((items.toList.drop (sIx items.size 0 lo)).take (sIx items.size items.size hi-sIx items.size 0 lo)).toArray):=by
  show((items.toList.drop (sIx items.size 0 lo)).take (sIx items.size items.size hi-sIx items.size 0 lo)).toArray.size<=sizeLine;rw[eu,eS,List.length_drop,iA];omega
 have j:sIx items.size items.size hi<=items.size:=Ki _ _ (dh _) hi;let(f,e,d,g):=id hs;have b:s.TypeIs (.ref sl) "slice":=⟨f,e,d⟩;unfold getItem;try with_reducible show wpAny_holding ?_
 first | show du (dU ?_) | skip
 show du (wpAny_sequenceKey ht.typeIs ⋯ ?_);show du (wpAny_callSpecial?_slot (name:=il "__getitem__") ht.typeIs jP
  (wpAny_call_entry jP ht.typeIs entry_tuple_getitem ?_ (args_tuple_getitem _ _)))
 show ei _ _ (Builtin.Tuple.tupleItemsOf (.ref t) >>= _) _ _ s;show du (tupleItemsOf_ ht ?_);show du (wpAny_typeOf b ?_);rw[if_pos ⋯];show du (O2 hs pl pu ?_);have c:¬((((sIx items.size 0 lo:Nat):Int) == 0&&(1:Int) == 1&&(sIx items.size items.size hi-sIx items.size 0 lo) == items.size)=true):=by
  intro q;rw[gr,gr]at q;have k:((sIx items.size 0 lo:Nat):Int)=0:=eq_of_beq q.1.1;have i:sIx items.size items.size hi-sIx items.size 0 lo=items.size:=eq_of_beq q.2;show hw ⟨by omega,by omega⟩
 show ei _ _ (if(((sIx items.size 0 lo:Nat):Int) == 0&&(1:Int) == 1&&(sIx items.size items.size hi-sIx items.size 0 lo) == items.size)=true then _ else _) _ _ s;rw[if_neg c,Mm];first
  | show du (m:=jx _) (jd (dU ⟨_,rfl,dU h⟩) a)
  | show du (m:=jx _) (jd (du (dU (dU ⟨_,rfl,dU h⟩))) a)
  | show du (du (m:=jx _) (jd (dU (dU ⟨_,rfl,dU h⟩)) a))
  | show du (du (m:=jx _) (jd (dU ⟨_,rfl,dU h⟩) a))
end
end HT
namespace L2
open PySem PySem.Spec PyProof.Rows
abbrev TO:=St->Hp->(Option Int->Hp->Prop)->Prop
def PO(X:Cx)(e:Option Expr)(t:TO):Prop :=
 ∀(pins:List (Addr × Obj))(s:da)(σ : St)(H:Hp)(Q:Option Int->Hp->Prop),Inv X pins σ H s->t σ H Q ->
  ei (eO X.prog X.w) X.A (evalPart e X.env) (λu s'=>∃ o H',Inv X pins σ H' s'/\IsPart u o/\Q o H') X.xe s
def Lu:TO:=λ_ H Q=>Q none H
def tE(t:TE):TO:=λσ H Q=>t σ H λx H1=>∃ i,x=.int i/\Q (some i) H1
section
variable{X:Cx}{e:Expr}{te:TE}{hi:Option Expr}{tl th:TO}{pos p2:Pos}{lo:Option Expr}
theorem yx(h:PE X e te):PO X (some e) (tE te):=by
 intro a s σ H Q I b;rw[evalPart_some];show iF (h a s σ H _ I b) λu g ζ=>?_;let(x,d,I1,c,f):=ζ;let(i,rfl,q):=f;let(t,rfl):=c;show(some i,d,I1, .int i t,q)
def qJ(X:Cx)(r:V->Option Int->Option Int->Hp->VK->Prop):Prop :=
 ∀(pins:List (Addr × Obj))(s:da)(σ : St)(H:Hp)(x:V)(v vl vu:aX)(lo hi:Option Int)(sl:Addr)(Q:VK),Inv X pins σ H s->RelV x v->s.heap.IsSliceOf sl vl vu .none->IsPart vl lo->IsPart vu hi->r x lo hi H Q ->
  ∃ T id,typeLookup (.type T) "__getitem__"=pure (some (.builtin id))/\s.TypeIs v T/\ei (eO X.prog X.w) X.A (getItem v (.ref sl)) (EP X pins σ Q) X.xe s
variable{r:V->Option Int->Option Int->Hp->VK->Prop}
theorem qJ.or{r':V->Option Int->Option Int->Hp->VK->Prop}(h:qJ X r)(h':qJ X r'):qJ X (λx lo hi H Q=>r x lo hi H Q\/r' x lo hi H Q):=by
 intro a s σ H x v vl e lo hi b Q I d f c pu q;rcases q with q | q
 .show h a s σ H x v vl e lo hi b Q I d f c pu q
 .show h' a s σ H x v vl e lo hi b Q I d f c pu q
def Ea(r:V->Option Int->Option Int->Hp->VK->Prop)(te:TE)(tl th:TO):TE:=λσ H Q=>te σ H λx H1=>tl σ H1 λl H2=>th σ H2 λu H3=>r x l u H3 Q
theorem Gv(hr:qJ X r)(he:PE X e te)(hl:PO X lo tl)(hu:PO X hi th):PE X (.Subscript e (.Slice lo hi none p2) pos) (Ea r te tl th):=by
 intro a s σ H Q I h;show Subscript_ (iF (he a s σ H _ I h) λv z ζ=>?_);let(x,B,I1,i,m):=ζ;show wpAny_Slice (iF (hl a z σ B _ I1 m) λvl p ζ=>?_);let(l,y,I2,t,g):=ζ;show iF (hu a p σ y _ I2 g) λd c ζ=>?_;let(u,f,I3,pu,o):=ζ;rw[evalPart_none];show dU ?_;have I4:Inv X a σ f { c with heap:=c.heap.push { cls:=.type "slice",data:=.fields #[vl,d, .none] } }:=I3.kept (t':=c.toks) λb C q=>df _ q;let(T,id,j,n,k):=hr a { c with heap:=c.heap.push { cls:=.type "slice",data:=.fields #[vl,d, .none] } } σ f x v vl d l u c.heap.objs.size Q I4 i (Heap.IsSliceOf.new ..) t pu o;show ei (eO X.prog X.w) X.A (subscriptTail e (.Slice lo hi none p2) v (.ref c.heap.objs.size)) (EP X a σ Q) X.xe { c with heap:=c.heap.push { cls:=.type "slice",data:=.fields #[vl,d, .none] } };show tail_any (ops:=[.ref c.heap.objs.size,v]) n j k (by with_unfolding_all rfl)
def oW(xs:List V)(lo hi:Option Int):List V:=(xs.drop (HT.sIx xs.length 0 lo)).take (HT.sIx xs.length xs.length hi-HT.sIx xs.length 0 lo)
theorem He(xs:List V)(lo hi:Option Int):(oW xs lo hi).length<=xs.length:=by
 unfold oW;rw[eS,List.length_drop];ac_nf
def wU(K:aW):V->Option Int->Option Int->Hp->VK->Prop:=λx lo hi H Q=>∃ a xs,x=.ref a/\gZ K H a xs /\
 ¬(HT.sIx xs.length 0 lo=0/\HT.sIx xs.length xs.length hi=xs.length)/\∀ p,H p=none->Q (.ref p) (upd H p (.tup (oW xs lo hi)))
theorem Kf:qJ X (wU X.K):=by
 intro i s σ H x v vl w e g u Q I l t p pu h;let(a,d,rfl,n,m,q):=h;cases l;let(f,r,j,k):=I.tuple n;have c:f.toArray.size=d.length:=by rw[eu];show r.length.symm
 show("tuple",_,jP.lookup,j.typeIs,?_);show HT.getItem_tuple_cut j t p pu (by rw[c];show m) ?_ (by rw[c];show k);rw[c];show(.ref s.heap.objs.size,_,I.laid (t':=s.toks) (o:=.tup (oW d e g)) (λb y q=>df _ q) (dh _) ?_,rfl,q _ (I.hok.fresh (dh _)));show(fG (He d e g) k,_,(r.drop (HT.sIx d.length 0 e)).take (HT.sIx d.length d.length g-HT.sIx d.length 0 e),IsTup.new _ _)
def tM(K:aW):R2:=λx y H Q=>∃ a b xs ys,x=.ref a/\y=.ref b/\gZ K H a xs/\gZ K H b ys/\xs≠[]/\xs.length+ys.length<=sizeLine /\
 (ys=[]->Q (.ref a) H)/\(ys≠[]->∀ p,H p=none->Q (.ref p) (upd H p (.tup (xs++ys))))
variable{xs:List V}{us:List aX}
theorem Vals.nil_iff(r:Vals xs us):us=[]↔xs=[]:=by
 cases r with
 | nil=>simp
 | cons _ _=>simp
theorem Ll:lU X (iE .Add) (tM X.K):=by
 intro f s σ H x y v u Q I j B h;let(a,b,p,m,rfl,rfl,C,l,A,g,r,i):=h;cases j;cases B;let(n,d,k,_):=I.tuple C;let(e,c,t,_):=I.tuple l;show HT.cat_tup k t (λz=>A (d.nil_iff.mp z)) (λz=>⟨.ref a,H,I,rfl,r (c.nil_iff.mp z)⟩) (λz=>?_) (by rw[<- d.length, <- c.length];show g);show(.ref s.heap.objs.size,_,I.laid (t':=s.toks) (o:=.tup (p++m)) (λb D q=>df _ q) (dh _) ?_,rfl,i (λw=>z (c.nil_iff.mpr w)) _ (I.hok.fresh (dh _)));show(by rw[dR];show g,_,d.append c,IsTup.new _ _)
end
def vo(n:Nat)(i:Int):Option Nat:=if 0<=i then(if i<n then some i.toNat else none)else if -(n:Int)<=i then some (i+n).toNat else none
variable{α:Type}
def su(xs:List α)(i:Int):Option α:=(vo xs.length i).bind λj=>xs[j]?
variable{n j:Nat}
theorem KH{i:Int}(h:vo n i=some j):seqIndex? i n=some j/\j<n/\-(n:Int)<=i/\i<n:=by
 unfold vo at h;by_cases b:0<=i
 .rw[if_pos b]at h;by_cases a:i<n
  .rw[if_pos a]at h;have e:i.toNat=j:=eh h;show(by rw[seqIndex_of b a,e],∅,∅,a)
  .rw[if_neg a]at h;cases h
 .rw[if_neg b]at h;by_cases a : -(n:Int)<=i
  .rw[if_pos a]at h;have e:(i+n).toNat=j:=eh h;show(by rw[seqIndex_neg ∅ a,e],∅,a,∅)
  .rw[if_neg a]at h;cases h
theorem Bp{xs:List α}{i:Int}{v : α}(h:su xs i=some v):∃ j,seqIndex? i xs.length=some j/\xs[j]?=some v/\j<xs.length/\-(xs.length:Int)<=i/\i<xs.length:=by
 unfold su at h;cases e:vo xs.length i with
 | none=>rw[e]at h;cases h
 | some j=>
  rw[e]at h;let(c,a,b,d):=KH e;show(j,c,h,a,b,d)
theorem qQ{xs:List α}{v : α}(h:xs[j]?=some v):su xs (j:Int)=some v:=by
 have a:j<xs.length:=(aU.mp h).1;have e:vo xs.length (j:Int)=some j:=by
  unfold vo;rw[if_pos ∅,if_pos ∅];simp
 unfold su;rw[e];show h
def LN(b:Expr):Prop:=∀ o i,subscripted b false o i=operate [o,i] (getItem o i)
def vV(X:Cx)(r:R2):Prop :=
 ∀(value slice:Expr)(pins:List (Addr × Obj))(s:da)(σ : St)(H:Hp)(x y:V)(v u:aX)(Q:VK),Inv X pins σ H s->RelV x v->RelV y u->r x y H Q ->
  subscripted slice false v u=operate [v,u] (getItem v u)->ei (eO X.prog X.w) X.A (subscriptTail value slice v u) (EP X pins σ Q) X.xe s
def Ei(X:Cx)(id:String)(r:V->List V->Hp->VK->Prop):Prop :=
 ∀(pins:List (Addr × Obj))(s:da)(σ : St)(H:Hp)(x:V)(xs:List V)(v:aX)(us:List aX)(Q:VK),Inv X pins σ H s->RelV x v->Vals xs us->r x xs H Q ->
  ei (eO X.prog X.w) X.A (call (.builtin id) (v::us)) (EP X pins σ Q) X.xe s
section
variable{X:Cx}{a b:Expr}{ta tb:TE}{pos:Pos}
theorem ig{r:R2}(hr:vV X r)(ha:PE X a ta)(hb:PE X b tb)(hs:autoParam (LN b) Au):PE X (.Subscript a b pos) (ub r ta tb):=by
 intro c s σ H Q I h;show Subscript_ (uu ha hb I h λv u d x y g I2 f e q=>hr a b c d σ g x y v u Q I2 f e q (hs _ _))
def AR(K:aW):R2:=λx y H Q=>∃ p xs i v,x=.ref p/\y=.int i/\fI K H p xs/\su xs i=some v/\Q v H
def AQ(K:aW):R2:=λx y H Q=>∃ p xs i v,x=.ref p/\y=.int i/\gZ K H p xs/\su xs i=some v/\Q v H
def rIxS:R2:=λx y H Q=>∃ z i c,x=.str z/\y=.int i/\z.length<=sizeLine/\su z.cps.toList i=some c/\Q (.str ⟨#[c]⟩) H
theorem KG:vV X (AR X.K):=by
 intro e l a s σ H x y v u Q I A E h o;let(p,N,i,z,rfl,rfl,C,J,q):=h;cases A;let(t,rfl):=E;let(f,r,k,P):=I.list C;let(j,c,B,O,L,D):=Bp J;let(w,n,d):=r.get B;have G:=r.length;have M:=vB;have b:EP X a σ Q w s:=⟨z,H,I,d,q⟩;by_cases m:0<=i
 .have g:i.toNat=j:=by
   rw[seqIndex_of m D]at c;show eh c
  show item_listR k.isList m ∅ (by rw[g];simpa using n) b o
 .have g:(i+(f.toArray.size:Int)).toNat=j:=by
   rw[seqIndex_neg ∅ L]at c;rw[eu, <- G];show eh c
  show subscriptTail_builtinR (x:=w) k.isList.typeIs slot_list_getitem.lookup
   (wpAny_getItem_list_neg (Q:=λr F=>r=w/\EP X a σ Q r F) k.isList ∅ (by rw[eu] <;> ac_nf) ∅ (by rw[g];simpa using n) ⟨rfl,b⟩) o
theorem JU:vV X (AQ X.K):=by
 intro d e a s σ H x y v u Q I g A h E;let(p,G,i,z,rfl,rfl,l,D,q):=h;cases g;let(t,rfl):=A;let(m,r,f,M):=I.tuple l;let(j,o,k,L,N,J):=Bp D;let(w,n,c):=r.get k;have C:=r.length;have F:=vB;have b:EP X a σ Q w s:=⟨z,H,I,c,q⟩;show subscriptTail_builtinR (x:=w) f.typeIs slot_tuple_getitem.lookup
  (getItem_tuple (j:=j) (Q:=λr B=>r=w/\EP X a σ Q r B) f ∅ ∅ (by rw[eu, <- C];show o) (by simpa using n) ⟨rfl,b⟩) E
theorem JV:vV X rIxS:=by
 intro a b d s σ H x y v u Q I f n h r;let(z,i,c,rfl,rfl,C,p,q):=h;let(t,rfl):=f;let(D,rfl):=n;let(j,e,g,B,w,m):=Bp p;have o:z.cps.toList.length=z.length:=by simp[Str.length]
 rw[o]at e w m;have A:=vB;show tail_any (typeIs_str s z t) slot_str_getitem.lookup (getItem_str (c:=c) (by
  have k:decide (i < -(2 ^ 63:Int))=false:=decide_eq_false ∅;have l:decide (i ≥ 2 ^ 63)=false:=decide_eq_false ∅;rw[k,l,Bool.or_false]) (by rw[e];simpa using g) ⟨.str ⟨#[c]⟩,H,I.tok _,⟨_,rfl⟩,q⟩) r
theorem Nt(lo hi:Option Int)(n:Nat):(lJ lo hi none n).1=((HT.sIx n 0 lo:Nat):Int)/\(lJ lo hi none n).2.1=((HT.sIx n n hi:Nat):Int)/\(lJ lo hi none n).2.2=1:=by
 show(?_,?_,rfl)
 .cases lo with
  | none=>simp[lJ,HT.sIx]
  | some i=>
   simp only[lJ,HT.sIx,Option.getD_none,show(1:Int) > 0 by decide,if_true];by_cases h:i<0
   .simp only[h,if_true] <;> ac_nf
   .simp only[h,if_false] <;> ac_nf
 .cases hi with
  | none=>simp[lJ,HT.sIx]
  | some i=>
   simp only[lJ,HT.sIx,Option.getD_none,show(1:Int) > 0 by decide,if_true];by_cases h:i<0
   .simp only[h,if_true] <;> ac_nf
   .simp only[h,if_false] <;> ac_nf
theorem NR(its:List aX)(lo hi:Option Int):slicePick its.toArray lo hi none=((its.drop (HT.sIx its.length 0 lo)).take (HT.sIx its.length its.length hi-HT.sIx its.length 0 lo)).toArray:=by
 let(c,a,b):=Nt lo hi its.toArray.size;unfold slicePick;rw[c,a,b];simp only[sliceRange_one,pick_run,eu] <;> rfl
def wV(K:aW):V->Option Int->Option Int->Hp->VK->Prop:=λx lo hi H Q=>∃ a xs,x=.ref a/\fI K H a xs/\∀ p,H p=none->Q (.ref p) (upd H p (.lst (oW xs lo hi)))
theorem K0:qJ X (wV X.K):=by
 intro g s σ H x v vl u e f t Q I j p n pu h;let(a,c,rfl,l,q):=h;cases j;let(k,r,i,m):=I.list l;have d:=r.length;show("list",_,slot_list_getitem.lookup,i.isList.typeIs,?_);show wpAny_getItem_list_slice i.isList p n pu .none (by simp) ?_ (by rw[eu] <;> ac_nf);rw[NR, <- d];show(.ref s.heap.objs.size,_,I.laid (t':=s.toks) (o:=.lst (oW c e f)) (λb w q=>df _ q) (dh _) ?_,rfl,q _ (I.hok.fresh (dh _)));show(fG (He c e f) m,_,0,(r.drop (HT.sIx c.length 0 e)).take (HT.sIx c.length c.length f-HT.sIx c.length 0 e),dP _ rfl)
def flatV:V->Bool
 | .non=>true
 | .bl _=>true
 | .int _=>true
 | .str _=>true
 | _=>false
def eqV:V->V->Bool
 | .non, .non=>true
 | .bl a, .bl b=>a == b
 | .bl a, .int b=>(if a then 1 else 0) == b
 | .int a, .bl b=>a == (if b then 1 else 0)
 | .int a, .int b=>a == b
 | .str a, .str b=>a == b
 | _,_=>false
variable{A:fZ}{y x:V}{u v:aX}
theorem Ep{s:da}(ry:RelV y u)(rx:RelV x v)(fy:flatV y=true)(fx:flatV x=true):SeqAt.EqAt A s u v (eqV y x):=by
 cases y with
 | non=>
  cases ry;cases x with
  | non=>cases rx;show SeqAt.EqAt.same _
  | bl b=>cases rx;show SeqAt.EqAt.none_bool b
  | int b=>let(t,rfl):=rx;show SeqAt.EqAt.none_int b t
  | str b=>let(t,rfl):=rx;show SeqAt.EqAt.none_str b t
  | _=>show absurd (show false=true from fx) dY
 | bl a=>
  cases ry;cases x with
  | non=>cases rx;show SeqAt.EqAt.bool_none a
  | bl b=>cases rx;show SeqAt.EqAt.bool_bool a b
  | int b=>let(t,rfl):=rx;show SeqAt.EqAt.bool_int a b t
  | str b=>let(t,rfl):=rx;show SeqAt.EqAt.bool_str a b t
  | _=>show absurd (show false=true from fx) dY
 | int a=>
  let(c,rfl):=ry;cases x with
  | non=>cases rx;show SeqAt.EqAt.int_none a c
  | bl b=>cases rx;show SeqAt.EqAt.int_bool a c b
  | int b=>let(t,rfl):=rx;show SeqAt.EqAt.int_int a c b t
  | str b=>let(t,rfl):=rx;show SeqAt.EqAt.int_str a c b t
  | _=>show absurd (show false=true from fx) dY
 | str a=>
  let(c,rfl):=ry;cases x with
  | non=>cases rx;show SeqAt.EqAt.str_none a c
  | bl b=>cases rx;show SeqAt.EqAt.str_bool a c b
  | int b=>let(t,rfl):=rx;show SeqAt.EqAt.str_int a c b t
  | str b=>let(t,rfl):=rx;show SeqAt.EqAt.str_str a c b t
  | _=>show absurd (show false=true from fx) dY
 | _=>show absurd (show false=true from fy) dY
def pI(x:V)(u:aX):Bool:=match u with
 | .none=>eqV .non x
 | .bool b=>eqV (.bl b) x
 | .int i _=>eqV (.int i) x
 | .str z _=>eqV (.str z) x
 | _=>false
theorem Eo(r:RelV y u)(f:flatV y=true):pI x u=eqV y x:=by
 cases y with
 | non=>cases r;rfl
 | bl b=>cases r;rfl
 | int i=>let(t,rfl):=r;rfl
 | str z=>let(t,rfl):=r;rfl
 | _=>show absurd (show false=true from f) dY
variable{xs:List V}{us:List aX}
theorem yD(h:Vals xs us):xs.all flatV=true->us.any (pI x)=xs.any λy=>eqV y x:=by
 induction h with
 | nil=>showλ_=>rfl
 | cons r _ ih=>
  intro f;rw[List.all_cons,gr]at f;rw[jK,jK,Eo r f.1,ih f.2]
theorem yN{s:da}(rx:RelV x v)(fx:flatV x=true){xs:List V}{us:List aX}(h:Vals xs us):xs.all flatV=true->∀ u∈us,SeqAt.EqAt A s u v (pI x u):=by
 induction h with
 | nil=>showλ_ u a=>by cases a
 | cons r _ ih=>
  intro f b a;rw[List.all_cons,gr]at f;rcases eP.mp a with rfl | a
  .rw[Eo r f.1];show Ep r rx f.1 fx
  .show ih f.2 b a
def xh(x:V)(xs:List V):Bool:=xs.any λy=>eqV y x
def yb(K:aW)(neg:Bool):R2:=λx y H Q=>∃ p xs,y=.ref p/\(fI K H p xs\/gZ K H p xs)/\flatV x=true/\xs.all flatV=true/\Q (.bl (if neg then !xh x xs else xh x xs)) H
theorem MD:lU X (fY .In) (yb X.K false):=by
 intro g s σ H x y v u Q I i k h;let(p,l,rfl,b,f,c,q):=h;cases k;rcases b with b | b
 .let(a,r,e,j):=I.list b;show SeqAt.in_listAt (pI x) e.isList (λw d=>yN i f r c w (by simpa using d)) ⟨.bl _,H,I,rfl,?_⟩;rw[show a.toArray.any (pI x)=a.any (pI x) by simp,yD r c];show q
 .let(a,r,e,j):=I.tuple b;show SeqAt.in_tupleAt (pI x) e (λw d=>yN i f r c w (by simpa using d)) ⟨.bl _,H,I,rfl,?_⟩;rw[show a.toArray.any (pI x)=a.any (pI x) by simp,yD r c];show q
theorem Ov:lU X (fY .NotIn) (yb X.K true):=by
 intro g s σ H x y v u Q I i k h;let(p,l,rfl,b,f,c,q):=h;cases k;rcases b with b | b
 .let(a,r,e,j):=I.list b;show SeqAt.notIn_listAt (pI x) e.isList (λw d=>yN i f r c w (by simpa using d)) ⟨.bl _,H,I,rfl,?_⟩;rw[show a.toArray.any (pI x)=a.any (pI x) by simp,yD r c];show q
 .let(a,r,e,j):=I.tuple b;show SeqAt.notIn_tupleAt (pI x) e (λw d=>yN i f r c w (by simpa using d)) ⟨.bl _,H,I,rfl,?_⟩;rw[show a.toArray.any (pI x)=a.any (pI x) by simp,yD r c];show q
theorem Oo:lH X (.builtin "len") (λxs H Q=>∃ p ys,xs=[.ref p]/\(fI X.K H p ys\/gZ X.K H p ys)/\Q (.int ys.length) H):=by
 intro f s σ H xs k Q I r h;let(p,ys,rfl,b,q):=h;let(u,rfl,g):=vals1 r;cases g;have j:=vB;rcases b with b | b
 .let(d,c,e,i):=I.list b;have a:=c.length;show Calls.call_len_list e.isList (by simp only[eu] <;> ac_nf) ⟨.int ys.length,H,I.tok _,⟨s.toks+1,by rw[eu,a]⟩,q⟩
 .let(d,c,e,i):=I.tuple b;have a:=c.length;show len_tuple e (by simp only[eu] <;> ac_nf) ⟨.int ys.length,H,I.tok _,⟨s.toks+1,by rw[eu,a]⟩,q⟩
theorem On:lH X (.builtin "len") (λxs H Q=>∃ z,xs=[.str z]/\z.length<=sizeLine/\Q (.int z.length) H):=by
 intro a s σ H xs d Q I r h;let(z,rfl,b,q):=h;let(u,rfl,t,rfl):=vals1 r;have c:=vB;show len_str ∅ ⟨.int z.length,H,I.tok _,⟨_,rfl⟩,q⟩
theorem Om:lH X (.type "list") (λxs H Q=>∃ p ys,xs=[.ref p]/\(fI X.K H p ys\/gZ X.K H p ys)/\∀ l,H l=none->Q (.ref l) (upd H l (.lst ys))):=by
 intro j s σ H xs B Q I r h;let(p,ys,rfl,k,q):=h;let(u,rfl,A):=vals1 r;cases A;have g:∀(a:List aX),Vals ys a->ys.length<=sizeLine->∀(c:Heap)(f:Nat),(∀ b o',s.heap.get? b=some o'->c.get? b=some o') ->
   c.get? s.heap.objs.size=some { cls:=.type "list",dict:=none,data:=.seq a.toArray f,slots:=#[] }->EP X j σ Q (.ref s.heap.objs.size) { s with heap:=c }:=λa d m c f i e=>
  ⟨.ref s.heap.objs.size,_,I.laid (t':=s.toks) i (dh _) (show jh X.prog X.w _ c _ (.lst ys)from⟨m,a,f,d,e⟩),rfl,q _ (I.hok.fresh (dh _))⟩
 rcases k with k | k
 .let(a,d,z,m):=I.list k;have t:=d.length;let(o,x,y,n,v):=z.isList;show call_list_seq p (.inl rfl) x y v (λc f i e=>g a d m c f i e) (by simp only[eu] <;> ac_nf)
 .let(a,d,z,m):=I.tuple k;have t:=d.length;let(o,x,y,n,v):=z;show call_list_seq p (.inr rfl) x y v (λc f i e=>g a d m c f i e) (by simp only[eu] <;> ac_nf)
def wA(K:aW)(T:String)(x:V)(H:Hp):Prop:=match x with
 | .str _=>T="str"
 | .int _=>T="int"
 | .ref p=>(T="list"/\∃ xs,fI K H p xs)\/(T="tuple"/\∃ o,K.lookup p=some o/\o.cls=.type "tuple"/\o.dict=none) \/
   (T="dict"/\((∃ kvs,H p=some (.dK kvs))\/∃ kvs,H p=some (.dT kvs)))\/(T="set"/\∃ S n,H p=some (.set S n))
 | _=>False
variable{pins:List (Addr × Obj)}{σ:St}{H:Hp}{T:String}
theorem ED{s:da}(I:Inv X pins σ H s)(r:RelV x v)(ty:wA X.K T x H) :
  s.TypeIs v T/\∀ a,v=.ref a->∃ ob,s.heap.get? a=some ob/\ob.dict=none:=by
 cases x with
 | str z=>
  let(t,rfl):=r;cases(show T="str" from ty);show(typeIs_str s z t,λ_ e=>nomatch e)
 | int i=>
  let(t,rfl):=r;cases(show T="int" from ty);show(typeIs_int s i t,λ_ e=>nomatch e)
 | ref p=>
  cases r;rcases ty with⟨rfl,xs,hq⟩ | ⟨rfl,o,hk,hc,d⟩ | ⟨rfl,hk⟩ | ⟨rfl,S,n,hk⟩
  .let(h,_,g,_):=I.list hq;show(g.isList.typeIs,λa e=>?_);cases e;let(o,n,e,c,d,_):=g;show(o,e,d)
  .show(⟨o,I.kIn p o hk,hc⟩,λa e=>?_);cases e;show(o,I.kIn _ o hk,d)
  .have z:∃ o,s.heap.get? p=some o/\o.ExactDict:=by
    rcases hk with⟨kvs,hk⟩ | ⟨kvs,hk⟩
    .let(_,_,_,_,o,_,_,e,b,_):=I.hok p _ hk;show(o,e,b)
    .let(_,_,_,_,o,_,_,e,b,_):=I.hok p _ hk;show(o,e,b)
   let(o,e,b):=z;show(⟨o,e,b.1⟩,λa f=>?_);cases f;show(o,e,b.2.1)
  .let(o,_,_,_,e,b,_):=I.hok p _ hk;show(⟨o,e,b.1⟩,λa f=>?_);cases f;show(o,e,b.2.1)
 | _=>show ix ty
def wK(K:aW)(T:String)(r:V->List V->Hp->VK->Prop)(to:TE):TE:=λσ H Q=>to σ H λx H1=>wA K T x H1/\r x [] H1 Q
def Ed(K:aW)(T:String)(r:V->List V->Hp->VK->Prop)(to:TE)(t:TA):TE:=λσ H Q=>to σ H λx H1=>wA K T x H1/\t σ H1 λxs H2=>r x xs H2 Q
variable{o e:Expr}{es:List Expr}{to:TE}{name:Str}{apos cpos:Pos}{id:String}{r:V->List V->Hp->VK->Prop}{t:TA}
theorem Ks(pa:PlainAttrs T)(slot:Slot T name id)(hty:typeOf (.builtin id)=pure (.type "method_descriptor"))(hm:Ei X id r)(ho:PE X o to)
  (hbase:autoParam (iL o name X.env (eval o X.env)=eval o X.env) Au) (hline:autoParam ((apos.endLine == cpos.line)=true) Au):PE X (.Call (.Attribute o name apos) [] [] cpos) (wK X.K T r to):=by
 intro a s σ H Q I h;show kr hbase hline (iF (ho a s σ H _ I h) λv c ζ=>?_);let(x,g,I1,b,f,i):=ζ;let(d,e):=ED I1 b f;show(T,id,pa,slot,hty,d,e,gH rfl (kP (hm a c σ g x [] v [] Q I1 b .nil i)))
theorem jT(pa:PlainAttrs T)(slot:Slot T name id)(hty:typeOf (.builtin id)=pure (.type "method_descriptor"))(hm:Ei X id r)(ho:PE X o to)(ha:PA X (e::es) t)
  (hbase:autoParam (iL o name X.env (eval o X.env)=eval o X.env) Au)
  (hfew:autoParam (((jq cpos (eQ (e::es) X.env)).all (λx=>!x.1)&&(backToKw cpos (keywordEach [] X.env)).all (λx=>x.1.isSome)
   && decide ((e::es).length+([]:List Keyword).length+(if([]:List Keyword).isEmpty then 0 else 1)<30))=true) Au)
  (hline:autoParam ((apos.endLine == cpos.line)=true) Au) (hs:autoParam (eQ (e::es) X.env=(false,eval e X.env)::eQ es X.env) Au) (hplain:autoParam ((jq cpos (eQ es X.env)).any (·.1)=false) Au) :
  PE X (.Call (.Attribute o name apos) (e::es) [] cpos) (Ed X.K T r to t):=by
 intro a s σ H Q I h;show wpAny_Call_method_late hbase hfew hline rfl (iF (ho a s σ H _ I h) λv p ζ=>?_);let(x,u,I1,c,q,j):=ζ;let(k,f):=ED I1 c q;show(T,id,pa,slot,hty,k,f,?_);have b:=ha cpos a p σ u _ I1 j;rw[hs]at b ⊢;show gH (by show(false||(jq cpos (eQ es X.env)).any (·.1))=false;rw[hplain] <;> rfl) (kI ?_);show iF b λl m ζ=>by let(g,n,I2,i,d):=ζ;show hm a m σ n x g v l Q I2 c i d
end
def yj(X:Cx)(id:String)(r:V->List V->Hp->VK->Prop):Prop :=
 ∀(pins:List (Addr × Obj))(s:da)(σ : St)(H:Hp)(x:V)(xs:List V)(v:aX)(us:List aX)(Q:VK),Inv X pins σ H s->RelV x v->Vals xs us->r x xs H Q ->
  ei (eO X.prog X.w) X.A (call (.builtin id) (v::us)) (EP X pins σ Q) X.xe s
variable{us:List aX}
theorem Vals.one{x:V}(h:Vals [x] us):∃ u,us=[u]/\RelV x u:=by
 cases h with
 | cons r t=>cases t;show(_,rfl,r)
theorem Vals.zero:∀{us:List aX},Vals [] us->us=[]
 | _, .nil=>rfl
variable{xs:List V}
theorem Vals.dropLast(h:Vals xs us):Vals xs.dropLast us.dropLast:=by
 induction h with
 | nil=>show .nil
 | cons r t ih=>
  cases t with
  | nil=>show .nil
  | cons q t'=>show .cons r ih
theorem Vals.eraseIdx:∀{xs:List V}{us:List aX}(i:Nat),Vals xs us->Vals (xs.eraseIdx i) (us.eraseIdx i)
 | _,_,_, .nil=>.nil
 | _,_,0, .cons _ t=>t
 | _,_,i+1, .cons r t=>.cons r (Vals.eraseIdx i t)
theorem M7(l:List α):l.eraseIdx (l.length-1)=l.dropLast:=by
 induction l with
 | nil=>rfl
 | cons a r ih=>
  cases r with
  | nil=>rfl
  | cons b r=>
   have e:(a::b::r).length-1=((b::r).length-1)+1:=by
    have d:(a::b::r).length=r.length+2:=rfl;have c:(b::r).length=r.length+1:=rfl;ac_nf
   rw[e,List.eraseIdx_cons_succ,ih];all_goals rfl
theorem GC:∀(l:List α)(i:Nat),(l.eraseIdx i).length<=l.length
 | [],_=>dh _
 | _::_,0=>Nat.le_succ _
 | _::r,i+1=>Nat.succ_le_succ (GC r i)
section
variable{X:Cx}{pins:List (Addr × Obj)}{σ:St}{H:Hp}{l b:Addr}{ys zs:List V}{s:da}{its:List aX}{t':Nat}
theorem Inv.lset{its':List aX}{f:Array aX->Array aX}(I:Inv X pins σ H s)(hH:H l=some (.lst xs))
  (e:s.heap.get? l=some { cls:=.type "list",data:=.seq its.toArray n }) (hf:f its.toArray=its'.toArray) (hv:Vals ys its') (hz:ys.length<=sizeLine) :
  Inv X pins σ (upd H l (.lst ys)) { s with heap:=s.heap.update l (Obj.mapSeq f),toks:=t' }:=by
 have q:=PySem.IsL.update e f;rw[hf]at q;show I.write (x:=l) (e:=l) (by rw[hH];show trivial) (.inl rfl) (λc u a b=>(Heap.get?_update_other s.heap (Obj.mapSeq f) (gk a)).trans b) ⟨_,q⟩ ?_;show(hz,its',_,hv,q)
theorem Inv.lnew(I:Inv X pins σ H s)(hv:Vals ys its)(hz:ys.length<=sizeLine) :
  Inv X pins σ (upd H s.heap.objs.size (.lst ys)) { s with heap:=s.heap.push { cls:=.type "list",data:=.seq its.toArray },toks:=t' } :=
 I.laid (λ_ _ q=>df _ q) (dh _) ⟨hz,its,0,hv,dP _ rfl⟩
theorem Inv.fresh(I:Inv X pins σ H s):H s.heap.objs.size=none:=I.hok.fresh (dh _)
theorem Inv.lstM(I:Inv X pins σ H s)(hH:H l=some (.lst xs)):xs.length<=sizeLine/\∃(its:List aX)(n:Nat),Vals xs its/\xs.length=its.length/\s.heap.get? l=some { cls:=.type "list",data:=.seq its.toArray n }:=by
 let(z,its,n,r,e):=I.hok l _ hH;show(z,its,n,r,r.length,e)
theorem LX(h:n<=sizeLine):Builtin.List.listTooLong n=false:=by
 unfold Builtin.List.listTooLong;show decide_eq_false ∅
end
variable{X:Cx}
def K8:V->List V->Hp->VK->Prop:=λx vs H Q=>∃ l xs y,x=.ref l/\vs=[y]/\H l=some (.lst xs)/\xs.length<sizeLine/\Q .non (upd H l (.lst (xs++[y])))
theorem pF:yj X "list.append" K8:=by
 intro b s σ H x i v k Q I d g h;let(l,j,y,rfl,rfl,c,m,q):=h;cases d;let(u,rfl,f):=g.one;let(z,a,n,r,o,e):=I.lstM c;show call_meets F.slot_list_append ⟨_,e,rfl⟩ F.entry_list_append (F.args_list_append_2 _ _) (PySem.list_append l a.toArray n u (by rw[eu];ac_nf)) ⟨e,?_⟩;show(.non,_,I.lset (its':=a++[u]) c e (by simp) (r.append (.cons f .nil)) ?_,rfl,q);rw[dR,dD];ac_nf
def K7:V->List V->Hp->VK->Prop:=λx vs H Q=>∃ l b xs zs,x=.ref l/\vs=[.ref b]/\H l=some (.lst xs)/\H b=some (.lst zs)/\xs.length+zs.length<=sizeLine/\Q .non (upd H l (.lst (xs++zs)))
theorem Cc:yj X "list.extend" K7:=by
 intro g s σ H x A v E Q I k y h;let(l,b,C,D,rfl,rfl,i,p,G,q):=h;cases k;let(u,rfl,t):=y.one;cases t;let(z,c,n,r,J,e):=I.lstM i;let(B,a,j,o,w,m):=I.lstM p;have f:c.toArray.size+a.toArray.size<=sizeLine:=by rw[eu,eu];ac_nf
 have d:¬(!c.toArray.isEmpty&&Builtin.List.listTooLong (c.toArray.size+a.toArray.size))=true:=by
  rw[LX f,Bool.and_false];show dY
 show call_meets F.slot_list_extend ⟨_,e,rfl⟩ F.entry_list_extend (F.args_list_extend_2 _ _)
  (AutoSeq1.list_extend_list_list_0 l c.toArray n b a.toArray j d (by rw[eu];ac_nf) ∅) ⟨e,m,?_⟩
 show(.non,_,I.lset (its':=c++a) i e (by simp) (r.append o) ?_,rfl,q);rw[dR];ac_nf
def rPop:V->List V->Hp->VK->Prop:=λx vs H Q=>∃ l xs y,x=.ref l/\vs=[]/\H l=some (.lst xs)/\xs[xs.length-1]?=some y/\Q y (upd H l (.lst xs.dropLast))
theorem JL:yj X "list.pop" rPop:=by
 intro d s σ H x p v w Q I i o h;let(l,t,y,rfl,rfl,f,g,q):=h;cases i;have c:=o.zero;subst c;let(z,a,n,r,m,e):=I.lstM f;let(u,j,k):=r.get g;have b:a.toArray[a.toArray.size-1]?=some u:=by
  show a.toArray[a.length-1]?=some u;rw[<- iI, <- m];show j
 show call_meets F.slot_list_pop ⟨_,e,rfl⟩ F.entry_list_pop (F.args_list_pop_1 _) (MeetsSeq.list_pop_last l a.toArray n u b (by rw[eu];ac_nf)) ⟨e,?_⟩;show(y,_,I.lset (its':=a.dropLast) f e ?_ r.dropLast ?_,k,q)
 .show a.toArray.eraseIdxIfInBounds (a.toArray.size-1)=a.dropLast.toArray;rw[eu,List.eraseIdxIfInBounds_toArray,M7]
 .rw[List.length_dropLast];ac_nf
def Kl:V->List V->Hp->VK->Prop:=λx vs H Q=>∃ l xs i k y,x=.ref l/\vs=[.int i]/\H l=some (.lst xs)/\-(2 ^ 63)<=i/\i<2 ^ 63/\seqIndex? i xs.length=some k/\xs[k]?=some y/\Q y (upd H l (.lst (xs.eraseIdx k)))
theorem LZ:yj X "list.pop" Kl:=by
 intro c s σ H x E v G Q I j D h;let(l,o,i,k,y,rfl,rfl,d,B,m,f,g,q):=h;cases j;let(u,rfl,A):=D.one;let(t,rfl):=A;let(z,a,n,r,C,e):=I.lstM d;let(w,p,b):=r.get g;show call_meets F.slot_list_pop ⟨_,e,rfl⟩ F.entry_list_pop (F.args_list_pop_2 _ _)
  (MeetsSeq.list_pop_at l a.toArray n i t k w (fitsIndex_both B m) (by rw[eu, <- C];show f) (by rw[<- iI];show p) (by rw[eu];ac_nf)) ⟨e,?_⟩
 show(y,_,I.lset (its':=a.eraseIdx k) d e ?_ (r.eraseIdx k) ?_,b,q)
 .show a.toArray.eraseIdxIfInBounds k=(a.eraseIdx k).toArray;rw[List.eraseIdxIfInBounds_toArray]
 .have:=GC o k;ac_nf
def rCat:R2:=λx y H Q=>∃ l b xs zs,x=.ref l/\y=.ref b/\H l=some (.lst xs)/\H b=some (.lst zs)/\xs.length+zs.length<=sizeLine/\∀ p,H p=none->Q (.ref p) (upd H p (.lst (xs++zs)))
theorem JH:lU X (iE .Add) rCat:=by
 intro d s σ H x y v u Q I f p h;let(l,b,A,B,rfl,rfl,g,k,C,q):=h;cases f;cases p;let(z,c,n,r,D,e):=I.lstM g;let(w,a,t,j,o,i):=I.lstM k;show PySem.P.add_list e i ?_ (by rw[eu,eu];ac_nf);have m:c.toArray++a.toArray=(c++a).toArray:=by simp
 rw[m];show(.ref _,_,I.lnew (t':=s.toks) (r.append j) (by rw[dR];ac_nf),rfl,q _ I.fresh)
section
variable{prog:fH}{A:fZ}{E:aX->da->Prop}{w:fA}{s:da}
end
end L2
namespace Att
open PySem PySem.W PySem.Calls PyProof.Rows
theorem OZ{P:Params}{h:Heap}:∀(ns:List Int)(vs:List aX),WellAll P h vs (ns.map WData.int)->IntsAre vs ns:=by
 intro ns;induction ns with
 | nil=>
  intro vs w;rw[fP]at w;cases w;show .nil
 | cons n ns ih=>
  intro vs w;rw[dw]at w;cases w with
  | cons a b=>
   cases a;show .cons _ _ (ih _ b)
variable{l:OpenLaw}{n:Nat}
theorem LQ(hn:l.most=some n){P:Params}{h:Heap}{args:List WData}{vals:List aX}
  (hpre:l.row.toRowW.claim.pre args=true) (hwl:WellAll P h vals args) :
  ∃ a vs ns,vals=[eK a]/\args=[WData.list (ns.map WData.int)]/\h.get? a=some { cls:=.type "list",data:=.seq vs.toArray }/\IntsAre vs ns/\ns.length<=n:=by
 have f:WShape.hasAll [] args [.list .int]=true:=(pre_splitW hpre).1;have g:l.pre.holds [] { args:=args }=true:=(pre_splitW hpre).2;let(d,r,rfl,j,k):=hasAllW_cons f;obtain rfl:=hasAllW_nil k;let(o,rfl,m):=hasW_list j;let(ns,rfl):=items_int m;have b:ns.length<=n:=by
  unfold OpenLaw.pre at g;have e:(WTm.not (.lt (.lit (.int (n:Int))) (.len (.arg 0)))).holds [] { args:=[.list (ns.map .int)] }=true:=by
   have e:=(holds_andW g).1;rw[hn]at e;show e
  have c:=condW_of e (w_not (w_lt w_lit (w_len_list (w_arg rfl))));rw[bc]at c;show Nat.le_of_not_lt λq=>?_;have i:(n:Int)<((ns.length:Nat):Int):=by ac_nf
  first
   | (rw[decide_eq_true i]at c;show absurd c ⋯)
   | (simp at c;ac_nf)
 cases hwl with
 | cons w1 w2=>
  cases w2;cases w1 with
  | list ho hall=>show(_,_,ns,rfl,rfl,ho,OZ ns _ hall,b)
theorem MS(l:OpenLaw)(args:List WData):l.row.toRowW.claim.post args (.bool true) args=true :=
 postW_of (r:=l.row.toRowW) (X:=(true == true))
  (show WShape.has [] (.bool true) .bool=true by first | rfl | decide | simp[WShape.has,WShape.arms,WShape.armsAll])
  (show(WTm.eq .res (.lit (.bool true))).value [] { args:=args,res:=some (.bool true),after:=args }=some (.bool (true == true))from w_eq_bool (w_res rfl) w_lit) rfl
theorem attach_call{q:fH}{loose:List Str}{XP:(Str->Option aX)->Heap->Prop}{YP:fA->Heap->Prop}{d:DefRec}
  (hn:l.most=some n) (hdf:d.params.defaults=[])
  (call:∀(w:fA)(s₀ s₁ : da)(mg mb:Str->Option aX)(fa:Addr)(o:Obj)(pm cd doc:aX)(a:Addr)(vs:List aX)(ns:List Int),
   Ground q loose [] XP w s₀ mg mb s₁.heap->YP w s₁.heap ->
   s₁.heap.get? fa=some o->o.data=.func (docDef d.name d.params d.body d.scope pm cd doc)->s₁.heap.CodeRec cd d.name->mg d.name=some (.ref fa) ->
   s₁.heap.get? a=some { cls:=.type "list",data:=.seq vs.toArray }->IntsAre vs ns->ns.length<=n->s₁.gens=#[] ->
   kG (eO l.prog w) callerA (.call (.ref fa) ⟨[.ref a],[]⟩) (λr s'=>r=.ok (.ret (.bool true))/\OldK s₁.heap s'.heap/\s'.os=s₁.os/\AllBare s'.gens) s₁) :
  WalkO q loose XP YP l.row.toRowW d [] (λf vs=>PySem.call f vs):=by
 intro w s₀ s₁ mg mb G Y fa o pm cd doc B kV x u i t h A m p H c k C j z;obtain rfl:B=.none:=Dflts.none t hdf;obtain rfl:kV=.none:=Dflts.noKw t;let(a,vs,ns,rfl,rfl,e,b,g):=LQ hn c j;show enter_call (codeAny_mono (call w s₀ s₁ mg mb fa o pm cd doc a vs ns G Y x (fd_plain u) i h e b g A) λr s' y=>?_);let(rfl,v,E,F):=y;show(.inl ⟨.bool true, .bool true,[],rfl,λ_=>rfl, .bool true,MS l _,λ_=>⟨List.Pairwise.nil,λ_ D=>(nomatch D)⟩⟩,v,E,F)
section
variable{prog:fH}{A:fZ}{E:aX->da->Prop}{K:Frag}{w:fA}{s:da}
end
end Att
namespace L2
open PySem PySem.Spec PyProof.Rows
variable{vs:List aX}{ns:List Int}
theorem Me(h:IntsAre vs ns):Vals (ns.map V.int) vs:=by
 induction h with
 | nil=>show .nil
 | cons n t _ ih=>show .cons ⟨t,rfl⟩ ih
def uw(H:Hp):Prop:=∀ b,H b=none\/∃ o xs,H b=some (.frz o (.lst xs))
variable{P:fH}{mg:Str->Option aX}{a:Addr}{fd:ip}{x:Str}
theorem L6{w:fA}{K:aW}{mb:Str->Option aX}{CX:rG}{k:Nat}{fa:Addr}{sp:Sp}{s₁:da}
  (KX:K.In s₁.heap) (hns:s₁.heap.Ns gi mg) (hb:s₁.heap.Ns builtinsNs mb) (hbb:∀ x:Str,x≠"__name__"->mb x=fo x) (hlim:s₁.heap.NoLimit) (hg:s₁.gens=#[])
  (ha:s₁.heap.get? a=some { cls:=.type "list",data:=.seq vs.toArray }) (hi:IntsAre vs ns) (hl:ns.length<=sizeLine) (hr:kh k callerA)
  (F:∀ base:Heap,K.In base->base.Ns gi mg->mr P w K mg base CX k fa fd [x] sp) (hbind:∀(s:da)(u:aX),BindsTo s fd ⟨[u],[]⟩ [(x,u)])
  (hsp:∀ H:Hp,uw H->fI K H a (ns.map V.int)->sp [.ref a] H (λv _=>v=.bl true) λ_ _ _=>False)
  (hCX:∀ H e s',CX [] H s₁ (λ_ _ _=>False) e s'->False) :
  kG (eO P w) callerA (.call (.ref fa) ⟨[.ref a],[]⟩) (λr s'=>r=.ok (.ret (.bool true))/\OldK s₁.heap s'.heap/\s'.os=s₁.os/\AllBare s'.gens) s₁:=by
 have I:=Me hi;have i:=hi.length;have g:∀ H:Hp,uw H->fI K H a (ns.map V.int)->mS P w H s₁.heap->(∀ b,H b≠none->b=a)->(H a≠none->K.lookup a=none) ->
   kG (eO P w) callerA (.call (.ref fa) ⟨[.ref a],[]⟩) (λr s'=>r=.ok (.ret (.bool true))/\OldK s₁.heap s'.heap/\s'.os=s₁.os/\AllBare s'.gens) s₁:=by
  intro H G S j C N;have c:∀{b:Addr}{o:Obj},s₁.heap.get? b=some o->H b=none->(oA s₁.heap H).get? b=some o:=λe n=>L8 e n;have B:∀{b:Addr}{o:Obj}{es:Array DictEntry}{ep:Nat},s₁.heap.get? b=some o->o.data=.dict es ep->H b=none:=λ{b o es ep} e d=>by
   cases q:H b with
   | none=>rfl
   | some u=>
    have A:b=a:=C b (by rw[q];simp);subst A;rw[ha]at e;cases e;have T:Data.seq vs.toArray _=Data.dict es ep:=d;cases T
  have f:∀{b:Addr}{m:Str->Option aX},s₁.heap.Ns b m->(oA s₁.heap H).Ns b m:=λ{b m} ζ=>(by let(o,es,ep,e,d,r):=ζ;show(o,es,ep,c e (B e d),d,r));have p:K.In (oA s₁.heap H):=λb o e=>c (KX b o e) (by
   cases q:H b with
   | none=>rfl
   | some u=>
    have A:b=a:=C b (by rw[q];simp);subst A;rw[N (by rw[q];simp)]at e;cases e)
  have L:Mod K mg (oA s₁.heap H):=⟨p,f hns,⟨mb,f hb,hbb⟩,let⟨mc,h1,h2⟩:=hlim;⟨mc,f h1,h2⟩⟩;have M:pT P w K mg (oA s₁.heap H) callerA [] s₁ H:=⟨rfl,L,λb o e=>Kw e,Nat.le_of_eq (MO _ _),trivial,λb hb=>absurd (show b∈([]:List Addr)from hb) (by simp),j, .of_eq hg⟩;show codeAny_mono ((F _ p (f hns)).run callerA [] s₁ H ⟨[.ref a],[]⟩ [.ref a] [.ref a] _ _ hr M (hbind s₁ (.ref a)) (.cons rfl .nil) (hsp H G S)) λr s' h=>?_;cases r with
  | error e=>show(hCX H e s' h).elim
  | ok fl=>
   cases fl with
   | next=>show ix h
   | brk=>show ix h
   | cont=>show ix h
   | ret u=>
    let(v,U,os,t,D,y,J,q):=h;have Q:v=.bl true:=q;subst Q;obtain rfl:u=kz true:=J;show(rfl,OldK.of_keep λb o e=>?_,os,t);cases q:H b with
    | none=>show D.keep b o e q (by intro z;show absurd (show b∈([]:List Addr)from z) (by simp)) (by simp)
    | some u=>
     rcases G b with z | ⟨ob,xs,z⟩
     .rw[q]at z;cases z
     .have O:=D.frzs b ob _ z;let(E,_):=j b _ z;let(R,_):=y b _ O;rw[e]at E;cases E;show R
 cases hk:K.lookup a with
 | some o=>
  have e:=KX a o hk;rw[ha]at e;cases e;show g (λ_=>none) (λ_=>.inl rfl) (.inr ⟨_,vs.toArray,_,hk,rfl,rfl,rfl,by rw[eu,i];show hl,by simpa using I⟩) (λb u z=>by have l:(none:Option HO)=some u:=z;cases l) (λb z=>absurd rfl z) λz=>absurd rfl z
 | none=>
  show g (λb=>if b=a then some (.frz { cls:=.type "list",data:=.seq vs.toArray } (.lst (ns.map V.int)))else none) (λb=>?_) (.inl (.inr ⟨{ cls:=.type "list",data:=.seq vs.toArray },if_pos rfl⟩)) (λb u z=>?_) (λb z=>?_) λ_=>hk
  .by_cases hb:b=a
   .show .inr ⟨_,_,if_pos hb⟩
   .show .inl (if_neg hb)
  .by_cases hb:b=a
   .have l:=(if_pos hb).symm.trans z;cases l;subst hb;show(ha,by rw[bc];show hl,vs,_,I,ha)
   .have l:=(if_neg hb).symm.trans z;cases l
  .by_cases hb:b=a
   .show hb
   .show absurd (if_neg hb) z
abbrev Pp{K:aW}{h:Heap}(_:K.In h):aW:=K
theorem Pz{l:W.OpenLaw}{n k:Nat}{q:fH}{loose:List Str}{XP:(Str->Option aX)->Heap->Prop}{YP:fA->Heap->Prop}{d:DefRec}{K:Params->aW}{CX:fA->rG}{sp:fA->Sp}
  (hn:l.most=some n) (hn2:n<=sizeLine) (hdf:d.params.defaults=[]) (hr:kh k callerA)
  (hY:∀(w:fA)(h:Heap),YP w h->(K w.params).In h)
  (F:∀(w:fA)(mg:Str->Option aX)(fa:Addr)(h:Heap),(K w.params).In h->h.Ns gi mg->mg d.name=some (.ref fa) ->
   ∃ fd:ip,(∀(s:da)(u:aX),BindsTo s fd ⟨[u],[]⟩ [(x,u)]) /\
    ∀ base:Heap,(K w.params).In base->base.Ns gi mg->mr l.prog w (K w.params) mg base (CX w) k fa fd [x] (sp w))
  (hsp:∀(w:fA)(H:Hp)(a:Addr)(ns:List Int),ns.length<=n->uw H->fI (K w.params) H a (ns.map V.int)->sp w [.ref a] H (λv _=>v=.bl true) λ_ _ _=>False)
  (hCX:∀(w:fA)(H:Hp)(s:da)(e:aX)(s':da),CX w [] H s (λ_ _ _=>False) e s'->False) :
  W.WalkO q loose XP YP l.row.toRowW d [] (λf vs=>PySem.call f vs):=by
 show Att.attach_call hn hdf λw s₀ s₁ mg I fa o J D A a vs ns G Y E C y m j i c r=>?_;have KX:=hY w _ Y;let(fd,p,B):=F w mg fa _ KX G.T.g m;show L6 KX G.T.g G.T.b G.T.builtins G.T.nolimit r j i (fG c hn2) hr B p (λH z t=>hsp w H a ns c z t) λH e s'=>hCX w H s₁ e s'
def inClass(s:Stmt)(j:Nat):Stmt:=match s with
 | .ClassDef _ _ _ body _ _ _ _ _ _ _=>body.getD j (.Pass ⟨0,0,0,0⟩)
 | _=>.Pass ⟨0,0,0,0⟩
def qk(s:Stmt):Arguments:=match s with
 | .FunctionDef _ a _ _ _ _ _ _ _ _=>a
 | _=>{ posonlyargs:=[],args:=[],vararg:=none,kwonlyargs:=[],kw_defaults:=[],kwarg:=none,defaults:=[] }
def pQ(s:Stmt):List Stmt:=match s with
 | .FunctionDef _ _ b _ _ _ _ _ _ _=>b
 | _=>[]
def iC(s:Stmt):Scope:=match s with
 | .FunctionDef _ _ _ _ _ _ sc _ _ _=>sc
 | _=>{ kind:=.function,names:=[],isGenerator:=false,isCoroutine:=false }
abbrev E0:XK:=λ_ _ _=>False
structure ID(K:aW)(x qual:Str)(st:Stmt)(f:Addr)(fd:ip):Prop where
 ex:∃(oc:aX)(od:Option Addr)(kV doc pm:aX)(an:Option Addr)(cdv ct:aX)(osl:Array (Option aX)),
  fd=ky x qual (qk st) (pQ st) (iC st) .none kV doc pm an cdv ct/\K.lookup f=some ⟨oc,od, .func fd,osl⟩/\W.codeIn K cdv qual=true
 kp:jm K (.ref f)=true
section
variable{w:fA}{K:aW}{base:Heap}
theorem ID.binds{qual:Str}{st:Stmt}{f:Addr}{ps:List Str}(F:ID K x qual st f fd)
  (h:∀(kV doc pm:aX)(an:Option Addr)(cdv ct:aX)(us:List aX),us.length=ps.length->bindArgs (ky x qual (qk st) (pQ st) (iC st) .none kV doc pm an cdv ct) ⟨us,[]⟩=pure (ps.zip us)):Binds K fd ps []:=by
 let(c,d,kV,doc,pm,an,cdv,ct,b,rfl,lk,a):=F.ex;show .all (h kV doc pm an cdv ct)
end
variable{X:Cx}
theorem pv(i:Nat){x:Str}{pos:Pos}(hN:autoParam (X.N[i]?=some x) Au)(hv:autoParam (AY X.env.scope x) Au)(hd:autoParam ((x == ("__debug__" : Str))=false) Au)
  (hcd:autoParam ((x == ("__classdict__" : Str))=false) Au):PE X (.Name x pos) (qW i):=Kq hN hv hd hcd
def dC(H H':Hp):Prop:=∀ b o,H b=some o->H' b=some o
theorem dC.refl(H:Hp):dC H H:=λ_ _ h=>h
variable{H:Hp}
theorem dC.trans{H1 H2:Hp}(a:dC H H1)(b:dC H1 H2):dC H H2:=λc o h=>b c o (a c o h)
theorem dC.seq{K:aW}{H':Hp}{xs:List V}(e:dC H H')(h:fI K H a xs):fI K H' a xs:=by
 rcases h with(h | ⟨o,h⟩) | h
 .show .inl (.inl (e _ _ h))
 .show .inl (.inr ⟨o,e _ _ h⟩)
 .show .inr h
end L2
set_option maxHeartbeats 4000000
namespace L2
open PySem PySem.Spec PyProof.Rows
section
variable{κ:Type}[DecidableEq κ]
def gR(kvs:List (κ × V))(k : κ):Option V:=(kvs.find? λkv=>decide (kv.1=k)).map (·.2)
def putK(kvs:List (κ × V))(k : κ)(v:V):List (κ × V) :=
 if(kvs.any λkv=>decide (kv.1=k))=true then kvs.map (λkv=>if kv.1=k then(kv.1,v)else kv)else kvs++[(k,v)]
theorem pO{p : κ × V}{r:List (κ × V)}{k : κ}(e:p.1=k):gR (p::r) k=some p.2:=by simp[gR,fR,e]
theorem qi{p : κ × V}{r:List (κ × V)}{k : κ}(e:¬ p.1=k):gR (p::r) k=gR r k:=by simp[gR,fR,e]
theorem uI(k : κ):∀ kvs:List (κ × V),(kvs.any λkv=>decide (kv.1=k))=(gR kvs k).isSome
 | []=>rfl
 | p::r=>by
  rw[jK];by_cases e:p.1=k
  .simp only[pO e,decide_eq_true e,Bool.true_or,gj]
  .rw[qi e,decide_eq_false e,Bool.false_or];show uI k r
theorem Gm(k j : κ)(y:V):∀ kvs:List (κ × V),gR (kvs.map λkv=>if kv.1=k then(kv.1,y)else kv) j=(gR kvs j).map λx=>if j=k then y else x
 | []=>rfl
 | p::r=>by
  have ih:=Gm k j y r;rw[dw];by_cases h:p.1=k
  .rw[if_pos h];by_cases e:p.1=j
   .rw[pO (p:=(p.1,y)) e,pO e,kK,if_pos (e.symm.trans h)]
   .rw[qi (p:=(p.1,y)) e,qi e,ih]
  .rw[if_neg h];by_cases e:p.1=j
   .rw[pO (p:=p) e,pO e,kK,if_neg (λz=>h (e.trans z))]
   .rw[qi (p:=p) e,qi e,ih]
theorem Gy(k j : κ)(y:V):∀ kvs:List (κ × V),gR kvs k=none->gR (kvs++[(k,y)]) j=if j=k then some y else gR kvs j
 | [],_=>by
  by_cases e:k=j
  .rw[if_pos e.symm];show pO (p:=(k,y)) e
  .rw[if_neg (λz=>e z.symm)];show qi (p:=(k,y)) e
 | p::r,hn=>by
  rw[gO];have hk:¬ p.1=k:=λz=>by rw[pO z]at hn;cases hn
  rw[qi hk]at hn;have ih:=Gy k j y r hn;by_cases e:p.1=j
  .rw[pO e,pO e,if_neg (λz=>hk (e.trans z))]
  .rw[qi e,qi e,ih]
theorem yL(kvs:List (κ × V))(k j : κ)(y:V):gR (putK kvs k y) j=if j=k then some y else gR kvs j:=by
 unfold putK;by_cases a:(kvs.any λb=>decide (b.1=k))=true
 .rw[if_pos a,Gm];rw[uI]at a;by_cases e:j=k
  .let(x,c):=Option.isSome_iff_exists.mp a;rw[if_pos e,e,c,kK,if_pos rfl]
  .rw[if_neg e];cases gR kvs j with
   | none=>rfl
   | some x=>rw[kK,if_neg e]
 .rw[if_neg a];show Gy k j y kvs ?_;rw[uI]at a;cases q:gR kvs k with
  | none=>rfl
  | some x=>rw[q]at a;show(a rfl).elim
theorem uT(kvs:List (κ × V))(k : κ)(v:V):(putK kvs k v).length<=kvs.length+1:=by
 unfold putK;split
 .rw[bc];ac_nf
 .rw[dR,dQ,fV];ac_nf
theorem Ml{kvs:List (κ × V)}{k : κ}(v:V)(h:gR kvs k=none):putK kvs k v=kvs++[(k,v)]:=by
 unfold putK;rw[uI,h];show if_neg ⋯
variable{o:Option V}{u:Option aX}
theorem RelO.isSome_eq(r:RelO o u):o.isSome=u.isSome:=by
 cases o with
 | none=>cases u with
  | none=>rfl
  | some _=>show(show False from r).elim
 | some _=>cases u with
  | none=>show(show False from r).elim
  | some _=>rfl
variable{d:V}
theorem RelO.getD{d':aX}(r:RelO o u)(rd:RelV d d'):RelV (o.getD d) (u.getD d'):=by
 cases o with
 | none=>cases u with
  | none=>show rd
  | some _=>show(show False from r).elim
 | some _=>cases u with
  | none=>show(show False from r).elim
  | some _=>show r
theorem KV.val{kvs:List (κ × V)}{vs:List (κ × aX)}(r:KV kvs vs)(k : κ):RelO (gR kvs k) (valueAt vs k):=by
 unfold KV at r;induction r with
 | nil=>show iG
 | @cons p q ps qs h t ih=>
  let(c,d):=h;by_cases e:p.1=k
  .have a:q.1=k:=c.symm.trans e;have b:valueAt (q::qs) k=some q.2:=by simp[valueAt,fR,a]
   rw[pO e,b];show d
  .have a:¬ q.1=k:=λz=>e (c.trans z);have b:valueAt (q::qs) k=valueAt qs k:=by simp[valueAt,fR,a]
   rw[qi e,b];show ih
theorem KV.any{kvs:List (κ × V)}{vs:List (κ × aX)}(r:KV kvs vs)(k : κ):(kvs.any λkv=>decide (kv.1=k))=vs.any λkv=>decide (kv.1=k):=by
 unfold KV at r;induction r with
 | nil=>rfl
 | cons h t ih=>rw[jK,jK,ih,h.1]
theorem KV.repl{kvs:List (κ × V)}{vs:List (κ × aX)}(r:KV kvs vs)(k : κ){y:V}{u:aX}(ry:RelV y u) :
  KV (kvs.map λkv=>if kv.1=k then(kv.1,y)else kv) (vs.map λkv=>if kv.1=k then(kv.1,u)else kv):=by
 unfold KV at r ⊢;induction r with
 | nil=>show .nil
 | @cons p q ps qs h t ih=>
  rw[dw,dw];show .cons ?_ ih;let(a,b):=h;by_cases e:p.1=k
  .rw[if_pos e,if_pos (a.symm.trans e)];show(a,ry)
  .rw[if_neg e,if_neg (λz=>e (a.trans z))];show(a,b)
theorem KV.put{kvs:List (κ × V)}{vs:List (κ × aX)}(r:KV kvs vs)(k : κ){y:V}{u:aX}(ry:RelV y u):KV (putK kvs k y) (stored vs k u):=by
 unfold putK stored;rw[r.any k];by_cases e:(vs.any λa=>decide (a.1=k))=true
 .rw[if_pos e,if_pos e];show r.repl k ry
 .rw[if_neg e,if_neg e];show kU.snoc r ⟨rfl,ry⟩
theorem KV.length{kvs:List (κ × V)}{vs:List (κ × aX)}(r:KV kvs vs):kvs.length=vs.length:=kU.length r
end
variable{P:fH}
theorem mZ{w:fA}{k:gD}{u:aX}(r:RelV (kV k) u):(mi P w).is k u=true:=by
 cases k with
 | inl i=>have e:=(show u=kz i from r);subst e;show Ol P w i
 | inr x=>let(t,e):=(show∃ t,u=aX.str x t from r);subst e;show Np P w x t
theorem GE{w:fA}:∀{ks:List gD}{us:List aX},Vals (ks.map kV) us->ItemsAre (mi P w) ks us
 | [],_,r=>by rw[fP]at r;cases r;show .nil
 | k::ks,_,r=>by
  rw[dw]at r;cases r with
  | cons h t=>show .cons (mZ h) (GE t)
abbrev KT(H:Hp):List (List gD × V)->List (List gD × Addr × aX)->Prop:=kU λp q=>p.1=q.1/\H q.2.1=some (.tup (p.1.map kV))/\RelV p.2 q.2.2
variable{H:Hp}{kvs:List (List gD × V)}{xs:List (List gD × Addr × aX)}
theorem KT.val(r:KT H kvs xs)(k:List gD):RelO (gR kvs k) ((atKey xs k).map (·.2)):=by
 induction r with
 | nil=>show iG
 | @cons p q ps qs h t ih=>
  let(c,_,d):=h;by_cases e:p.1=k
  .have a:q.1=k:=c.symm.trans e;have b:atKey (q::qs) k=some q.2:=by simp[atKey,fR,a]
   rw[pO e,b];show d
  .have a:¬ q.1=k:=λz=>e (c.trans z);have b:atKey (q::qs) k=atKey qs k:=by simp[atKey,fR,a]
   rw[qi e,b];show ih
theorem KT.repl(r:KT H kvs xs)(k:List gD){y:V}{u:aX}(ry:RelV y u) :
  KT H (kvs.map λkv=>if kv.1=k then(kv.1,y)else kv) (xs.map (putAt k u)):=by
 induction r with
 | nil=>show .nil
 | @cons p q ps qs h t ih=>
  rw[dw,dw];show .cons ?_ ih;let(a,b,c):=h;unfold putAt;by_cases e:p.1=k
  .rw[if_pos e,if_pos (a.symm.trans e)];show(a,b,ry)
  .rw[if_neg e,if_neg (λz=>e (a.trans z))];show(a,b,c)
theorem KT.put(r:KT H kvs xs)(k:List gD){b:Addr}{y:V}{u:aX}(hb:H b=some (.tup (k.map kV)))(ry:RelV y u) :
  KT H (putK kvs k y) (storedH xs k b u):=by
 have e:(kvs.any λa=>decide (a.1=k))=(atKey xs k).isSome:=by
  rw[uI,(r.val k).isSome_eq,Option.isSome_map]
 unfold putK storedH;rw[e];by_cases q:(atKey xs k).isSome=true
 .rw[if_pos q,if_pos q];show r.repl k ry
 .rw[if_neg q,if_neg q];show kU.snoc r ⟨rfl,hb,ry⟩
variable{H':Hp}
theorem KT.keeps(r:KT H kvs xs)(ht:∀ b ys,H b=some (.tup ys)->H' b=some (.tup ys)):KT H' kvs xs :=
 Paired.mapP r λ_ _ z=>⟨z.1,ht _ _ z.2.1,z.2.2⟩
section
variable{h:Heap}{a:Addr}{w:fA}
theorem wc{u:HO}(ok:mS P w H h)(e:Rd H a u):jh P w H h a u:=e.ok ok
variable{kvs:List (gD × V)}
theorem nK(ok:mS P w H h)(e:Rd H a (.dK kvs)):kvs.length<=sizeLine/\(a == jw)=false/\∃ vs,KV kvs vs/\h.DictOf (mi P w) a vs :=
 show jh P w H h a (.dK kvs)from wc ok e
theorem mN(ok:mS P w H h)(e:H a=some (.dK kvs)):kvs.length<=sizeLine/\(a == jw)=false/\∃ vs,KV kvs vs/\h.DictOf (mi P w) a vs:=nK ok (.inl e)
theorem uG{ks:List gD}(ok:mS P w H h)(e:H a=some (.tup (ks.map kV))):(tupleKind (mi P w)).is h ks a:=by
 let(_,b,r,o,c,d,n,f):=(show jh P w H h a (.tup (ks.map kV))from ok a _ e);show(o,b.toArray,n,c,d,f,by simpa using GE r)
variable{kvs:List (List gD × V)}
theorem nJ(ok:mS P w H h)(e:Rd H a (.dT kvs)):kvs.length<=sizeLine/\(a == jw)=false /\
  ∃ xs,KT H kvs xs/\h.DictOfH (tupleKind (mi P w)) a xs:=by
 let(z,y,xs,r,o,f,c,g,j,k,d,i):=(show jh P w H h a (.dT kvs)from wc ok e);show(z,y,xs,r,o,f,c,g,j,k,d,λx b=>?_,i);have all:∀{l:List (List gD × V)}{m:List (List gD × Addr × aX)},KT H l m->∀ x∈m,(tupleKind (mi P w)).is h x.1 x.2.1:=by
  intro l m q;induction q with
  | nil=>intro x b;show nomatch b
  | @cons p q ps qs hq t ih=>
   intro x b;rcases eP.mp b with e | b
   .subst e;show uG ok (by rw[<- hq.1];show hq.2.1)
   .show ih x b
 show all r x b
theorem xt(ok:mS P w H h)(e:H a=some (.dT kvs)):kvs.length<=sizeLine/\(a == jw)=false /\
  ∃ xs,KT H kvs xs/\h.DictOfH (tupleKind (mi P w)) a xs:=nJ ok (.inl e)
end
def gE(H:Hp)(a:Addr)(y:V)(r:Option V):Prop :=
 (∃ kvs k,Rd H a (.dK kvs)/\y=kV k/\r=gR kvs k)\/∃ kvs k b,Rd H a (.dT kvs)/\y=.ref b/\H b=some (.tup (k.map kV))/\r=gR kvs k
def jY(H:Hp)(a:Addr)(y v:V)(H':Hp):Prop :=
 (∃ kvs k,H a=some (.dK kvs)/\y=kV k/\kvs.length<sizeLine/\H'=upd H a (.dK (putK kvs k v))) \/
 ∃ kvs k b,H a=some (.dT kvs)/\y=.ref b/\H b=some (.tup (k.map kV))/\kvs.length<sizeLine/\H'=upd H a (.dT (putK kvs k v))
variable{a:Addr}{kvs:List (gD × V)}
theorem gE.k{k:gD}(e:H a=some (.dK kvs)):gE H a (kV k) (gR kvs k):=.inl ⟨kvs,k, .inl e,rfl,rfl⟩
variable{v:V}
theorem jY.k{k:gD}(e:H a=some (.dK kvs))(hl:kvs.length<sizeLine):jY H a (kV k) v (upd H a (.dK (putK kvs k v))):=.inl ⟨kvs,k,e,rfl,hl,rfl⟩
section
variable{X:Cx}{pins:List (Addr × Obj)}{σ:St}{y:V}{u r:aX}{o:Option V}{A:fZ}{E:aX->da->Prop}{s:da}
theorem Inv.big(I:Inv X pins σ H s):jw<s.heap.objs.size:=by
 have h:gi<s.heap.objs.size:=(I.mod.glob.keeps I.bk).lt;show Nat.lt_trans ⋯ h
variable{Q:aX->da->Prop}
theorem Mv(hu:A.units+1<ku)(I:Inv X pins σ H s)(g:gE H a y (some v))(ry:RelV y u)(h:∀ w' s',Inv X pins σ H s'->RelV v w'->Q w' s') :
  ei (eO X.prog X.w) A (getItem (.ref a) u) Q E s:=by
 rcases g with⟨kvs,k,e,ey,l⟩ | ⟨kvs,k,b,e,ey,eb,l⟩
 .subst ey;let(z,m,q,d,i):=nK I.hok e;let(w',f,c):=RelO.some_of (v:=v) (o:=valueAt q k) (by rw[l];show d.val k);show wpAny_getItem_of (mZ ry) i.mapOf f (h w' _ (I.tok _) c)
 .subst ey;cases(show u=eK b from ry);let(z,m,n,d,i):=nJ I.hok e;let(w',f,c):=RelO.some_of (v:=v) (o:=(atKey n k).map (·.2)) (by rw[l];show d.val k);let(p,r,j):=dM.mp f;show wpAny_getItem_heap (jv hu) (uG I.hok eb) i r ?_;rw[j];show h w' _ (I.tok _) c
theorem AX(hu:A.units+1<ku)(I:Inv X pins σ H s)(g:gE H a y o)(ry:RelV y u)(h:∀ s',Inv X pins σ H s'->Q (.bool o.isSome) s') :
  ei (eO X.prog X.w) A (fY .In u (.ref a)) Q E s:=by
 rcases g with⟨kvs,k,e,ey,l⟩ | ⟨kvs,k,b,e,ey,eb,l⟩
 .subst ey;let(z,d,j,c,f):=nK I.hok e;show wpAny_in_of (mZ ry) d f.mapOf ?_;rw[<- (c.val k).isSome_eq, <- l];show h _ (I.tok _)
 .subst ey;cases(show u=eK b from ry);let(z,d,i,c,f):=nJ I.hok e;show wpAny_in_heap (jv hu) (uG I.hok eb) d f ?_;have q:=(c.val k).isSome_eq;rw[Option.isSome_map]at q;rw[<- q, <- l];show h _ (I.tok _)
theorem KP(hu:A.units+1<ku)(I:Inv X pins σ H s)(g:gE H a y o)(ry:RelV y u)(h:∀ s',Inv X pins σ H s'->Q (.bool (!o.isSome)) s') :
  ei (eO X.prog X.w) A (fY .NotIn u (.ref a)) Q E s:=by
 rcases g with⟨kvs,k,e,ey,l⟩ | ⟨kvs,k,b,e,ey,eb,l⟩
 .subst ey;let(z,d,j,c,f):=nK I.hok e;show wpAny_notIn_of (mZ ry) d f.mapOf ?_;rw[<- (c.val k).isSome_eq, <- l];show h _ (I.tok _)
 .subst ey;cases(show u=eK b from ry);let(z,d,i,c,f):=nJ I.hok e;show wpAny_notIn_heap (jv hu) (uG I.hok eb) d f ?_;have q:=(c.val k).isSome_eq;rw[Option.isSome_map]at q;rw[<- q, <- l];show h _ (I.tok _)
variable{h':Heap}
theorem yA{t':Nat}{ob:HO}(I:Inv X pins σ H s)(mu:Mut (H a))(hs:lC a s.heap h')(he:∃ q,h'.get? a=some q)(new:jh X.prog X.w (upd H a ob) h' a ob) :
  Inv X pins σ (upd H a ob) { s with heap:=h',toks:=t' } :=
 I.write (x:=a) (e:=a) mu (.inl rfl) (λb q c z=>(hs.2 b c).trans z) he new
theorem yo{w:fA}{vs:List (gD × aX)}(z:kvs.length<=sizeLine)(hd:(a == jw)=false)(rel:KV kvs vs)(dd:h'.DictOf (mi P w) a vs) :
  jh P w H' h' a (.dK kvs):=⟨z,hd,vs,rel,dd⟩
theorem Mu{Q:Unit->da->Prop}(hu:A.units+1<ku)(I:Inv X pins σ H s)(g:jY H a y v H')(ry:RelV y u)(rv:RelV v r)(h:∀ s',Inv X pins σ H' s'->Q () s') :
  ei (eO X.prog X.w) A (setItem (.ref a) u r) Q E s:=by
 rcases g with⟨kvs,k,e,ey,l,eH⟩ | ⟨kvs,k,b,e,ey,eb,l,eH⟩
 .subst ey eH;let(z,j,C,d,m):=mN I.hok e;have n:C.length<=sizeLine:=by rw[<- d.length];show z
  have o:(putK kvs k v).length<=sizeLine:=by have:=uT kvs k v;ac_nf
  show wpAny_setItem_pairs (hsz:=n) (mZ ry) m λt f p=>h _ ?_;have L:∃ q,t.get? a=some q:=let⟨q,_,_,i,_⟩:=f;⟨q,i⟩;show yA I (by rw[e];show iG) p L (yo o j (d.put k rv) f)
 .subst ey eH;cases(show u=eK b from ry);let(z,j,G,d,m):=xt I.hok e;have n:G.length<=sizeLine:=by rw[<- kU.length d];show z
  have o:(putK kvs k v).length<=sizeLine:=by have:=uT kvs k v;ac_nf
  show wpAny_setItem_heap (hsz:=n) (jv hu) (uG I.hok eb) m λt f p=>h _ ?_;let(q,F,D,i,B,K,M,_,J):=f;show yA I (by rw[e];show iG) p ⟨q,i⟩ ⟨o,j,_,(d.put k eb rv).keeps λc N x=>?_,q,F,D,i,B,K,M,J⟩;rw[fF (nV x e (λz=>nomatch z))];show x
end
section
variable{X:Cx}{pins:List (Addr × Obj)}{σ:St}{u:aX}{A:fZ}{E:aX->da->Prop}{s:da}{k:gD}
end
def xA(i:Expr):Prop:=∀ ov iv,subscripted i false ov iv=operate [ov,iv] (getItem ov iv)
variable{A:fZ}{E Q:aX->da->Prop}{env:Env}{value:Expr}{pos:Pos}
theorem KZ{prog:fH}{w:fA}{s:da}{slice:Expr}{T id:String}
  (hl:typeLookup (.type T) "__getitem__"=pure (some (.builtin id))) (hs:xA slice)
  (h:ei (eO prog w) A (eval value env) (λo s₁=>ei (eO prog w) A (eval slice env) (λi s₂=>s₂.TypeIs o T/\ei (eO prog w) A (getItem o i) Q E s₂) E s₁) E s) :
  ei (eO prog w) A (eval (.Subscript value slice pos) env) Q E s:=by
 show Subscript_ (gB h (λo s₁ h₁=>gB h₁ (λi s₂ h₂=>?_) λ_ _ x=>x) λ_ _ x=>x);let(b,h₂):=h₂;unfold subscriptTail;show du ?_;rw[getitemInPython_of_ne b.not_modules];show du (wpAny_specialOf b hl ?_);have a:ei (eO prog w) A (subscripted slice false o i) (λr s₃=>ei (eO prog w) A (letTemporaryGo value o r >>= λ_=>pure r) Q E s₃) E s₂:=by
  rw[hs o i];show wpAny_operating (gB h₂ (λr s₃ h₃=>du (wpAny_letTemporaryGo (dU h₃))) λ_ _ x=>x)
 first
  | show dU (du a)
  | show du (dU (du a))
  | show du a
variable{X:Cx}{pins:List (Addr × Obj)}{σ:St}{y:V}
theorem Nq{s:da}{o:Option V}(I:Inv X pins σ H s)(g:gE H a y o):s.TypeIs (.ref a) "dict":=by
 rcases g with⟨kvs,k,e,_,_⟩ | ⟨kvs,k,b,e,_,_,_⟩
 .let(_,_,f,_,c):=nK I.hok e;show c.typeIs
 .let(_,_,d,_,c):=nJ I.hok e;show c.typeIs
def tJ(td ty:TE):TE:=λσ H Q=>td σ H λx H1=>ty σ H1 λy H2=>∃ a v,x=.ref a/\gE H2 a y (some v)/\Q v H2
def wJ(ty td:TE):TE:=λσ H Q=>ty σ H λy H1=>td σ H1 λx H2=>∃ a o,x=.ref a/\gE H2 a y o/\Q (.bl o.isSome) H2
def Fb(ty td:TE):TE:=λσ H Q=>ty σ H λy H1=>td σ H1 λx H2=>∃ a o,x=.ref a/\gE H2 a y o/\Q (.bl (!o.isSome)) H2
def tL(td ty tv:TE):TS:=λD σ H=>tv σ H λv H1=>td σ H1 λx H2=>ty σ H2 λy H3=>∃ a H4,x=.ref a/\jY H3 a y v H4/\D.nx σ H4
section
variable{o e:Expr}{pos' tpos:Pos}{ty tv:TE}{i:Expr}{td:TE}
theorem nc(hu:X.A.units+1<ku)(ho:PE X o td)(hi:PE X i ty)(hs:xA i):PE X (.Subscript o i pos) (tJ td ty):=by
 intro b s σ H Q I h;show KZ PySem.F.slot_dict_getitem.lookup hs (iF (ho b s σ H _ I h) λu m ζ=>?_);let(x,n,I1,e,j):=ζ;show iF (hi b m σ n _ I1 j) λr t ζ=>?_;let(y,l,I2,k,a,v,f,g,d):=ζ;subst f;obtain rfl:u=eK a:=e;show(Nq I2 g,Mv hu I2 g k λq p I3 c=>⟨v,l,I3,c,d⟩)
theorem rQ(hu:X.A.units+1<ku)(hi:PE X i ty)(ho:PE X o td):PC X .In i o (wJ ty td):=by
 intro b s σ H Q I h;show iF (hi b s σ H _ I h) λq m ζ=>?_;let(y,n,I1,k,j):=ζ;show iF (ho b m σ n _ I1 j) λu r ζ=>?_;let(x,l,I2,e,a,d,f,g,c):=ζ;subst f;obtain rfl:u=eK a:=e;show AX hu I2 g k λp I3=>⟨.bl d.isSome,l,I3,rfl,c⟩
theorem sW(hu:X.A.units+1<ku)(hi:PE X i ty)(ho:PE X o td):PC X .NotIn i o (Fb ty td):=by
 intro b s σ H Q I h;show iF (hi b s σ H _ I h) λq m ζ=>?_;let(y,n,I1,k,j):=ζ;show iF (ho b m σ n _ I1 j) λu r ζ=>?_;let(x,l,I2,e,a,d,f,g,c):=ζ;subst f;obtain rfl:u=eK a:=e;show KP hu I2 g k λp I3=>⟨.bl (!d.isSome),l,I3,rfl,c⟩
theorem nR(hu:X.A.units+1<ku)(ho:PE X o td)(hi:PE X i ty)(hv:PE X value tv)(hs:swapsWith value (some (.Subscript o i pos')) pos.line X.env=pure false) :
  PS X (.Assign [.Subscript o i pos'] value pos) (tL td ty tv):=by
 intro b s σ H D I h;show wpAny_Assign_Subscript (iF (hv b s σ H _ I h) λr q ζ=>?_) hs;let(v,t,I1,p,j):=ζ;show iF (ho b q σ t _ I1 j) λu l ζ=>?_;let(x,n,I2,d,c):=ζ;show iF (hi b l σ n _ I2 c) λC z ζ=>?_;let(y,B,I3,m,a,e,f,g,k):=ζ;subst f;obtain rfl:u=eK a:=d;show Mu hu I3 g m p λw I4=>⟨σ,e,I4,k⟩
end
theorem Gc{w:fA}(h:Heap)(hb:jw<h.objs.size):jh P w H (h.push { cls:=.type "dict",data:=.dict #[] }) h.objs.size (.dK []) :=
 ⟨dG _,beq_eq_false_iff_ne.mpr (gk (dI hb)),[], .nil,Heap.DictOf.new h⟩
def EG:TE:=λ_ H Q=>∀ p,H p=none->Q (.ref p) (upd H p (.dK []))
theorem oJ:PE X (.Dict [] [] pos) EG:=λb s σ H Q I h=>
 wpAny_Dict_empty ⟨.ref s.heap.objs.size,_,I.laid (a:=s.heap.objs.size) (o:=.dK []) (t':=s.toks) (λ_ _ q=>df _ q) (dh _) (Gc s.heap I.big),rfl,h _ (I.hok.fresh (dh _))⟩
def xD:List (TE × TE)->St->Hp->(List (V × V)->Hp->Prop)->Prop
 | [],_,H,Q=>Q [] H
 | (tk,tv)::r,σ,H,Q=>tk σ H λx H1=>tv σ H1 λy H2=>xD r σ H2 λps H3=>Q ((x,y)::ps) H3
abbrev VV:List (V × V)->List (aX × aX)->Prop:=kU λp q=>RelV p.1 q.1/\RelV p.2 q.2
def yh(X:Cx)(pos:Pos)(keys:List (Option Expr))(values:List Expr)(trs:List (TE × TE)):Prop :=
 ∀(pins:List (Addr × Obj))(s:da)(σ : St)(H:Hp)(Q:List (V × V)->Hp->Prop),Inv X pins σ H s->xD trs σ H Q ->
  ei (eO X.prog X.w) X.A (evalPairs (pairTrees keys values X.env pos)) (λvs s'=>∃ ps H',Inv X pins σ H' s'/\VV ps vs/\Q ps H') X.xe s
theorem Fo:yh X pos [] [] []:=λa s σ H Q I h=>pairTrees_nil_walk ⟨[],H,I, .nil,h⟩
variable{trs:List (TE × TE)}
theorem Gu{k v:Expr}{ks:List (Option Expr)}{vs:List Expr}{tk tv:TE}(hk:PE X k tk)(hv:PE X v tv)(hr:yh X pos ks vs trs) :
  yh X pos (some k::ks) (v::vs) ((tk,tv)::trs):=λa s σ H Q I h=>
 pairTrees_cons_walk (iF (hk a s σ H _ I h) λu n ζ=>by let(x,o,I1,d,f):=ζ;show iF (hv a n σ o _ I1 f) λp j ζ=>by let(y,m,I2,l,c):=ζ;show iF (hr a j σ m _ I2 c) λq r ζ=>by let(e,i,I3,b,g):=ζ;show((x,y)::e,i,I3, .cons ⟨d,l⟩ b,g))
def vA(kvs more:List (gD × V)):List (gD × V):=more.foldl (λacc kv=>putK acc kv.1 kv.2) kvs
theorem KV.merge:∀{more:List (gD × V)}{rs:List (gD × aX)}{kvs:List (gD × V)}{vs:List (gD × aX)},KV more rs->KV kvs vs->KV (vA kvs more) (merged vs rs):=by
 intro more rs kvs vs r;unfold KV at r;induction r generalizing kvs vs with
 | nil=>intro q;show q
 | @cons p q ps qs h t ih=>
  intro a;have e:KV (putK kvs p.1 p.2) (stored vs q.1 q.2):=by
   have:=a.put p.1 h.2;rw[<- h.1];show this
  show ih e
theorem Hs:∀(more kvs:List (gD × V)),(vA kvs more).length<=kvs.length+more.length
 | [],kvs=>by show kvs.length<=kvs.length+0;ac_nf
 | p::r,kvs=>by
  have h1:=Hs r (putK kvs p.1 p.2);have h2:=uT kvs p.1 p.2;show(vA (putK kvs p.1 p.2) r).length<=_;rw[dQ];ac_nf
theorem G3{P:fH}{w:fA}:∀{kvs:List (gD × V)}{ws:List (aX × aX)},VV (kvs.map λkv=>(kV kv.1,kv.2)) ws->∃ rs,Carries (mi P w) ws rs/\KV kvs rs
 | [],_,r=>by rw[fP]at r;cases r;show([],iG, .nil)
 | p::kvs,_,r=>by
  rw[dw]at r;cases r with
  | @cons a b as bs h t=>
   let(rs,c,q):=G3 (P:=P) (w:=w) t;let(b1,b2):=b;show((p.1,b2)::rs,⟨mZ h.1,rfl,c⟩, .cons ⟨rfl,h.2⟩ q)
def tH(trs:List (TE × TE)):TE:=λσ H Q=>∀ p,H p=none->xD trs σ (upd H p (.dK [])) λps H2=>H2 p=some (.dK [])/\∃ kvs:List (gD × V),ps=kvs.map (λkv=>(kV kv.1,kv.2))/\kvs.length<=15/\Q (.ref p) (upd H2 p (.dK (vA [] kvs)))
theorem FX{keys:List (Option Expr)}{values:List Expr}(h:yh X pos keys values trs)(hall:keys.all (·.isSome)=true)(hl:keys.length=values.length)(h0:keys≠[])
  (h15:keys.length<=15):PE X (.Dict keys values pos) (tH trs):=by
 intro b s σ H Q I q;have l:=I.hok.fresh (dh s.heap.objs.size);have I1:=I.laid (a:=s.heap.objs.size) (o:=.dK []) (h':=s.heap.push { cls:=.type "dict",data:=.dict #[] }) (t':=s.toks) (λ_ _ q=>df _ q) (dh _) (Gc s.heap I.big);show wpAny_Dict_walk (knd:=mi X.prog X.w) hall hl h0 h15 (iF (h b _ σ _ _ I1 (q _ l)) λB C ζ=>?_);let(A,D,I2,g,e,d,m,lk,i):=ζ;subst m;let(p,c,n):=G3 (P:=X.prog) (w:=X.w) g;let(z,j,t,v,k):=mN I2.hok e;cases v;show(p,c,k,λh' f y=>⟨.ref s.heap.objs.size,_,?_,rfl,i⟩);have u:(vA [] d).length<=sizeLine:=by
  have r:=Hs d [];rw[fV]at r;rw[sizeLine_eq];ac_nf
 have x:∃ q,h'.get? s.heap.objs.size=some q:=let⟨q,_,_,hq,_⟩:=f;⟨q,hq⟩;show yA I2 (by rw[e];show iG) y x (yo u j (n.merge .nil) f)
structure M1(X:Cx)(o:Expr)(m:Str)(apos:Pos)(e:Expr)(cpos:Pos):Prop where
 base:iL o m X.env (eval o X.env)=eval o X.env
 few:((jq cpos (eQ [e] X.env)).all (λx=>!x.1)&&(backToKw cpos (keywordEach [] X.env)).all (λx=>x.1.isSome)
  && decide (([e]:List Expr).length+([]:List Keyword).length+(if([]:List Keyword).isEmpty then 0 else 1)<30))=true
 line:(apos.endLine == cpos.line)=true
 trees:jq cpos (eQ [e] X.env)=[(false,eval e X.env)]
structure M2(X:Cx)(o:Expr)(m:Str)(apos:Pos)(e f:Expr)(cpos:Pos):Prop where
 base:iL o m X.env (eval o X.env)=eval o X.env
 few:((jq cpos (eQ [e,f] X.env)).all (λx=>!x.1)&&(backToKw cpos (keywordEach [] X.env)).all (λx=>x.1.isSome)
  && decide (([e,f]:List Expr).length+([]:List Keyword).length+(if([]:List Keyword).isEmpty then 0 else 1)<30))=true
 line:(apos.endLine == cpos.line)=true
 trees:jq cpos (eQ [e,f] X.env)=[(false,eval e X.env),(false,eval f X.env)]
def vb(H:Hp)(a:Addr):Prop:=(∃ kvs,Rd H a (.dK kvs))\/∃ kvs,Rd H a (.dT kvs)
theorem vC{s:da}(I:Inv X pins σ H s)(d:vb H a) :
  s.TypeIs (.ref a) "dict"/\(∀ b,eK a=.ref b->∃ ob,s.heap.get? b=some ob/\ob.dict=none)/\(a == jw)=false:=by
 rcases d with⟨kvs,e⟩ | ⟨kvs,e⟩
 .let(_,f,j,_,c):=nK I.hok e;show(c.typeIs,λb q=>?_,f);cases q;let(ob,_,_,g,h,_):=c;show(ob,g,h.2.1)
 .let(_,f,i,_,c):=nJ I.hok e;show(c.typeIs,λb q=>?_,f);cases q;let(ob,_,_,g,h,_):=c;show(ob,g,h.2.1)
section
variable{d:V}{u r:aX}{o:Option V}{s:da}
theorem JZ(hu:A.units+1<ku)(I:Inv X pins σ H s)(g:gE H a y o)(ry:RelV y u)(h:∀ w' s',Inv X pins σ H s'->RelV (o.getD .non) w'->Q w' s') :
  ei (eO X.prog X.w) A (call (.builtin "dict.get") [.ref a,u]) Q E s:=by
 rcases g with⟨kvs,k,e,ey,l⟩ | ⟨kvs,k,b,e,ey,eb,l⟩
 .subst ey;let(z,f,j,c,d):=nK I.hok e;show jQ iD d.typeIs jZ (PySem.F.args_dict_get_2 _ _) (meets_dict_get (mi X.prog X.w) a (mZ ry) f) ⟨_,d.mapOf,h _ _ (I.tok _) ?_⟩;rw[l];show(c.val k).getD rfl
 .subst ey;cases(show u=eK b from ry);let(z,f,i,c,d):=nJ I.hok e;show jQ iD d.typeIs jZ (PySem.F.args_dict_get_2 _ _) (meetsH_dict_get (tupleKind (mi X.prog X.w)) a b f) ⟨jv hu,k,i,uG I.hok eb,d,h _ _ (I.tok _) ?_⟩;rw[l];show(c.val k).getD rfl
theorem JY(hu:A.units+1<ku)(I:Inv X pins σ H s)(g:gE H a y o)(ry:RelV y u)(rd:RelV d r)(h:∀ w' s',Inv X pins σ H s'->RelV (o.getD d) w'->Q w' s') :
  ei (eO X.prog X.w) A (call (.builtin "dict.get") [.ref a,u,r]) Q E s:=by
 rcases g with⟨kvs,k,e,ey,l⟩ | ⟨kvs,k,b,e,ey,eb,l⟩
 .subst ey;let(z,i,m,c,f):=nK I.hok e;show jQ iD f.typeIs jZ (PySem.F.args_dict_get_3 _ _ _) (meets_dict_get_default (mi X.prog X.w) a (mZ ry) i r) ⟨_,f.mapOf,h _ _ (I.tok _) ?_⟩;rw[l];show(c.val k).getD rd
 .subst ey;cases(show u=eK b from ry);let(z,i,j,c,f):=nJ I.hok e;show jQ iD f.typeIs jZ (PySem.F.args_dict_get_3 _ _ _) (meetsH_dict_get_default (tupleKind (mi X.prog X.w)) a b i r) ⟨jv hu,k,j,uG I.hok eb,f,h _ _ (I.tok _) ?_⟩;rw[l];show(c.val k).getD rd
end
def EI(td ty:TE):TE:=λσ H Q=>td σ H λx H1=>∃ a,x=.ref a/\vb H1 a/\ty σ H1 λy H2=>∃ o,gE H2 a y o/\Q (o.getD .non) H2
def EH(td ty tx:TE):TE:=λσ H Q=>td σ H λx H1=>∃ a,x=.ref a/\vb H1 a/\ty σ H1 λy H2=>tx σ H2 λz H3=>∃ o,gE H3 a y o/\Q (o.getD z) H3
section
variable{o e:Expr}{apos cpos:Pos}{ty tx:TE}{f:Expr}{td:TE}
theorem Mp(hu:X.A.units+1<ku)(ho:PE X o td)(he:PE X e ty)(m:M1 X o "get" apos e cpos):PE X (.Call (.Attribute o "get" apos) [e] [] cpos) (EI td ty):=by
 intro b s σ H Q I h;show wpAny_Call_method m.base m.few m.line iq iD PySem.F.type_dict_get (iF (ho b s σ H _ I h) λu r ζ=>?_);let(x,t,I1,j,a,k,d,n):=ζ;subst k;obtain rfl:u=eK a:=j;let(i,l,_):=vC I1 d;show(i,l,?_);rw[m.trees];show gH rfl (kI (gS (iF (he b r σ t _ I1 n) λB C ζ=>?_)));let(y,q,I2,p,v,g,f):=ζ;show iQ ?_;show JZ hu I2 g p λz w I3 c=>⟨_,q,I3,c,f⟩
theorem F0(hu:X.A.units+1<ku)(ho:PE X o td)(he:PE X e ty)(hf:PE X f tx)(m:M2 X o "get" apos e f cpos):PE X (.Call (.Attribute o "get" apos) [e,f] [] cpos) (EH td ty tx):=by
 intro b s σ H Q I h;show wpAny_Call_method m.base m.few m.line iq iD PySem.F.type_dict_get (iF (ho b s σ H _ I h) λu C ζ=>?_);let(x,D,I1,k,a,n,d,p):=ζ;subst n;obtain rfl:u=eK a:=k;let(j,l,_):=vC I1 d;show(j,l,?_);rw[m.trees];show gH rfl (kI (gS (iF (he b C σ D _ I1 p) λM t ζ=>?_)));let(y,B,I2,v,i):=ζ;show gS (iF (hf b t σ B _ I2 i) λE K ζ=>?_);let(z,r,I3,w,G,g,q):=ζ;show iQ ?_
 show JY hu I3 g v w λL J I4 c=>⟨_,r,I4,c,q⟩
end
section
variable{s:da}
end
section
variable{u:aX}{s:da}
end
section
variable{κ:Type}[DecidableEq κ]
end
def DictAt(h:Heap)(e:Addr)(od:Option Addr):Prop:=∃ o,h.get? e=some o/\o.dict=od
section
variable{M:Model}{outer l:List Env}{L e:Addr}{oe:Obj}{vs:Array aX}{head a0 cls fl:aX}{od:Option Addr}{Q:Unit->da->Prop}{s:da}{base:Heap}
end
structure Pn(l:List Env)(H':Hp)(h0:Heap)(ea:Addr)(od:Option Addr)(cls a0:aX)(B h:Heap):Prop where
 fly:Heap.FlyingW B l ea cls a0 h
 free:H' ea=none
 new:h0.get? ea=none
 dct:DictAt h ea od
 kept:∀ b o,h.get? b=some o->((∃ o',h0.get? b=some o')\/∃ u,H' b=some u)->b∉pw l->B.get? b=some o
def ou(P:fH)(w:fA):rG:=λouter H s E e s'=>
 ∃(ea:Addr)(od:Option Addr)(cls a0:aX)(B:Heap)(H':Hp),e=.ref ea/\s'.os=s.os/\AllBare s'.gens/\Un (pw outer) [] H H' s.heap s'.heap/\mS P w H' s'.heap /\
  Pn outer H' s.heap ea od cls a0 B s'.heap/\E cls od H'
section
variable{l l':List Env}{h0 h h' B:Heap}{ea:Addr}{od:Option Addr}{cls a0:aX}{w:fA}
end
section
variable{h h' B:Heap}{ea:Addr}{od:Option Addr}{cls a0:aX}{s:da}
end
section
variable{mg:Str->Option aX}{N:List Str}{qual:Str}{scope:Scope}{cdv:aX}{outer:List Env}{s0:da}{H0:Hp}{E:XK}{w:fA}{K:aW}{base:Heap}{f:Addr}
end
theorem dB{w:fA}:rz (ou P w) X E0:=λ_ _ _ _ _ _ _ h=>by
 let(_,_,_,_,_,_,_,_,_,_,_,_,z):=h;show ix z
section
variable{mg:Str->Option aX}{N:List Str}{qual:Str}{scope:Scope}{cdv:aX}{outer:List Env}{s0:da}{H0:Hp}{E:XK}{w:fA}{K:aW}{base:Heap}{f:Addr}
def Ka(E:XK)(C:Addr)(ta:TA):TS:=λ_ σ H=>ta σ H λvs H1=>vs.length<=sizeLine/\E (.ref C) none H1
end
def wx(sp:Sp)(dvs:List V)(t:TA):St->Hp->VK->XK->Prop:=λσ H Q E=>t σ H λvs H1=>sp (vs++dvs) H1 Q E
section
variable{C:Addr}{fd:ip}{ps:List Str}{sp:Sp}{dvs:List V}{ds:List aX}{E:XK}{x:Str}{p apos:Pos}{e o:Expr}{es:List Expr}{ta:TE}{k:Nat}{f:Addr}{m:Str}{t:TA}
end
section
variable{s':da}{h' B:Heap}{ea:Addr}{od:Option Addr}{cls a0:aX}{s:da}
theorem Inv.track{o:HO}(I:Inv X pins σ H s)(hn:H a=none)(h1:X.s₀.heap.get? a=none)(h2:a≠X.env.locals)(h3:∀ x c,X.env.cells.lookup x=some c->c≠a)(h4:∀ p∈X.pn++pins,p.1≠a)
  (ok:jh X.prog X.w (upd H a o) s.heap a o):Inv X pins σ (upd H a o) s:=by
 have d:∀ b u,H b=some u->b≠a:=λb u q=>iy q hn;show(I.ok,I.os,I.bare,⟨I.base.keep,I.base.slot,λb f q n k=>?_,I.base.there,λb h q=>?_,λb f u q=>?_,λb l q=>?_⟩,I.loc,I.cell,?_,λx c e=>?_,λp i=>?_,λb u q=>?_,I.len)
 .have : b≠a:=λz=>by rw[z,h1]at q;cases q
  rw[fF this];show I.base.free b f q n k
 .have z:=I.base.tups b h q;rw[fF (d _ _ z)];show z
 .have z:=I.base.frzs b f u q;rw[fF (d _ _ z)];show z
 .let(j,z):=I.base.tbls b l q;show(j,by rw[fF (d _ _ z)];show z)
 .rw[fF (gk h2)];show I.free
 .rw[fF (h3 x c e)];show I.freeC x c e
 .let(e,n,r):=I.pin p i;show(e,by rw[fF (h4 p i)];show n,r)
 .by_cases g:b=a
  .subst g;rw[jo]at q;cases q;show ok
  .rw[fF g]at q;show(I.hok b u q).stay (λ_ _ _ z=>z) (λc z=>by rw[fF (d _ _ z)];show z) (λc h z=>by rw[fF (d _ _ z)];show z)
def xZ(e C:Addr)(od:Option Addr:=none):HO:=.ext λh=>∃ ox vs,h.get? e=some ox/\ox.cls=.ref C/\ox.data=.fields vs/\ox.dict=od
end
structure FK(K:aW)(C D:Addr):Prop where
 cl:W.hasDictIn K D=true
 ty:W.typeIn K (.ref D)=some (.type "type")
 ex:W.mroIn K D (.type "BaseException")=some true
 ab:W.mroIn K C (.ref D)=some true
section
variable{ce:Expr}{epos hpos np:Pos}{x n:Str}{b0:Stmt}{suite:List Stmt}{ts:TS}{D:Addr}{t:St->Hp->VK->XK->Prop}
def J9(K:aW)(D:Addr)(i:Nat)(t:St->Hp->VK->XK->Prop)(ts:TS):TS:=λDn σ H=>t σ H (λ_ H1=>Dn.nx σ H1) λcls od H1=>∃ C,cls=.ref C/\FK K C D /\
 ∀ ea,H1 ea=none->ts { nx:=λσ' H'=>Dn.nx (σ'.set i none) H',rt:=Dn.rt,bk:=λσ' H'=>Dn.bk (σ'.set i none) H',ct:=λσ' H'=>Dn.ct (σ'.set i none) H' } (σ.set i (some (.ref ea))) (upd H1 ea (xZ ea C od))
end
inductive D where
 | non | bl (b:Bool) | int (i:Int) | str (x:Str) | tup (xs:List D) | lst (xs:List D)
mutual
def Rep(K:aW)(H:Hp):D->V->Prop
 | .non,v=>v=.non
 | .bl b,v=>v=.bl b
 | .int i,v=>v=.int i
 | .str x,v=>v=.str x
 | .tup ds,v=>∃ a xs,v=.ref a/\gZ K H a xs/\iJ K H ds xs
 | .lst ds,v=>∃ a xs,v=.ref a/\fI K H a xs/\iJ K H ds xs
def iJ(K:aW)(H:Hp):List D->List V->Prop
 | [],vs=>vs=[]
 | d::ds,vs=>∃ v r,vs=v::r/\Rep K H d v/\iJ K H ds r
end
mutual
def eqD:D->D->Bool
 | .non, .non=>true
 | .bl a, .bl b=>a == b
 | .int a, .int b=>a == b
 | .bl a, .int b=>(if a then 1 else 0) == b
 | .int a, .bl b=>a == (if b then 1 else 0)
 | .str a, .str b=>a == b
 | .tup xs, .tup ys=>eqL xs ys
 | .lst xs, .lst ys=>eqL xs ys
 | _,_=>false
def eqL:List D->List D->Bool
 | [],[]=>true
 | x::xs,y::ys=>eqD x y&&eqL xs ys
 | _,_=>false
end
mutual
def depD:D->Nat
 | .tup xs=>depL xs+1
 | .lst xs=>depL xs+1
 | _=>0
def depL:List D->Nat
 | []=>0
 | x::xs=>max (depD x) (depL xs)
end
theorem GZ:∀{xs ys:List D},eqL xs ys=true->xs.length=ys.length
 | [],[],_=>rfl
 | [],_::_,h=>by simp[eqL]at h
 | _::_,[],h=>by simp[eqL]at h
 | x::xs,y::ys,h=>by
  simp only[eqL,gr]at h;simp only[dQ,GZ h.2]
mutual
theorem vJ:∀ d:D,eqD d d=true
 | .non=>by simp[eqD]
 | .bl b=>by simp[eqD]
 | .int i=>by simp[eqD]
 | .str x=>by simp[eqD]
 | .tup xs=>by simp only[eqD];show BW xs
 | .lst xs=>by simp only[eqD];show BW xs
theorem BW:∀ d:List D,eqL d d=true
 | []=>by simp[eqL]
 | x::xs=>by simp only[eqL,gr];show(vJ x,BW xs)
end
theorem iJ.length{K:aW}:∀{ds:List D}{vs:List V},iJ K H ds vs->ds.length=vs.length
 | [],vs,h=>by
  simp only[iJ]at h;rw[h];rfl
 | d::ds,vs,h=>by
  simp only[iJ]at h;let(v,r,rfl,_,h2):=h;simp only[dQ,iJ.length h2]
theorem iJ.get{K:aW}:∀{ds:List D}{vs:List V}{i:Nat}{d:D},iJ K H ds vs->ds[i]?=some d->∃ v,vs[i]?=some v/\Rep K H d v
 | [],_,_,_,_,e=>by simp at e
 | d::ds,vs,i,d',h,e=>by
  simp only[iJ]at h;let(v,r,rfl,h1,h2):=h;cases i with
  | zero=>simp at e;subst e;show(v,rfl,h1)
  | succ i=>
   let(v',e',h'):=iJ.get h2 (by simpa using e);show(v',by simpa using e',h')
variable{xs:List V}
theorem fI.same{K:aW}(e:dC H H')(h:fI K H a xs):fI K H' a xs:=e.seq h
theorem gZ.same{K:aW}(e:dC H H')(h:gZ K H a xs):gZ K H' a xs:=by
 rcases h with(h | ⟨o,h⟩) | h
 .show .inl (.inl (e _ _ h))
 .show .inl (.inr ⟨o,e _ _ h⟩)
 .show .inr h
mutual
theorem Rep.same{K:aW}(e:dC H H'):∀{d:D}{v:V},Rep K H d v->Rep K H' d v
 | .non,_,h=>by simpa only[Rep]using h
 | .bl _,_,h=>by simpa only[Rep]using h
 | .int _,_,h=>by simpa only[Rep]using h
 | .str _,_,h=>by simpa only[Rep]using h
 | .tup ds,_,h=>by
  simp only[Rep]at h ⊢;let(a,xs,h1,h2,h3):=h;show(a,xs,h1,h2.same e,iJ.same e h3)
 | .lst ds,_,h=>by
  simp only[Rep]at h ⊢;let(a,xs,h1,h2,h3):=h;show(a,xs,h1,h2.same e,iJ.same e h3)
theorem iJ.same{K:aW}(e:dC H H'):∀{d:List D}{v:List V},iJ K H d v->iJ K H' d v
 | [],_,h=>by simpa only[iJ]using h
 | x::xs,_,h=>by
  simp only[iJ]at h ⊢;let(v,r,h1,h2,h3):=h;show(v,r,h1,Rep.same e h2,iJ.same e h3)
end
section
variable{s:da}
theorem Inv.list_tuple(I:Inv X pins σ H s){a:Addr}{xs ys:List V}(h:fI X.K H a xs)(h':gZ X.K H a ys):False:=by
 let(_,_,p,_):=I.list h;let(_,_,q,_):=I.tuple h';let(o,_,d,e,_):=p;let(f,b,c,_):=q;rw[d]at b;cases b;rw[e]at c;show absurd c ⋯
mutual
theorem Inv.rep_inj(I:Inv X pins σ H s):∀{d e:D}{v:V},Rep X.K H d v->Rep X.K H e v->d=e
 | .non,e,v,h,h'=>by
  simp only[Rep]at h;subst h;cases e <;> simp[Rep]at h' ⊢
 | .bl _,e,v,h,h'=>by
  simp only[Rep]at h;subst h;cases e <;> simp[Rep]at h' ⊢
  show h'
 | .int _,e,v,h,h'=>by
  simp only[Rep]at h;subst h;cases e <;> simp[Rep]at h' ⊢
  show h'
 | .str _,e,v,h,h'=>by
  simp only[Rep]at h;subst h;cases e <;> simp[Rep]at h' ⊢
  show h'
 | .tup ds,e,v,h,h'=>by
  simp only[Rep]at h;let(a,xs,rfl,h2,h3):=h;cases e with
  | tup es=>
   simp only[Rep]at h';let(a',ys,q,g2,g3):=h';cases q;have:=I.tuple_inj h2 g2;subst this;rw[Inv.repL_inj I h3 g3]
  | lst es=>
   simp only[Rep]at h';let(a',ys,q,g2,g3):=h';cases q;show(I.list_tuple g2 h2).elim
  | _=>simp[Rep]at h'
 | .lst ds,e,v,h,h'=>by
  simp only[Rep]at h;let(a,xs,rfl,h2,h3):=h;cases e with
  | lst es=>
   simp only[Rep]at h';let(a',ys,q,g2,g3):=h';cases q;have:=I.list_inj h2 g2;subst this;rw[Inv.repL_inj I h3 g3]
  | tup es=>
   simp only[Rep]at h';let(a',ys,q,g2,g3):=h';cases q;show(I.list_tuple h2 g2).elim
  | _=>simp[Rep]at h'
theorem Inv.repL_inj(I:Inv X pins σ H s):∀{d e:List D}{v:List V},iJ X.K H d v->iJ X.K H e v->d=e
 | [],e,v,h,h'=>by
  simp only[iJ]at h;subst h;cases e <;> simp[iJ]at h' ⊢
 | x::xs,e,v,h,h'=>by
  simp only[iJ]at h;let(u,r,rfl,h1,h2):=h;cases e with
  | nil=>simp[iJ]at h'
  | cons y ys=>
   simp only[iJ]at h';let(u',r',q,g1,g2):=h';cases q;rw[Inv.rep_inj I h1 g1,Inv.repL_inj I h2 g2]
end
end
variable{α β:Type}
def rp(f : α->β->Bool):List α->List β->Bool
 | [],[]=>true
 | x::xs,y::ys=>f x y&&rp f xs ys
 | _,_=>false
def rM(f : α->β->Bool)(xs:List α)(ys:List β)(j:Nat):Bool:=match xs[j]?,ys[j]? with
 | some x,some y=>f x y
 | _,_=>true
theorem Cd(f : α->β->Bool):∀(xs:List α)(ys:List β),
  ((gX (min xs.length ys.length)).all (rM f xs ys)&&(xs.length == ys.length))=rp f xs ys
 | [],[]=>by simp[rp]
 | [],_::_=>by simp[rp]
 | _::_,[]=>by simp[rp]
 | x::xs,y::ys=>by
  have ih:=Cd f xs ys;simp only[rp,dQ];rw[<- ih,Nat.succ_min_succ,List.range_succ_eq_map,List.all_cons,List.all_map];have e:((gX (min xs.length ys.length)).all (rM f (x::xs) (y::ys) ∘ Nat.succ))=(gX (min xs.length ys.length)).all (rM f xs ys):=by
   congr 1
  rw[e];have e0:rM f (x::xs) (y::ys) 0=f x y:=by unfold rM;simp
  rw[e0,Bool.and_assoc]
  congr 2
  simp
theorem Bk:∀ xs ys:List D,eqL xs ys=rp eqD xs ys
 | [],[]=>by simp[eqL,rp]
 | [],_::_=>by simp[eqL,rp]
 | _::_,[]=>by simp[eqL,rp]
 | x::xs,y::ys=>by simp only[eqL,rp,Bk xs ys]
theorem Gd:∀{ds:List D}{d:D},d∈ds->depD d<=depL ds
 | [],_,h=>by simp at h
 | x::xs,d,h=>by
  simp only[depL];rcases eP.mp h with rfl | h
  .show Nat.le_max_left ..
  .show fG (Gd h) (Nat.le_max_right ..)
def flatD:D->Bool
 | .tup _=>false
 | .lst _=>false
 | _=>true
def valD:D->V
 | .bl b=>.bl b
 | .int i=>.int i
 | .str x=>.str x
 | _=>.non
variable{d:D}
theorem BL{K:aW}(f:flatD d=true)(h:Rep K H d v):v=valD d:=by
 cases d <;> simp_all [flatD,Rep,valD]
theorem Gb(f:flatD d=true):flatV (valD d)=true:=by
 cases d <;> simp_all [flatD,valD,flatV]
theorem KM{e:D}(f:flatD d=true)(g:flatD e=true):eqV (valD d) (valD e)=eqD d e:=by
 cases d <;> cases e <;> simp_all [flatD,valD,eqV,eqD]
section
variable{s:da}
theorem in1_units(A:fZ):A.in1.units=A.units+1:=rfl
def x5(X:Cx)(H:Hp)(s:da)(n:Nat):Prop:=∀(d e:D)(A:fZ)(x y:V)(u v:aX),depD d<=n->Rep X.K H d x->Rep X.K H e y->RelV x u->RelV y v->A.units+n<ku->SeqAt.EqAt A s u v (eqD d e)
variable{n:Nat}
theorem F7(ih:x5 X H s n){ds es:List D}{xs ys:List V}{its jts:List aX}(h3:iJ X.K H ds xs)(g3:iJ X.K H es ys)(vi:Vals xs its)(vj:Vals ys jts)(hds:depL ds<=n){A:fZ}(hA:A.units+n<ku) :
  ∀ j (p1:j<its.toArray.size) (p2:j<jts.toArray.size),SeqAt.EqAt A s its.toArray[j] jts.toArray[j] (rM eqD ds es j):=by
 intro j p1 p2;have k:its.length=ds.length:=by rw[h3.length,vi.length]
 have m:jts.length=es.length:=by rw[g3.length,vj.length]
 have a:j<ds.length:=by rw[<- k];simpa using p1
 have b:j<es.length:=by rw[<- m];simpa using p2
 let(v,g,f):=h3.get (aV a);let(u,h,i):=g3.get (aV b);let(r,l,t):=vi.get g;let(c,p,o):=vj.get h;have q:its.toArray[j]=r:=by
  have:=l;rw[aV (by simpa using p1)]at this;simpa using this
 have e:jts.toArray[j]=c:=by
  have:=p;rw[aV (by simpa using p2)]at this;simpa using this
 rw[q,e];have d:rM eqD ds es j=eqD ds[j] es[j]:=by
  unfold rM;rw[aV a,aV b]
 rw[d];show ih _ _ _ _ _ _ _ (fG (Gd (ij a)) hds) f i t o hA
theorem J5(I:Inv X pins σ H s){n:Nat}(ih:x5 X H s n){ds es:List D}{a b:Addr}{xs ys:List V}(h2:gZ X.K H a xs)(h3:iJ X.K H ds xs)(g2:gZ X.K H b ys)(g3:iJ X.K H es ys)(hds:depL ds<=n){A:fZ}(hA:A.units+(n+1)<ku) :
  fU A s (.ref a) (.ref b) (eqD (.tup ds) (.tup es))/\fB A s (.ref a) (.ref b) (!eqD (.tup ds) (.tup es)):=by
 let(c,i,e,_):=I.tuple h2;let(d,h,f,_):=I.tuple g2;have j:c.length=ds.length:=by rw[h3.length,i.length]
 have k:d.length=es.length:=by rw[g3.length,h.length]
 have g:=F7 ih h3 g3 i h hds (A:=A.in1) (by rw[in1_units];ac_nf);have l:eqD (.tup ds) (.tup es)=((gX (min c.toArray.size d.toArray.size)).all (rM eqD ds es)&&c.toArray.size == d.toArray.size):=by
  simp only[eqD,Bk];rw[<- Cd];simp only[eu,j,k]
 rw[l];show(fU.tuples e f ∅ g,fB.tuples e f ∅ g)
theorem JN(I:Inv X pins σ H s){n:Nat}(ih:x5 X H s n){ds es:List D}{a b:Addr}{xs ys:List V}(h2:fI X.K H a xs)(h3:iJ X.K H ds xs)(g2:fI X.K H b ys)(g3:iJ X.K H es ys)(hds:depL ds<=n){A:fZ}(hA:A.units+(n+1)<ku) :
  fU A s (.ref a) (.ref b) (eqD (.lst ds) (.lst es))/\fB A s (.ref a) (.ref b) (!eqD (.lst ds) (.lst es)):=by
 let(e,m,f,_):=I.list h2;let(j,l,g,_):=I.list g2;have d:e.length=ds.length:=by rw[h3.length,m.length]
 have h:j.length=es.length:=by rw[g3.length,l.length]
 have k:=F7 ih h3 g3 m l hds (A:=A.in1) (by rw[in1_units];ac_nf);by_cases c:ds.length=es.length
 .have i:eqD (.lst ds) (.lst es)=(gX e.toArray.size).all (rM eqD ds es):=by
   simp only[eqD,Bk];rw[<- Cd];simp[d,c]
  rw[i];show(fU.lists f.isList g.isList (by simp[d,h,c]) ∅ k,fB.lists f.isList g.isList (by simp[d,h,c]) ∅ k)
 .have i:eqD (.lst ds) (.lst es)=false:=by
   cases q:eqD (.lst ds) (.lst es)with
   | false=>rfl
   | true=>simp only[eqD]at q;show absurd (GZ q) c
  rw[i];show(fU.lists_lengths f.isList g.isList (by simp[d,h,c]) ∅,fB.lists_lengths f.isList g.isList (by simp[d,h,c]) ∅)
theorem uK{K:aW}{x:V}(h:Rep K H d x):(flatD d=true/\x=valD d)\/(∃ ds a xs,d=.tup ds/\x=.ref a/\gZ K H a xs/\iJ K H ds xs)\/∃ ds a xs,d=.lst ds/\x=.ref a/\fI K H a xs/\iJ K H ds xs:=by
 cases d with
 | tup ds=>simp only[Rep]at h;let(a,xs,b,c,e):=h;show .inr (.inl ⟨ds,a,xs,rfl,b,c,e⟩)
 | lst ds=>simp only[Rep]at h;let(a,xs,b,c,e):=h;show .inr (.inr ⟨ds,a,xs,rfl,b,c,e⟩)
 | _=>show .inl ⟨rfl,BL rfl h⟩
theorem vN(I:Inv X pins σ H s){d e:D}{x y:V}{u v:aX}(hd:Rep X.K H d x)(he:Rep X.K H e y)(ru:RelV x u)(rv:RelV y v)(m:flatD d=!flatD e){A:fZ}(hA:A.units<ku) :
  eqD d e=false/\SeqAt.EqAt A s u v false/\fU A s u v false/\fB A s u v true:=by
 rcases uK hd with⟨fd,rfl⟩ | ⟨ds,a,xs,rfl,rfl,h2,h3⟩ | ⟨ds,a,xs,rfl,rfl,h2,h3⟩
 .rcases uK he with⟨fe,rfl⟩ | ⟨es,b,ys,rfl,rfl,g2,g3⟩ | ⟨es,b,ys,rfl,rfl,g2,g3⟩
  .rw[fd,fe]at m;cases m
  .obtain rfl:v=eK b:=rv;let(f,g,c,_):=I.tuple g2;show(by cases d <;> simp[eqD,flatD]at fd ⊢,?_);cases d <;> simp only[valD,RelV]at ru <;> first | (simp[flatD]at fd;done) | skip
   .subst ru;show(SeqAt.EqAt.none_tuple c hA,fU.none_tuple c hA,fB.none_tuple c hA)
   .subst ru;show(SeqAt.EqAt.bool_tuple _ c hA,fU.bool_tuple _ c hA,fB.bool_tuple _ c hA)
   .let(t,rfl):=ru;show(SeqAt.EqAt.int_tuple _ _ c hA,fU.int_tuple _ _ c hA,fB.int_tuple _ _ c hA)
   .let(t,rfl):=ru;show(SeqAt.EqAt.str_tuple _ _ c hA,fU.str_tuple _ _ c hA,fB.str_tuple _ _ c hA)
  .obtain rfl:v=eK b:=rv;let(f,g,c,_):=I.list g2;have c:=c.isList;show(by cases d <;> simp[eqD,flatD]at fd ⊢,?_);cases d <;> simp only[valD,RelV]at ru <;> first | (simp[flatD]at fd;done) | skip
   .subst ru;show(SeqAt.EqAt.none_list c hA,fU.none_list c hA,fB.none_list c hA)
   .subst ru;show(SeqAt.EqAt.bool_list _ c hA,fU.bool_list _ c hA,fB.bool_list _ c hA)
   .let(t,rfl):=ru;show(SeqAt.EqAt.int_list _ _ c hA,fU.int_list _ _ c hA,fB.int_list _ _ c hA)
   .let(t,rfl):=ru;show(SeqAt.EqAt.str_list _ _ c hA,fU.str_list _ _ c hA,fB.str_list _ _ c hA)
 .rcases uK he with⟨fe,rfl⟩ | ⟨es,b,ys,rfl,rfl,g2,g3⟩ | ⟨es,b,ys,rfl,rfl,g2,g3⟩
  .obtain rfl:u=eK a:=ru;let(f,g,c,_):=I.tuple h2;show(by cases e <;> simp[eqD,flatD]at fe ⊢,?_);cases e <;> simp only[valD,RelV]at rv <;> first | (simp[flatD]at fe;done) | skip
   .subst rv;show(SeqAt.EqAt.tuple_none c hA,fU.tuple_none c hA,fB.tuple_none c hA)
   .subst rv;show(SeqAt.EqAt.tuple_bool _ c hA,fU.tuple_bool _ c hA,fB.tuple_bool _ c hA)
   .let(t,rfl):=rv;show(SeqAt.EqAt.tuple_int _ _ c hA,fU.tuple_int _ _ c hA,fB.tuple_int _ _ c hA)
   .let(t,rfl):=rv;show(SeqAt.EqAt.tuple_str _ _ c hA,fU.tuple_str _ _ c hA,fB.tuple_str _ _ c hA)
  .simp[flatD]at m
  .simp[flatD]at m
 .rcases uK he with⟨fe,rfl⟩ | ⟨es,b,ys,rfl,rfl,g2,g3⟩ | ⟨es,b,ys,rfl,rfl,g2,g3⟩
  .obtain rfl:u=eK a:=ru;let(f,g,c,_):=I.list h2;have c:=c.isList;show(by cases e <;> simp[eqD,flatD]at fe ⊢,?_);cases e <;> simp only[valD,RelV]at rv <;> first | (simp[flatD]at fe;done) | skip
   .subst rv;show(SeqAt.EqAt.list_none c hA,fU.list_none c hA,fB.list_none c hA)
   .subst rv;show(SeqAt.EqAt.list_bool _ c hA,fU.list_bool _ c hA,fB.list_bool _ c hA)
   .let(t,rfl):=rv;show(SeqAt.EqAt.list_int _ _ c hA,fU.list_int _ _ c hA,fB.list_int _ _ c hA)
   .let(t,rfl):=rv;show(SeqAt.EqAt.list_str _ _ c hA,fU.list_str _ _ c hA,fB.list_str _ _ c hA)
  .simp[flatD]at m
  .simp[flatD]at m
theorem seq_eq(I:Inv X pins σ H s){n:Nat}(ih:x5 X H s n){d e:D}{x y:V}{u v:aX}(hn:depD d<=n+1)(hd:Rep X.K H d x)(he:Rep X.K H e y)(ru:RelV x u)(rv:RelV y v)(fd:flatD d=false)(fe:flatD e=false){A:fZ}(hA:A.units+(n+1)<ku) :
  SeqAt.EqAt A s u v (eqD d e)/\fU A s u v (eqD d e)/\fB A s u v (!eqD d e):=by
 have k:=hd;have j:=he;rcases uK hd with⟨f,_⟩ | ⟨ds,a,xs,rfl,rfl,h2,h3⟩ | ⟨ds,a,xs,rfl,rfl,h2,h3⟩
 .rw[f]at fd;cases fd
 .obtain rfl:u=eK a:=ru;have i:depL ds<=n:=by simp only[depD]at hn;ac_nf
  rcases uK he with⟨f,_⟩ | ⟨es,b,ys,rfl,rfl,g2,g3⟩ | ⟨es,b,ys,rfl,rfl,g2,g3⟩
  .rw[f]at fe;cases fe
  .obtain rfl:v=eK b:=rv;have R:=J5 I ih h2 h3 g2 g3 i hA;show(?_,R.1,R.2);by_cases c:a=b
   .subst c;rw[I.rep_inj k j,vJ];show SeqAt.EqAt.same _
   .show SeqAt.EqAt.of_refs c R.1
  .obtain rfl:v=eK b:=rv;let(l,_,g,_):=I.tuple h2;let(m,_,h,_):=I.list g2;show(SeqAt.EqAt.tuple_list g h.isList ∅,fU.tuple_list g h.isList ∅,fB.tuple_list g h.isList ∅)
 .obtain rfl:u=eK a:=ru;have i:depL ds<=n:=by simp only[depD]at hn;ac_nf
  rcases uK he with⟨f,_⟩ | ⟨es,b,ys,rfl,rfl,g2,g3⟩ | ⟨es,b,ys,rfl,rfl,g2,g3⟩
  .rw[f]at fe;cases fe
  .obtain rfl:v=eK b:=rv;let(l,_,g,_):=I.list h2;let(m,_,h,_):=I.tuple g2;show(SeqAt.EqAt.list_tuple g.isList h ∅,fU.list_tuple g.isList h ∅,fB.list_tuple g.isList h ∅)
  .obtain rfl:v=eK b:=rv;have R:=JN I ih h2 h3 g2 g3 i hA;show(?_,R.1,R.2);by_cases c:a=b
   .subst c;rw[I.rep_inj k j,vJ];show SeqAt.EqAt.same _
   .show SeqAt.EqAt.of_refs c R.1
theorem Inv.eqP(I:Inv X pins σ H s):∀ n,x5 X H s n
 | 0=>λd e A x y u v hn hd he ru rv hA=>by
  have fd:flatD d=true:=by
   cases d <;> simp[depD,flatD]at hn ⊢
  cases fe:flatD e with
  | true=>
   have ex:=BL fd hd;have ey:=BL fe he;subst ex ey;rw[<- KM fd fe];show Ep ru rv (Gb fd) (Gb fe)
  | false=>
   let(e1,e2,_):=vN I hd he ru rv (by rw[fd,fe];rfl) (A:=A) ∅;rw[e1];show e2
 | n+1=>λd e A x y u v hn hd he ru rv hA=>by
  cases fd:flatD d with
  | true=>
   have h0:depD d<=n:=by cases d <;> simp[depD,flatD]at fd ⊢
   show Inv.eqP I n d e A x y u v h0 hd he ru rv ∅
  | false=>
   cases fe:flatD e with
   | true=>
    let(e1,e2,_):=vN I hd he ru rv (by rw[fd,fe];rfl) (A:=A) ∅;rw[e1];show e2
   | false=>show(seq_eq I (Inv.eqP I n) hn hd he ru rv fd fe hA).1
def qr(K:aW):R2:=λx y H Q=>match x,y with
 | .int i, .int j=>Q (.bl (decide (i=j))) H
 | .str i, .str j=>Q (.bl (decide (i=j))) H
 | .bl i, .bl j=>Q (.bl (decide (i=j))) H
 | .non, .non=>Q (.bl true) H
 | x,y=>∃ d e,Rep K H d x/\Rep K H e y/\depD d<=50/\(flatD d&&flatD e)=false/\Q (.bl (eqD d e)) H
def pH(K:aW):R2:=λx y H Q=>match x,y with
 | .int i, .int j=>Q (.bl (!decide (i=j))) H
 | .str i, .str j=>Q (.bl (!decide (i=j))) H
 | .bl i, .bl j=>Q (.bl (!decide (i=j))) H
 | .non, .non=>Q (.bl false) H
 | x,y=>∃ d e,Rep K H d x/\Rep K H e y/\depD d<=50/\(flatD d&&flatD e)=false/\Q (.bl (!eqD d e)) H
theorem qE(hu:X.A.units+64<ku):lU X (fY .Eq) (qr X.K):=λa s σ H x y v u Q I b c q=>by
 unfold qr at q;split at q
 .rename_i i j;show op_eq a s σ H _ _ v u Q I b c ⟨rfl,by rw[show decide (V.int i=V.int j)=decide (i=j)from by simp];show q⟩
 .rename_i i j;show op_eq a s σ H _ _ v u Q I b c ⟨rfl,by rw[show decide (V.str i=V.str j)=decide (i=j)from by simp];show q⟩
 .rename_i i j;show op_eq a s σ H _ _ v u Q I b c ⟨rfl,by rw[show decide (V.bl i=V.bl j)=decide (i=j)from by simp];show q⟩
 .show op_eq a s σ H _ _ v u Q I b c ⟨rfl,by simpa using q⟩
 .let(d,e,f,h,m,l,q):=q;show ei (eO X.prog X.w) X.A (richCompare .Eq v u) (EP X a σ Q) X.xe s;cases fd:flatD d with
  | true=>
   cases fe:flatD e with
   | true=>rw[fd,fe]at l;cases l
   | false=>
    let(g,_,k,_):=vN I f h b c (by rw[fd,fe];rfl) (A:=X.A) ∅;rw[g]at q;show k _ _ _ _ ⟨V.bl _,H,I,rfl,q⟩
  | false=>
   cases fe:flatD e with
   | true=>
    let(g,_,k,_):=vN I f h b c (by rw[fd,fe];rfl) (A:=X.A) ∅;rw[g]at q;show k _ _ _ _ ⟨V.bl _,H,I,rfl,q⟩
   | false=>show(seq_eq I (I.eqP 49) m f h b c fd fe ∅).2.1 _ _ _ _ ⟨V.bl _,H,I,rfl,q⟩
theorem sJ(hu:X.A.units+64<ku):lU X (fY .NotEq) (pH X.K):=λa s σ H x y v u Q I b c q=>by
 unfold pH at q;split at q
 .rename_i i j;show op_ne a s σ H _ _ v u Q I b c ⟨rfl,by rw[show decide (V.int i=V.int j)=decide (i=j)from by simp];show q⟩
 .rename_i i j;show op_ne a s σ H _ _ v u Q I b c ⟨rfl,by rw[show decide (V.str i=V.str j)=decide (i=j)from by simp];show q⟩
 .rename_i i j;show op_ne a s σ H _ _ v u Q I b c ⟨rfl,by rw[show decide (V.bl i=V.bl j)=decide (i=j)from by simp];show q⟩
 .show op_ne a s σ H _ _ v u Q I b c ⟨rfl,by simpa using q⟩
 .let(d,e,f,h,m,l,q):=q;show ei (eO X.prog X.w) X.A (richCompare .NotEq v u) (EP X a σ Q) X.xe s;cases fd:flatD d with
  | true=>
   cases fe:flatD e with
   | true=>rw[fd,fe]at l;cases l
   | false=>
    let(g,_,_,k):=vN I f h b c (by rw[fd,fe];rfl) (A:=X.A) ∅;rw[g]at q;show k _ _ _ _ ⟨V.bl _,H,I,rfl,q⟩
  | false=>
   cases fe:flatD e with
   | true=>
    let(g,_,_,k):=vN I f h b c (by rw[fd,fe];rfl) (A:=X.A) ∅;rw[g]at q;show k _ _ _ _ ⟨V.bl _,H,I,rfl,q⟩
   | false=>show(seq_eq I (I.eqP 49) m f h b c fd fe ∅).2.2 _ _ _ _ ⟨V.bl _,H,I,rfl,q⟩
end
def lV(j:Int):Prop:=j≠0/\j.natAbs.log2<9000
def pW(K:aW):R2:=λx y H Q=>match x,y with
 | .int i, .int j=>Q (.int (i+j)) H
 | .str i, .str j=>i.length+j.length<=sizeLine/\Q (.str (i++j)) H
 | .ref a, .ref b=>rCat (.ref a) (.ref b) H Q\/tM K (.ref a) (.ref b) H Q
 | _,_=>False
theorem nF:lU X (iE .Add) (pW X.K):=λa s σ H x y v u Q I c b q=>by
 unfold pW at q;split at q
 .show JI a s σ H _ _ v u Q I c b ⟨_,_,rfl,rfl,q⟩
 .show Nj a s σ H _ _ v u Q I c b ⟨_,_,rfl,rfl,q.1,q.2⟩
 .rcases q with q | q
  .show JH a s σ H _ _ v u Q I c b q
  .show Ll a s σ H _ _ v u Q I c b q
 .show q.elim
def rMulU:R2:=λx y H Q=>match x,y with
 | .int i, .int j=>mv i j/\Q (.int (i*j)) H
 | _,_=>False
theorem Lj:lU X (iE .Mult) (rI mv λi j=>.int (i*j)):=yc λ_ _ _ _ _ _ _ a q=>mul_int q a
theorem Li:lU X (iE .Mult) rMulU:=λa s σ H x y v u Q I c b q=>by
 unfold rMulU at q;split at q
 .show Lj a s σ H _ _ v u Q I c b ⟨_,_,rfl,rfl,q.1,q.2⟩
 .show q.elim
def A7:R2:=λx y H Q=>match x,y with
 | .int i, .int j=>lV j/\Q (.int (i.fdiv j)) H
 | _,_=>False
theorem Mq:lU X (iE .FloorDiv) (rI (λ_ j=>lV j) λi j=>.int (i.fdiv j)):=yc λ_ _ _ _ _ _ _ a q=>floordiv_int a.1 q (.inl (PyProof.noPylong_of_log2 a.2))
theorem mG:lU X (iE .FloorDiv) A7:=λa s σ H x y v u Q I c b q=>by
 unfold A7 at q;split at q
 .show Mq a s σ H _ _ v u Q I c b ⟨_,_,rfl,rfl,q.1,q.2⟩
 .show q.elim
def rModU:R2:=λx y H Q=>match x,y with
 | .int i, .int j=>j≠0/\Q (.int (i.fmod j)) H
 | _,_=>False
theorem mW:lU X (iE .Mod) rModU:=λa s σ H x y v u Q I c b q=>by
 unfold rModU at q;split at q
 .show Lk a s σ H _ _ v u Q I c b ⟨_,_,rfl,rfl,q.1,q.2⟩
 .show q.elim
def rPowU:R2:=λx y H Q=>match x,y with
 | .int i, .int j=>sZ i j/\Q (.int (i ^ j.toNat)) H
 | _,_=>False
theorem Lg:lU X (iE .Pow) rPowU:=λa s σ H x y v u Q I c b q=>by
 unfold rPowU at q;split at q
 .show JC a s σ H _ _ v u Q I c b ⟨_,_,rfl,rfl,q.1,q.2⟩
 .show q.elim
def oj(p:Int->Int->Bool):R2:=λx y H Q=>match x,y with
 | .int i, .int j=>Q (.bl (p i j)) H
 | _,_=>False
theorem Bx{op:CmpOp}{p:Int->Int->Bool}(h:lU X (fY op) (rJ λi j=>.bl (p i j))):lU X (fY op) (oj p):=λa s σ H x y v u Q I c b q=>by
 unfold oj at q;split at q
 .show h a s σ H _ _ v u Q I c b ⟨_,_,rfl,rfl,q⟩
 .show q.elim
theorem uH:lU X (fY .Lt) (oj λi j=>decide (i<j)):=Bx op_lt
theorem xE:lU X (fY .Gt) (oj λi j=>decide (j<i)):=Bx op_gt
theorem EY:lU X (fY .GtE) (oj λi j=>decide (j<=i)):=Bx op_ge
def Ef(K:aW)(H:Hp)(a:Addr)(xs:List V):Prop:=fI K H a xs\/gZ K H a xs
def nU(K:aW):R2:=λx y H Q=>match x,y with
 | .ref p, .int i=>∃ xs v,Ef K H p xs/\su xs i=some v/\Q v H
 | .str z, .int i=>∃ c,z.length<=sizeLine/\su z.cps.toList i=some c/\Q (.str ⟨#[c]⟩) H
 | _,_=>False
theorem ix_U:vV X (nU X.K):=λa b d s σ H x y v u Q I f g q i=>by
 unfold nU at q;split at q
 .obtain⟨l,w,h | h,e,q⟩:=q
  .show KG a b d s σ H _ _ v u Q I f g ⟨_,_,_,_,rfl,rfl,h,e,q⟩ i
  .show JU a b d s σ H _ _ v u Q I f g ⟨_,_,_,_,rfl,rfl,h,e,q⟩ i
 .let(c,k,j,q):=q;show JV a b d s σ H _ _ v u Q I f g ⟨_,_,_,rfl,rfl,k,j,q⟩ i
 .show q.elim
def wX(K:aW):List V->Hp->VK->Prop:=λxs H Q=>match xs with
 | [.ref p]=>∃ ys,Ef K H p ys/\Q (.int ys.length) H
 | [.str z]=>z.length<=sizeLine/\Q (.int z.length) H
 | _=>False
theorem oK:lH X (.builtin "len") (wX X.K):=λa s σ H d b Q I r q=>by
 unfold wX at q;split at q
 .let(c,h,q):=q;show Oo a s σ H _ b Q I r ⟨_,_,rfl,h,q⟩
 .show On a s σ H _ b Q I r ⟨_,rfl,q.1,q.2⟩
 .show q.elim
def rAbs:List V->Hp->VK->Prop:=λxs H Q=>match xs with
 | [.int i]=>Q (.int (if i<0 then -i else i)) H
 | _=>False
theorem yR:lH X (.builtin "abs") rAbs:=λa s σ H c b Q I r q=>by
 unfold rAbs at q;split at q
 .show Mb a s σ H _ b Q I r ⟨_,rfl,q⟩
 .show q.elim
def rMin:List V->Hp->VK->Prop:=λxs H Q=>match xs with
 | [.int i, .int j]=>Q (.int (if j<i then j else i)) H
 | _=>False
def wR(K:aW):V->Option Int->Option Int->Hp->VK->Prop:=λx lo hi H Q=>wV K x lo hi H Q\/wU K x lo hi H Q
theorem sl_U:qJ X (wR X.K):=qJ.or K0 Kf
def jG(t T:String):Bool:=t == T||(t == "bool"&&T == "int")
def t8(K:aW)(H:Hp)(x:V)(t:String):Prop:=match x with
 | .int _=>t="int"
 | .str _=>t="str"
 | .bl _=>t="bool"
 | .non=>t="NoneType"
 | .ref a=>(t="list"/\∃ xs,fI K H a xs)\/(t="tuple"/\∃ xs,gZ K H a xs)
 | _=>False
theorem om(K:aW){t T:String}(ht:t∈["int","str","bool","NoneType","list","tuple"])(hT:T∈["int","str","bool","list","tuple"]):W.kitOne K (.type t) (.type T)=some (jG t T):=by
 simp only[eP,iw,or_false]at ht hT;rcases ht with rfl | rfl | rfl | rfl | rfl | rfl <;> rcases hT with rfl | rfl | rfl | rfl | rfl <;> with_unfolding_all rfl
def ui(K:aW):List V->Hp->VK->Prop:=λxs H Q=>match xs with
 | [x, .ty T]=>T∈["int","str","bool","list","tuple"]/\∃ t,t8 K H x t/\Q (.bl (jG t T)) H
 | _=>False
theorem vT:lH X (.builtin "isinstance") (ui X.K):=λf s σ H n v Q I r q=>by
 unfold ui at q;split at q
 .rename_i x T;let(e,t,d,q):=q;let(u,c,rfl,g,m):=vals2 r;obtain rfl:c=aX.type T:=m;have b:∀ l,EP X f σ Q (.bool (jG t T)) { s with toks:=l }:=λl=>⟨V.bl _,H,I.tok l,rfl,q⟩;unfold t8 at d;split at d
  .subst d;let(_,rfl):=g;show W.kia_one W.kitx_int I.kIn iG (om _ ⋯ e) (λz=>nomatch z) b
  .subst d;let(_,rfl):=g;show W.kia_one W.kitx_str I.kIn iG (om _ ⋯ e) (λz=>nomatch z) b
  .subst d;cases(show u=kz _ from g);show W.kia_one W.kitx_bool I.kIn iG (om _ ⋯ e) (λz=>nomatch z) b
  .subst d;cases(show u=aX.none from g);show W.kia_one W.kitx_none I.kIn iG (om _ ⋯ e) (λz=>nomatch z) b
  .rename_i a;cases(show u=eK a from g);rcases d with⟨rfl,ys,h⟩ | ⟨rfl,ys,h⟩
   .let(j,_,p,_):=I.list h;let(o,_,k,i,_):=p;show W.kia_one W.kitx_list I.kIn ⟨o,k,i⟩ (om _ ⋯ e) (λz=>nomatch z) b
   .let(j,_,p,_):=I.tuple h;let(o,k,i,_):=p;show W.kia_one W.kitx_tuple I.kIn ⟨o,k,i⟩ (om _ ⋯ e) (λz=>nomatch z) b
  .show d.elim
 .show q.elim
variable{tg:Expr}
def sq(K:aW)(tl:TE):TI:=λσ H R=>tl σ H λx H1=>∃ a,x=.ref a/\(((∃ xs,fI K H1 a xs)/\R (qS K a) H1)\/((∃ xs,gZ K H1 a xs)/\R (uY K a) H1))
theorem iN{l:Expr}{tl:TE}(hl:PE X l tl):PI X tg l (sq X.K tl):=λd s σ H R I h=>by
 show iF (hl d s σ H _ I h) λv c ζ=>?_;let(x,i,I1,j,a,k,q):=ζ;subst k;cases j;rcases q with⟨⟨xs,hq⟩,q⟩ | ⟨⟨xs,hq⟩,q⟩
 .let(f,n,p,m):=I1.list hq;show wpAny_pyIter_list p.isList ?_;show(c.heap.objs.size,[c.heap.objs.size],_,_,i,rfl,I1.kept (t':=c.toks) λb o e=>df _ e,Mg a _,⟨_,dP _ rfl,rfl,rfl⟩,λb g=>?_,q);have e:b=c.heap.objs.size:=by simpa using g
  subst e;show I1.fpOk (dh _) (I1.hok.fresh (dh _))
 .let(f,n,p,m):=I1.tuple hq;show wpAny_pyIter_tuple (show c.heap.IsTuple a f.toArray from p) ?_;show(c.heap.objs.size,[c.heap.objs.size],_,_,i,rfl,I1.kept (t':=c.toks) λb o e=>df _ e,Mz a _,⟨_,dP _ rfl,rfl,rfl⟩,λb g=>?_,q);have e:b=c.heap.objs.size:=by simpa using g
  subst e;show I1.fpOk (dh _) (I1.hok.fresh (dh _))
structure mX(K:aW)(x qual:Str)(st:Stmt)(dV:aX)(f:Addr)(fd:ip):Prop where
 ex:∃(oc:aX)(od:Option Addr)(kV doc pm:aX)(an:Option Addr)(cdv ct:aX)(osl:Array (Option aX)),
  fd=ky x qual (qk st) (pQ st) (iC st) dV kV doc pm an cdv ct/\K.lookup f=some ⟨oc,od, .func fd,osl⟩/\W.codeIn K cdv qual=true
 kp:jm K (.ref f)=true
section
variable{mg:Str->Option aX}{w:fA}{K:aW}{base:Heap}{x qual:Str}{st:Stmt}{dV:aX}{fd:ip}{ps:List Str}{sp:Sp}
theorem mX.okn{f:Addr}{N:List Str}{k:Nat}(F:mX K x qual st dV f fd)(S:iY N ps (iC st))(len:∀ vs H Q E,sp vs H Q E->vs.length=ps.length)
  (hbody:∀(cdv:aX)(A:fZ)(outer:List Env)(s:da)(H:Hp)(vs:List V)(Q:VK)(E:XK),kh k (A.deeper (envOfC qual (iC st) s.heap.objs.size f cdv))->sp vs H Q E ->
   ∃ t,qg (pJ (ou P w) P w K mg base N qual (iC st) f cdv A outer s H E).nox (pQ st) t/\t { nx:=λ_ H'=>Q .non H',rt:=Q } (start N vs) H):mr P w K mg base (ou P w) (k+1) f fd ps sp:=by
 let(g,i,kV,e,l,m,cdv,j,d,rfl,lk,b):=F.ex;show xo lk b S len λA outer s H vs Q E c a=>?_;let(t,h,q):=hbody cdv A outer s H vs Q E c a;show(t,h.nox,q)
theorem mX.binds{f:Addr}(F:mX K x qual st dV f fd)
  (h:∀(kV doc pm:aX)(an:Option Addr)(cdv ct:aX)(us:List aX),us.length=ps.length->bindArgs (ky x qual (qk st) (pQ st) (iC st) dV kV doc pm an cdv ct) ⟨us,[]⟩=pure (ps.zip us)):Binds K fd ps []:=by
 let(c,d,kV,doc,pm,an,cdv,ct,b,rfl,lk,a):=F.ex;show .all (h kV doc pm an cdv ct)
theorem mX.bindsD{T:Addr}{f:Addr}{o:Obj}{items:Array aX}{n:Nat}(F:mX K x qual st (.ref T) f fd)(hT:K.lookup T=some o)(hs:o.data=.seq items n)(ds:List aX)
  (h:∀(kV doc pm:aX)(an:Option Addr)(cdv ct:aX)(us:List aX),(us++ds).length=ps.length->∃ k,bindArgs (ky x qual (qk st) (pQ st) (iC st) (.ref T) kV doc pm an cdv ct) ⟨us,[]⟩=seqItems? (.ref T) >>= k/\k (some items)=pure (ps.zip (us++ds))):Binds K fd ps ds:=by
 let(g,i,kV,doc,pm,an,cdv,ct,e,rfl,lk,b):=F.ex;intro s us X a;let(k,c,d):=h kV doc pm an cdv ct us a;show BindsTo.of_defaults (T:=T) rfl (X _ _ hT) hs c d
theorem CC{f:Addr}{oc:aX}{od an:Option Addr}{osl:Array (Option aX)}{kV doc pm cdv ct:aX}(l:K.lookup f=some ⟨oc,od, .func (ky x qual (qk st) (pQ st) (iC st) dV kV doc pm an cdv ct),osl⟩)
  (c:W.codeIn K cdv qual=true) (k:jm K (.ref f)=true):mX K x qual st dV f (ky x qual (qk st) (pQ st) (iC st) dV kV doc pm an cdv ct):=⟨⟨oc,od,kV,doc,pm,an,cdv,ct,osl,rfl,l,c⟩,k⟩
end
structure zi(P:fH)(w:fA)(K:aW)(mg:Str->Option aX)(base:Heap)(k:Nat)(x:Str)(ps:List Str)(dvs:List V)(sp:Sp):Prop where
 ex:∃(f:Addr)(fd:ip)(ds:List aX),mr P w K mg base (ou P w) k f fd ps sp/\mg x=some (.ref f)/\jm K (.ref f)=true/\Binds K fd ps ds/\Vals dvs ds
section
variable{k':Nat}{x:Str}{ps:List Str}{dvs:List V}{sp:Sp}{E:XK}{p:Pos}{e:Expr}{es:List Expr}{k:Nat}{t:TA}
theorem zi.ev(G:zi X.prog X.w X.K X.mg X.base k x ps dvs sp)(hr:kh k' X.A)(hk:k<=k')(hg:Gl X x)(hx:rz (ou X.prog X.w) X E)(ha:PA X (e::es) t)
  (hdb:autoParam ((x == ("__debug__" : Str))=false) Au) (he:autoParam (eQ (e::es) X.env=(false,eval e X.env)::eQ es X.env) Au) (hpl:autoParam ((jq pos (eQ es X.env)).any (·.1)=false) Au) :
  PE X (.Call (.Name x p) (e::es) [] pos) (qZ sp dvs E t):=by
 let(f,g,h,F,d,c,a,b):=G.ex;show Le F (hr.mono hk) hg d c a b hx ha hdb he hpl
end
end L2
namespace Mth
def g(a b:Int):Int:=(fJ a b:Nat)
theorem Px(a:Int):g a 0=(a.natAbs:Int):=by unfold g;rw[Int.gcd_zero_right]
theorem g_pos{a b:Int}(h:b≠0):0<g a b:=by
 unfold g;show Int.natCast_pos.mpr (Int.gcd_pos_of_ne_zero_right a h)
theorem uN(a b:Int):g a b∣a:=Int.gcd_dvd_left ..
theorem uS(a b:Int):g a b∣b:=Int.gcd_dvd_right ..
theorem JX(a b:Int):g b (a % b)=g a b:=by
 unfold g;rw[Int.gcd_comm b (a % b)];first
  | rw[Int.gcd_emod_left]
  | (rw[Int.emod_def];simp[Int.gcd_comm])
theorem PH(a b:Int):g (if a<0 then -a else a) (if b<0 then -b else b)=g a b:=by
 unfold g;split <;> split <;> simp[Int.neg_gcd,Int.gcd_neg]
theorem PF(a:Int):0<=(if a<0 then -a else a):=by split <;> ac_nf
theorem g_le{a b:Int}(h:b≠0):g a b<=(b.natAbs:Int):=by
 unfold g;show Int.ofNat_le.mpr (Nat.le_of_dvd ∅ (jz.mpr (by simpa using Int.gcd_dvd_right (a:=a) (b:=b)) |> λz=>by simpa using z))
theorem fm{x y:Int}(h:0<y):0<=x.fmod y/\x.fmod y<y:=by
 rw[hI _ ∅];show(Int.emod_nonneg _ ∅,Int.emod_lt_of_pos _ h)
theorem PB{x y:Int}(h:0<y):g y (x.fmod y)=g x y:=by
 rw[hI _ ∅];show JX x y
def by_(t b:Int):Int:=if b<0 then -(g t b)else g t b
def top(t b:Int):Int:=t.fdiv (by_ t b)
def bot(t b:Int):Int:=b.fdiv (by_ t b)
theorem p6{t b:Int}(h:b≠0):by_ t b≠0:=by
 have:=g_pos (a:=t) h;unfold by_;split <;> ac_nf
theorem KS(t b:Int):by_ t b∣t:=by
 unfold by_;split
 .show Int.neg_dvd.mpr (uN t b)
 .show uN t b
theorem KR(t b:Int):by_ t b∣b:=by
 unfold by_;split
 .show Int.neg_dvd.mpr (uS t b)
 .show uS t b
theorem pR{a d:Int}(h:d∣a)(hd:d≠0):a.fdiv d*d=a:=by
 let(k,rfl):=h;rw[gL d k,Int.mul_fdiv_cancel _ hd]
theorem BN{t b:Int}(h:b≠0):top t b*by_ t b=t:=pR (KS t b) (p6 h)
theorem yC{t b:Int}(h:b≠0):bot t b*by_ t b=b:=pR (KR t b) (p6 h)
theorem IC{t b:Int}(h:b≠0):1<=bot t b:=by
 have c:=yC (t:=t) h;have f:=g_pos (a:=t) h;by_cases d:b<0
 .have e:by_ t b = -(g t b):=by unfold by_;rw[if_pos d]
  rw[e]at c;have i:bot t b*g t b = -b:=by rw[Int.mul_neg]at c;ac_nf
  rcases Int.lt_trichotomy (bot t b) 0 with z | z | z
  .have:=jO z f;ac_nf
  .rw[z]at i;ac_nf
  .ac_nf
 .have e:by_ t b=g t b:=by unfold by_;rw[if_neg d]
  rw[e]at c;rcases Int.lt_trichotomy (bot t b) 0 with z | z | z
  .have:=jO z f;ac_nf
  .rw[z]at c;ac_nf
  .ac_nf
theorem cross{t b:Int}(h:b≠0):top t b*b=t*bot t b:=by
 have c:=BN (t:=t) h;have a:=yC (t:=t) h
 calc top t b*b=top t b*(bot t b*by_ t b):=by rw[a]
  _=(top t b*by_ t b)*bot t b:=by rw[gL (bot t b),gu]
  _=t*bot t b:=by rw[c]
theorem MJ(t b:Int):(by_ t b).natAbs=fJ t b:=by
 unfold by_ g;split <;> simp
theorem g_low{t b:Int}(h:b≠0):g (top t b) (bot t b)=1:=by
 have a:0<fJ t b:=Int.gcd_pos_of_ne_zero_right t h;have e:fJ (top t b*by_ t b) (bot t b*by_ t b)=fJ (top t b) (bot t b)*(by_ t b).natAbs:=Int.gcd_mul_right ..;rw[BN h,yC h,MJ]at e;have : fJ (top t b) (bot t b)=1:=by
  rcases Nat.lt_trichotomy (fJ (top t b) (bot t b)) 1 with z | z | z
  .have : fJ (top t b) (bot t b)=0:=by ac_nf
   rw[this]at e;ac_nf
  .show z
  .have:=Nat.mul_le_mul_right (fJ t b) z;ac_nf
 unfold g;rw[this];rfl
theorem Hb{a b d:Int}(g1:fJ a b=1)(h:b∣a*d):b∣d:=by
 have e:b.natAbs∣a.natAbs*d.natAbs:=by rw[<- gq];show jz.mpr h
 have c:Nat.Coprime b.natAbs a.natAbs:=by
  unfold Nat.Coprime;rw[Nat.gcd_comm];show g1
 show jz.mp (c.dvd_of_dvd_mul_left e)
theorem Hh{a b c d:Int}(hb:1<=b)(hd:1<=d)(h1:g a b=1)(h2:g c d=1)(e:a*d=c*b):a=c/\b=d:=by
 have f:fJ a b=1:=by unfold g at h1;ac_nf
 have k:fJ c d=1:=by unfold g at h2;ac_nf
 have i:b∣d:=by
  have : b∣a*d:=⟨c,by rw[e,gL]⟩;show Hb f this
 have h:d∣b:=by
  have : d∣c*b:=⟨a,by rw[<- e,gL]⟩;show Hb k this
 have j:b=d:=Int.dvd_antisymm ∅ ∅ i h;subst j;show(?_,rfl);show gG ∅ e
theorem J7{t b:Int}(h:b≠0):(top t b).natAbs<=t.natAbs:=by
 have c:=BN (t:=t) h;have d:(by_ t b).natAbs≠0:=by have:=p6 (t:=t) h;ac_nf
 have a:=congrArg Int.natAbs c;rw[gq]at a;rw[<- a];show Nat.le_mul_of_pos_right _ ∅
theorem ur{t b:Int}(h:b≠0):(bot t b).natAbs<=b.natAbs:=by
 have c:=yC (t:=t) h;have d:(by_ t b).natAbs≠0:=by have:=p6 (t:=t) h;ac_nf
 have a:=congrArg Int.natAbs c;rw[gq]at a
 calc (bot t b).natAbs<=(bot t b).natAbs*(by_ t b).natAbs:=Nat.le_mul_of_pos_right _ ∅
  _=b.natAbs:=a
theorem Pu{n k:Nat}(h:n<2 ^ k)(hk:k<9000):n.log2<9000:=by
 by_cases z:n=0
 .rw[z];decide
 .show Nat.lt_trans ((Nat.log2_lt z).mpr h) hk
def Sz(n:Nat)(i:Int):Prop:=i.natAbs<2 ^ n
theorem Sz.mono{m n:Nat}{i:Int}(h:Sz m i)(k:m<=n):Sz n i:=dO h (Nat.pow_le_pow_right ⋯ k)
theorem Sz.mul{m n:Nat}{i j:Int}(h:Sz m i)(k:Sz n j):Sz (m+n) (i*j):=by
 unfold Sz at *;rw[gq,Nat.pow_add];show Nat.mul_lt_mul'' h k
theorem Sz.add{n:Nat}{i j:Int}(h:Sz n i)(k:Sz n j):Sz (n+1) (i+j):=by
 unfold Sz at *;have:=Int.natAbs_add_le i j;rw[Nat.pow_succ];ac_nf
theorem Sz.neg{n:Nat}{i:Int}(h:Sz n i):Sz n (-i):=by
 unfold Sz at *;rw[Int.natAbs_neg];show h
theorem Sz.top{n:Nat}{t b:Int}(hb:b≠0)(h:Sz n t):Sz n (Mth.top t b):=fj (J7 hb) h
theorem Sz.bot{n:Nat}{t b:Int}(hb:b≠0)(h:Sz n b):Sz n (Mth.bot t b):=fj (ur hb) h
theorem Sz.lit{n:Nat}{i:Int}(h1 : -(2 ^ n)<i)(h2:i<2 ^ n):Sz n i:=by
 unfold Sz;have e:((2 ^ n:Nat):Int)=2 ^ n:=by simp
 ac_nf
end Mth
namespace Mth
theorem yW{a b:Int}(h:g a b=1):fJ a b=1:=by unfold g at h;ac_nf
theorem Hf{a b:Int}(h:fJ a b=1):g a b=1:=by unfold g;rw[h];rfl
theorem vP{t x y:Int}(h1:fJ t x=1)(h2:fJ t y=1):fJ t (x*y)=1:=by
 unfold fJ at *;rw[gq];show Nat.Coprime.mul_right h1 h2
theorem G1{x y:Int}(h:∀ k:Int,k∣x->k∣y->k∣1):fJ x y=1:=by
 have:=h (fJ x y:Nat) (Int.gcd_dvd_left ..) (Int.gcd_dvd_right ..);have z:=jz.mpr this;simp at z;show z
theorem G0{k x y:Int}(h:fJ x y=1)(h1:k∣x)(h2:k∣y):k∣1:=by
 have z:=Int.dvd_coe_gcd h1 h2;rw[h]at z;show z
theorem tY{t u x:Int}(h:fJ t x=1)(d:u∣t):fJ u x=1:=G1 λk b a=>G0 h (jR b d) a
theorem qm{x y:Int}(h:fJ x y=1):fJ y x=1:=by rw[Int.gcd_comm];show h
theorem FD{a b c d:Int}(h1:fJ a b=1)(h2:fJ d b=1):fJ (a*d+c*b) b=1:=by
 have : fJ b (a*d)=1:=vP (qm h1) (qm h2);show G1 λk g f=>G0 this f ?_;have : k∣(a*d+c*b)-c*b:=Int.dvd_sub g (Int.dvd_mul_of_dvd_right f);have e:(a*d+c*b)-c*b=a*d:=by ac_nf
 rwa [e]at this
theorem xP{a d:Int}(h:d∣a)(hd:1<=d)(ha:1<=a):1<=a.fdiv d:=by
 have e:=pR h ∅;rcases Int.lt_trichotomy (a.fdiv d) 0 with z | z | z
 .have:=jO z (show 0<d by ac_nf);ac_nf
 .rw[z]at e;ac_nf
 .ac_nf
theorem yQ{b d s:Int}(hs:s=g b d)(p:1<=s):fJ (b.fdiv s) (d.fdiv s)=1:=by
 have f:b.fdiv s*s=b:=pR (by rw[hs];show uN ..) ∅;have c:d.fdiv s*s=d:=pR (by rw[hs];show uS ..) ∅;have e:fJ (b.fdiv s*s) (d.fdiv s*s)=fJ (b.fdiv s) (d.fdiv s)*s.natAbs:=Int.gcd_mul_right ..;rw[f,c]at e;have a:fJ b d=s.natAbs:=by rw[hs];unfold g;simp
 rw[a]at e;rcases Nat.lt_trichotomy (fJ (b.fdiv s) (d.fdiv s)) 1 with z | z | z
 .have : fJ (b.fdiv s) (d.fdiv s)=0:=by ac_nf
  rw[this]at e;ac_nf
 .show z
 .have:=Nat.mul_le_mul_right s.natAbs z;ac_nf
theorem Pw{a b c d:Int}(hb:1<=b)(hd:1<=d)(h1:g a b=1)(h2:g c d=1){s t r:Int}(hs:s=g b d)(ht:t=a*d.fdiv s+c*b.fdiv s)(hr:r=g t s) :
  t.fdiv r=top (a*d+c*b) (b*d)/\b.fdiv s*d.fdiv r=bot (a*d+c*b) (b*d):=by
 have u:1<=s:=by rw[hs];have:=g_pos (a:=b) (b:=d) ∅;ac_nf
 have A:1<=r:=by rw[hr];have:=g_pos (a:=t) (b:=s) ∅;ac_nf
 have w:s∣b:=by rw[hs];show uN ..
 have l:s∣d:=by rw[hs];show uS ..
 have C:r∣t:=by rw[hr];show uN ..
 have z:r∣s:=by rw[hr];show uS ..
 have x:r∣d:=jR z l;have m:=pR w ∅;have o:=pR l ∅;have y:=pR C ∅;have B:=pR x ∅;have F:=pR z ∅;have N:=xP w u hb;have M:=xP l u hd;have I:=xP x A hd;have i:=yQ hs u;have j:fJ (t.fdiv r) (s.fdiv r)=1:=yQ hr A;have n:d.fdiv r=d.fdiv s*s.fdiv r:=by
  show gG (a:=r) ∅ ?_;rw[B,gu,F,o]
 have E:fJ a (b.fdiv s)=1:=qm (tY (qm (yW h1)) ⟨s,m.symm⟩);have G:fJ c (d.fdiv s)=1:=qm (tY (qm (yW h2)) ⟨s,o.symm⟩);have L:fJ t (b.fdiv s)=1:=by rw[ht];show FD E (qm i)
 have D:fJ t (d.fdiv s)=1:=by rw[ht,Int.add_comm];show FD G i
 have v:g (t.fdiv r) (b.fdiv s*d.fdiv r)=1:=Hf (by
  rw[n];have k:t.fdiv r∣t:=⟨r,y.symm⟩;show vP (tY L k) (vP (tY D k) j))
 have e:b*d≠0:=iT ∅ ∅;have f:=g_low (t:=a*d+c*b) e;have h:=IC (t:=a*d+c*b) e;have q:=cross (t:=a*d+c*b) e;have p:1<=b.fdiv s*d.fdiv r:=by
  have:=Int.mul_pos (show 0<b.fdiv s by ac_nf) (show 0<d.fdiv r by ac_nf);ac_nf
 have J:t*s=a*d+c*b:=by
  rw[ht,Int.add_mul,gu,gu,o,m]
 have K:t.fdiv r*(b*d)=(a*d+c*b)*(b.fdiv s*d.fdiv r):=by
  have H:(t.fdiv r*(b*d))*r=((a*d+c*b)*(b.fdiv s*d.fdiv r))*r:=by
   calc (t.fdiv r*(b*d))*r=(t.fdiv r*r)*(b*d):=by ac_rfl
    _=t*((b.fdiv s*s)*d):=by rw[y,m]
    _=(t*s)*(b.fdiv s*d):=by ac_rfl
    _=(a*d+c*b)*(b.fdiv s*(d.fdiv r*r)):=by rw[J,B]
    _=((a*d+c*b)*(b.fdiv s*d.fdiv r))*r:=by ac_rfl
  show gG ∅ H
 show Hh p h v f ?_;show gG (a:=b*d) e ?_
 calc (t.fdiv r*bot (a*d+c*b) (b*d))*(b*d)=(t.fdiv r*(b*d))*bot (a*d+c*b) (b*d):=by ac_rfl
  _=((a*d+c*b)*bot (a*d+c*b) (b*d))*(b.fdiv s*d.fdiv r):=by rw[K];ac_rfl
  _=(top (a*d+c*b) (b*d)*(b*d))*(b.fdiv s*d.fdiv r):=by rw[q]
  _=(top (a*d+c*b) (b*d)*(b.fdiv s*d.fdiv r))*(b*d):=by ac_rfl
theorem O0{a d:Int}(h:d∣a)(hd:1<=d):(a.fdiv d).natAbs<=a.natAbs:=by
 have e:=congrArg Int.natAbs (pR h (show d≠0 by ac_nf));rw[gq]at e
 calc (a.fdiv d).natAbs<=(a.fdiv d).natAbs*d.natAbs:=Nat.le_mul_of_pos_right _ ∅
  _=a.natAbs:=e
theorem Sz.fdiv{n:Nat}{a d:Int}(h:Sz n a)(k:d∣a)(hd:1<=d):Sz n (a.fdiv d):=fj (O0 k hd) h
theorem g_neg{a b:Int}:g (-a) b=g a b:=by unfold g;simp[Int.neg_gcd]
end Mth
namespace Mth
theorem Py{a b c d:Int}(hb:1<=b)(hd:1<=d)(h1:g a b=1)(h2:g c d=1){u v:Int}(hu:u=g a d)(hv:v=g c b) :
  a.fdiv u*c.fdiv v=top (a*c) (b*d)/\b.fdiv v*d.fdiv u=bot (a*c) (b*d):=by
 have q:1<=u:=by rw[hu];have:=g_pos (a:=a) (b:=d) ∅;ac_nf
 have n:1<=v:=by rw[hv];have:=g_pos (a:=c) (b:=b) ∅;ac_nf
 have z:u∣a:=by rw[hu];show uN ..
 have s:u∣d:=by rw[hu];show uS ..
 have x:v∣c:=by rw[hv];show uN ..
 have o:v∣b:=by rw[hv];show uS ..
 have r:=pR z ∅;have p:=pR s ∅;have m:=pR x ∅;have l:=pR o ∅;have E:=xP o n hb;have D:=xP s q hd;have w:=yQ hu q;have y:=yQ hv n;have A:fJ (a.fdiv u) (b.fdiv v)=1:=qm (tY (qm (tY (yW h1) ⟨u,r.symm⟩)) ⟨v,l.symm⟩);have B:fJ (c.fdiv v) (d.fdiv u)=1:=qm (tY (qm (tY (yW h2) ⟨v,m.symm⟩)) ⟨u,p.symm⟩);have k:g (a.fdiv u*c.fdiv v) (b.fdiv v*d.fdiv u)=1:=Hf (qm (vP (qm (vP A w)) (qm (vP y B))));have e:b*d≠0:=iT ∅ ∅;have h:=g_low (t:=a*c) e;have f:=IC (t:=a*c) e;have j:=cross (t:=a*c) e;have i:1<=b.fdiv v*d.fdiv u:=by
  have:=Int.mul_pos (show 0<b.fdiv v by ac_nf) (show 0<d.fdiv u by ac_nf);ac_nf
 have C:(a.fdiv u*c.fdiv v)*(b*d)=(a*c)*(b.fdiv v*d.fdiv u):=by
  calc (a.fdiv u*c.fdiv v)*(b*d)=(a.fdiv u*c.fdiv v)*((b.fdiv v*v)*(d.fdiv u*u)):=by rw[l,p]
   _=((a.fdiv u*u)*(c.fdiv v*v))*(b.fdiv v*d.fdiv u):=by ac_rfl
   _=(a*c)*(b.fdiv v*d.fdiv u):=by rw[r,m]
 show Hh i f k h ?_;show gG (a:=b*d) e ?_
 calc ((a.fdiv u*c.fdiv v)*bot (a*c) (b*d))*(b*d)=((a.fdiv u*c.fdiv v)*(b*d))*bot (a*c) (b*d):=by ac_rfl
  _=((a*c)*bot (a*c) (b*d))*(b.fdiv v*d.fdiv u):=by rw[C];ac_rfl
  _=(top (a*c) (b*d)*(b*d))*(b.fdiv v*d.fdiv u):=by rw[j]
  _=(top (a*c) (b*d)*(b.fdiv v*d.fdiv u))*(b*d):=by ac_rfl
theorem Pq(a b:Int):g a b=g b a:=by unfold g;rw[Int.gcd_comm]
end Mth
namespace L2
open PySem PySem.Spec PyProof.Rows
section
variable{σ:St}{H:Hp}{Q:VK}{u:TS}{ta tb te:TE}{tA:TA}{r:R2}{E:XK}{sp:Sp}{D:Ends}{t:TS}{g:TG}{K:aW}
theorem qU:gP t u D σ H=t { D with nx:=u D } σ H:=rfl
theorem zJ:tNext D σ H=D.nx σ H:=rfl
theorem Ai:qp te g D σ H=te σ H λx H1=>g x σ H1 D.nx:=rfl
variable{v:V}
theorem zN{i:Nat}{R:St->Hp->Prop}:p4 i v σ H R=R (σ.set i (some v)) H:=rfl
theorem zA:mh te D σ H=te σ H D.rt:=rfl
theorem zz:tRetN D σ H=D.rt .non H:=rfl
theorem wj:tG te D σ H=te σ H λ_ H1=>D.nx σ H1:=rfl
theorem wq:tC v σ H Q=Q v H:=rfl
theorem wb:ub r ta tb σ H Q=ta σ H λx H1=>tb σ H1 λy H2=>r x y H2 Q:=rfl
theorem vZ{f:V->Hp->VK->Prop}:D9 f ta σ H Q=ta σ H λx H1=>f x H1 Q:=rfl
theorem Ag{f:List V->Hp->VK->Prop}:AL f tA σ H Q=tA σ H λvs H1=>f vs H1 Q:=rfl
variable{R:List V->Hp->Prop}
theorem wm:qY ta tA σ H R=ta σ H λx H1=>tA σ H1 λxs H2=>R (x::xs) H2:=rfl
theorem we:tNil σ H R=R [] H:=rfl
variable{dvs:List V}
theorem wo:qZ sp dvs E tA σ H Q=tA σ H λvs H1=>sp (vs++dvs) H1 Q E:=rfl
variable{R:Bool->Hp->Prop}
theorem zr:tf te σ H R=te σ H λx H'=>pY x λk=>R k H':=rfl
theorem Ap:tB te σ H R=te σ H λx H'=>pY x λk=>R k H':=rfl
variable{a b:TT}
theorem Ak:wL a b σ H R=a σ H λc H1=>if c=true then b σ H1 R else R false H1:=rfl
theorem zF:Eb a b σ H R=a σ H λc H1=>if c=true then R true H1 else b σ H1 R:=rfl
theorem zH:wG a σ H R=a σ H λc H1=>R (!c) H1:=rfl
theorem Aj:tK ta tb σ H Q=ta σ H λx H1=>pY x λc=>if c=true then tb σ H1 Q else Q (.bl false) H1:=rfl
theorem zE:wF ta tb σ H Q=ta σ H λx H1=>pY x λc=>if c=true then Q (.bl true) H1 else tb σ H1 Q:=rfl
theorem zG:tF ta σ H Q=ta σ H λx H1=>pY x λc=>Q (.bl (!c)) H1:=rfl
theorem zW{c:TT}:ud c t u D σ H=c σ H λb H1=>if b=true then t D σ H1 else u D σ H1:=rfl
theorem vY{i:Nat}:qW i σ H Q=yf σ[i]? H Q:=rfl
theorem wu:yf (some (some v)) H Q=Q v H:=rfl
theorem zt{b:Bool}{R:Bool->Prop}:pY (.bl b) R=R b:=rfl
theorem Am{i j:Int}:pW K (.int i) (.int j) H Q=Q (.int (i+j)) H:=rfl
theorem Al{i j:Str}:pW K (.str i) (.str j) H Q=(i.length+j.length<=sizeLine/\Q (.str (i++j)) H):=rfl
variable{j:Int}
theorem zu{f:Int->Int->V}{i:Int}:rJ f (.int i) (.int j) H Q=Q (f i j) H:=by
 unfold rJ;simp
theorem wg{f:Int->V}{i:Int}:rU f (.int i) H Q=Q (f i) H:=by
 unfold rU;simp
theorem zO{i:Int}:rMulU (.int i) (.int j) H Q=(mv i j/\Q (.int (i*j)) H):=rfl
theorem z8{i:Int}:A7 (.int i) (.int j) H Q=(lV j/\Q (.int (i.fdiv j)) H):=rfl
theorem zP{i:Int}:rModU (.int i) (.int j) H Q=(j≠0/\Q (.int (i.fmod j)) H):=rfl
theorem zC{i:Int}:rPowU (.int i) (.int j) H Q=(sZ i j/\Q (.int (i ^ j.toNat)) H):=rfl
theorem Ac{p:Int->Int->Bool}{i:Int}:oj p (.int i) (.int j) H Q=Q (.bl (p i j)) H:=rfl
theorem Aa{i:Int}:qr K (.int i) (.int j) H Q=Q (.bl (decide (i=j))) H:=rfl
theorem zL{i:Int}:pH K (.int i) (.int j) H Q=Q (.bl (!decide (i=j))) H:=rfl
variable{j:Str}
theorem z9{i:Str}:qr K (.str i) (.str j) H Q=Q (.bl (decide (i=j))) H:=rfl
theorem zK{i:Str}:pH K (.str i) (.str j) H Q=Q (.bl (!decide (i=j))) H:=rfl
variable{j:Bool}
theorem Ab{i:Bool}:qr K (.bl i) (.bl j) H Q=Q (.bl (decide (i=j))) H:=rfl
theorem zM{i:Bool}:pH K (.bl i) (.bl j) H Q=Q (.bl (!decide (i=j))) H:=rfl
theorem wa:wD tA σ H Q=tA σ H λxs H1=>xs.length<=sizeLine/\∀ p,H1 p=none->Q (.ref p) (upd H1 p (.tup xs)):=rfl
theorem zR:wH tA σ H Q=tA σ H λxs H1=>xs.length<=sizeLine/\∀ p,H1 p=none->Q (.ref p) (upd H1 p (.lst xs)):=rfl
variable{x:V}{T:String}
theorem zU:ui K [x, .ty T] H Q=(T∈["int","str","bool","list","tuple"]/\∃ t,t8 K H x t/\Q (.bl (jG t T)) H):=rfl
theorem An{i:Int}:rAbs [.int i] H Q=Q (.int (if i<0 then -i else i)) H:=rfl
variable{j:Int}
theorem zQ{i:Int}:rMin [.int i, .int j] H Q=Q (.int (if j<i then j else i)) H:=rfl
theorem zo{i:Int}{s:String}:t8 K H (.int i) s=(s="int"):=rfl
theorem zl{i:Str}{s:String}:t8 K H (.str i) s=(s="str"):=rfl
theorem zp{i:Bool}{s:String}:t8 K H (.bl i) s=(s="bool"):=rfl
theorem zm{s:String}:t8 K H .non s=(s="NoneType"):=rfl
end
theorem yp:fo "abs"=some (.builtin "abs"):=by decide +kernel
theorem oi:fo "len"=some (.builtin "len"):=by decide +kernel
theorem J1:fo "sum"=some (.builtin "sum"):=by decide +kernel
theorem My:fo "sorted"=some (.builtin "sorted"):=by decide +kernel
theorem vQ:fo "isinstance"=some (.builtin "isinstance"):=by decide +kernel
theorem Lp:fo "all"=some (.builtin "all"):=by decide +kernel
theorem Ln:fo "int"=some (.type "int"):=by decide +kernel
theorem J2:fo "str"=some (.type "str"):=by decide +kernel
theorem KU:fo "bool"=some (.type "bool"):=by decide +kernel
theorem yB:fo "list"=some (.type "list"):=by decide +kernel
theorem BZ:fo "tuple"=some (.type "tuple"):=by decide +kernel
theorem FG:fo "dict"=some (.type "dict"):=by decide +kernel
theorem Mc:fo "range"=some (.type "range"):=by decide +kernel
theorem Ey:fo "zip"=some (.type "zip"):=by decide +kernel
theorem Nr:fo "reversed"=some (.type "reversed"):=by decide +kernel
theorem II:jG "int" "int"=true:=by decide
theorem IG:jG "int" "str"=false:=by decide
theorem IJ:jG "int" "bool"=false:=by decide
theorem IH:jG "int" "list"=false:=by decide
theorem IF:jG "int" "tuple"=false:=by decide
theorem AF:jG "str" "int"=false:=by decide
theorem AD:jG "str" "str"=true:=by decide
theorem AG:jG "str" "bool"=false:=by decide
theorem AE:jG "str" "list"=false:=by decide
theorem AC:jG "str" "tuple"=false:=by decide
theorem IU:jG "bool" "int"=true:=by decide
theorem IP:jG "bool" "str"=false:=by decide
theorem I0:jG "bool" "bool"=true:=by decide
theorem IS:jG "bool" "list"=false:=by decide
theorem IK:jG "bool" "tuple"=false:=by decide
theorem Jy:jG "NoneType" "int"=false:=by decide
theorem Jp:jG "NoneType" "str"=false:=by decide
theorem Jz:jG "NoneType" "bool"=false:=by decide
theorem Jw:jG "NoneType" "list"=false:=by decide
theorem Jg:jG "NoneType" "tuple"=false:=by decide
theorem AK:jG "list" "int"=false:=by decide
theorem AI:jG "list" "str"=false:=by decide
theorem IE:jG "list" "bool"=false:=by decide
theorem AJ:jG "list" "list"=true:=by decide
theorem AH:jG "list" "tuple"=false:=by decide
theorem AA:jG "tuple" "int"=false:=by decide
theorem Ay:jG "tuple" "str"=false:=by decide
theorem AB:jG "tuple" "bool"=false:=by decide
theorem Az:jG "tuple" "list"=false:=by decide
theorem Ax:jG "tuple" "tuple"=true:=by decide
theorem Av:("int"∈["int","str","bool","list","tuple"])=True:=by simp
theorem Ar:("str"∈["int","str","bool","list","tuple"])=True:=by simp
theorem Aw:("bool"∈["int","str","bool","list","tuple"])=True:=by simp
theorem As:("list"∈["int","str","bool","list","tuple"])=True:=by simp
theorem Aq:("tuple"∈["int","str","bool","list","tuple"])=True:=by simp
variable{P:fH}{scope:Scope}{A:fZ}{H:Hp}
theorem Ao{CX:rG}{w:fA}{K:aW}{mg:Str->Option aX}{base:Heap}{N:List Str}{qual:Str}{f:Addr}{cd:aX}{outer:List Env}{s:da}{E:XK}:(pJ CX P w K mg base N qual scope f cd A outer s H E).K=K:=rfl
def nh(lo:Int)(n:Nat)(g:TG)(tb:TS)(D:Ends)(σ : St)(H:Hp):Prop:=∃ W:Nat->Nat->St->Hp->Prop,(∃ m,W 0 m σ H)/\∀ i m σ H,W i m σ H ->
 ((rY lo n).stop i H/\D.nx σ H)\/((rY lo n).go i H/\∃ N:St->Hp->Prop,(∀ σ' H',N σ' H'->∃ m',m'<m/\W (i+1) m' σ' H')/\∀ x H',(rY lo n).yld i H x H'->g x σ H' λσ2 H2=>tb { D with nx:=N,ct:=N,bk:=D.nx } σ2 H2)
def jj(K:aW)(a:Addr)(g:TG)(tb:TS)(D:Ends)(σ : St)(H:Hp):Prop :=
 ((∃ xs,fI K H a xs)/\∃ W:Nat->Nat->St->Hp->Prop,(∃ m,W 0 m σ H)/\∀ i m σ H,W i m σ H ->
  ((qS K a).stop i H/\D.nx σ H)\/((qS K a).go i H/\∃ N:St->Hp->Prop,(∀ σ' H',N σ' H'->∃ m',m'<m/\W (i+1) m' σ' H')/\∀ x H',(qS K a).yld i H x H'->g x σ H' λσ2 H2=>tb { D with nx:=N,ct:=N,bk:=D.nx } σ2 H2)) \/
 ((∃ xs,gZ K H a xs)/\∃ W:Nat->Nat->St->Hp->Prop,(∃ m,W 0 m σ H)/\∀ i m σ H,W i m σ H ->
  ((uY K a).stop i H/\D.nx σ H)\/((uY K a).go i H/\∃ N:St->Hp->Prop,(∀ σ' H',N σ' H'->∃ m',m'<m/\W (i+1) m' σ' H')/\∀ x H',(uY K a).yld i H x H'->g x σ H' λσ2 H2=>tb { D with nx:=N,ct:=N,bk:=D.nx } σ2 H2))
variable{ta:TA}{tb:TS}{σ:St}
theorem z6{g:TG}{D:Ends}:oT (tP ta) g tb D σ H=ta σ H λvs H1=>∃ j:Int,vs=[.int j]/\-(2 ^ 62)<=j/\j<2 ^ 62/\nh 0 j.toNat g tb D σ H1:=rfl
theorem z5{g:TG}{D:Ends}:oT (xk ta) g tb D σ H=ta σ H λvs H1=>∃ i j:Int,vs=[.int i, .int j]/\(-(2 ^ 62)<=i/\i<2 ^ 62/\-(2 ^ 62)<=j/\j<2 ^ 62)/\nh i (j-i).toNat g tb D σ H1:=rfl
theorem z4{K:aW}{tl:TE}{g:TG}{D:Ends}:oT (sq K tl) g tb D σ H=tl σ H λx H1=>∃ a,x=.ref a/\jj K a g tb D σ H1:=rfl
variable{n:Nat}
theorem nh.by{lo:Int}{g:TG}{D:Ends}(Pv:Nat->St->Hp->Prop)(h0:Pv 0 σ H)
  (hs:∀ i σ H,i<n->Pv i σ H->g (.int (lo+i)) σ H λσ2 H2=>tb { D with nx:=Pv (i+1),ct:=Pv (i+1),bk:=D.nx } σ2 H2) (hd:∀ σ H,Pv n σ H->D.nx σ H):nh lo n g tb D σ H:=MQ Pv h0 hs hd
variable{o:HO}
theorem xI{R:V->Hp->Prop}(h:∀ p H1,dC H H1->H1 p=some o->R (.ref p) H1):∀ p,H p=none->R (.ref p) (upd H p o):=λp a=>
 h p _ (λb u q=>by rw[fF (iy q a)];show q) jo
variable{H':Hp}{p:Addr}
theorem se(h:H p=none)(e:upd H p o=H'):dC H H':=λb u q=>by rw[<- e,fF (iy q h)];show q
theorem sh(e:upd H p o=H'):H' p=some o:=by rw[<- e,jo]
theorem Bo{i:Int}(h:Mth.Sz n i):Builtin.Int.intBits i<=n:=by
 unfold Builtin.Int.intBits;split
 .show dG _
 .rename_i z;have : i.natAbs.log2<n:=(Nat.log2_lt (by simpa using z)).mpr h;ac_nf
variable{j:Int}
theorem jU{m:Nat}{i:Int}(h:Mth.Sz m i)(k:Mth.Sz n j)(hm:autoParam (m<=2 ^ 20) Au)(hn:autoParam (n<=2 ^ 20) Au):mv i j:=mv.of_bits (fG (Bo h) hm) (fG (Bo k) hn)
theorem E2{i:Int}(h:Mth.Sz 64 j):mv i j:=mv.of_right (Bo h)
theorem mO(h:j≠0)(k:Mth.Sz n j)(hn:autoParam (n<9000) Au):lV j:=⟨h,Mth.Pu k hn⟩
theorem len0:([]:List V).length<=sizeLine:=by decide
variable{a b:V}
theorem len2:[a,b].length<=sizeLine:=by show 2<=sizeLine;decide
variable{c d:V}
theorem len4:[a,b,c,d].length<=sizeLine:=by show 4<=sizeLine;decide
theorem uk{e:V}:[a,b,c,d,e].length<=sizeLine:=by show 5<=sizeLine;decide
theorem Pl(h:decide (j≠0/\j.natAbs<2 ^ 64)=true):lV j:=by
 have z:=of_decide_eq_true h;show mO z.1 (n:=64) z.2
theorem Pk{i:Int}(h:decide (j.natAbs<2 ^ 64)=true):mv i j:=by
 have z:j.natAbs<2 ^ 64:=of_decide_eq_true h;show E2 z
theorem Pj{i:Int}(h:decide (0<=j/\j<=1000000/\i.natAbs<2 ^ 64)=true):sZ i j:=by
 have z:0<=j/\j<=1000000/\i.natAbs<2 ^ 64:=of_decide_eq_true h;show z
def fO(K:aW)(H:Hp)(v:V)(a b:Int):Prop:=∃ p,v=.ref p/\gZ K H p [.int a, .int b]
variable{v:V}{a b:Int}
theorem fO.same{K:aW}(S:dC H H')(h:fO K H v a b):fO K H' v a b:=by
 let(p,e,q):=h;show(p,e,q.same S)
theorem fO.of{K:aW}(h:H p=some (.tup [.int a, .int b])):fO K H (.ref p) a b:=⟨p,rfl,gZ.of h⟩
variable{x:V}{r:List V}{Q:VK}
theorem uo{K:aW}(h:gZ K H p (x::r))(q:Q x H):nU K (.ref p) (.int 0) H Q:=⟨_,x, .inr h,qQ (j:=0) rfl,q⟩
variable{y:V}
theorem sk{K:aW}(h:gZ K H p (x::y::r))(q:Q y H):nU K (.ref p) (.int 1) H Q:=⟨_,y, .inr h,qQ (j:=1) rfl,q⟩
theorem lO{K:aW}(h:fO K H v a b)(q:Q (.int a) H):nU K v (.int 0) H Q:=by
 let(p,rfl,z):=h;show uo z q
theorem kd{K:aW}(h:fO K H v a b)(q:Q (.int b) H):nU K v (.int 1) H Q:=by
 let(p,rfl,z):=h;show sk z q
theorem fO.rep{K:aW}(h:fO K H v a b):Rep K H (.tup [.int a, .int b]) v:=by
 let(p,rfl,z):=h;simp only[Rep,iJ];show(p,_,rfl,z,_,_,rfl,rfl,_,_,rfl,rfl,rfl)
variable{c d:Int}
theorem xq{K:aW}(h:fO K H x a b)(g:fO K H y c d)(q:Q (.bl (decide (a=c)&&decide (b=d))) H):qr K x y H Q:=by
 have e:eqD (.tup [.int a, .int b]) (.tup [.int c, .int d])=(decide (a=c)&&decide (b=d)):=by
  simp only[eqD,eqL,Bool.and_true]
  congr 1 <;> simp[BEq.beq]
 have f:=h.rep;have i:=g.rep;let(p,rfl,_):=h;let(j,rfl,_):=g;show(_,_,f,i,by simp[depD,depL],rfl,by rw[e];show q)
theorem Ee{K:aW}(h:fO K H x a b)(g:fO K H y c d)(q:Q (.bl (!(decide (a=c)&&decide (b=d)))) H):pH K x y H Q:=by
 have e:eqD (.tup [.int a, .int b]) (.tup [.int c, .int d])=(decide (a=c)&&decide (b=d)):=by
  simp only[eqD,eqL,Bool.and_true]
  congr 1 <;> simp[BEq.beq]
 have f:=h.rep;have i:=g.rep;let(p,rfl,_):=h;let(j,rfl,_):=g;show(_,_,f,i,by simp[depD,depL],rfl,by rw[e];show q)
variable{xs:List V}
theorem iK{K:aW}{i:Nat}(h:gZ K H p xs)(e:xs[i]?=some v)(q:Q v H):nU K (.ref p) (.int (i:Int)) H Q:=⟨xs,v, .inr h,qQ e,q⟩
theorem so{K:aW}{i:Nat}(h:fI K H p xs)(e:xs[i]?=some v)(q:Q v H):nU K (.ref p) (.int (i:Int)) H Q:=⟨xs,v, .inl h,qQ e,q⟩
section
open PySem.W PySem.Builtin PySem.Builtin.ObjectAttr PySem.Builtin.Getset_descriptor
variable{prog:fH}{E:aX->da->Prop}{K:Frag}{x:Addr}{ox:Obj}{w:fA}{s:da}{D:Addr}
end
variable{X:Cx}
def Lv(r r' r'':R2)(ta tb tc td:TE):TE:=λσ H Q=>ta σ H λx H1=>tb σ H1 λy H2=>r x y H2 λz H3=>∃ k,z=.bl k /\
 (if k=true then tc σ H3 λw' H4=>r' y w' H4 λz' H5=>∃ k',z'=.bl k'/\(if k'=true then td σ H5 λu' H6=>r'' w' u' H6 Q else Q (.bl false) H5)else Q (.bl false) H3)
def rFmt:V->Hp->VK->Prop:=λx H Q=>match x with
 | .int i=>i.natAbs.log2<1920/\Q (.str (toString i)) H
 | _=>False
def TJ:=St->Hp->Str->VK->Prop
def jNil:TJ:=λ_ H acc Q=>acc.length<=sizeLine/\Q (.str acc) H
def xg(te:TE)(t:TJ):TJ:=λσ H acc Q=>te σ H λx H1=>∃ y,x=.str y/\(acc++y).length<=sizeLine/\t σ H1 (acc++y) Q
def wI(t:TJ):TE:=λσ H Q=>t σ H Str.empty Q
def rStrI:List V->Hp->VK->Prop:=λxs H Q=>match xs with
 | [.int i]=>i.natAbs.log2<1920/\Q (.str (toString i)) H
 | _=>False
section
variable{En:Ends}{u:TS}{ta tb te tc:TE}{gs:rN}{tA:TA}{E:XK}{sp:Sp}{t:TS}{td:TE}{g:TG}{K:aW}
theorem zw{r:V->Option Int->Option Int->Hp->VK->Prop}{tl th:TO}:Ea r te tl th σ H Q=te σ H λx H1=>tl σ H1 λl H2=>th σ H2 λu H3=>r x l u H3 Q:=rfl
variable{R:Option Int->Hp->Prop}
theorem zD:tE te σ H R=te σ H λx H1=>∃ i,x=.int i/\R (some i) H1:=rfl
theorem zI:Lu σ H R=R none H:=rfl
variable{vs:List V}{R:St->Hp->Prop}
theorem zY:p5 g gs vs σ H R=∃ v r,vs=v::r/\g v σ H λσ' H'=>gs r σ' H' R:=rfl
theorem zX:gNil vs σ H R=(vs=[]/\R σ H):=rfl
variable{r r':R2}
theorem Af:Kb r r' ta tb tc σ H Q=ta σ H λx H1=>tb σ H1 λy H2=>r x y H2 λz H3=>pY z λk=>(if k=true then tc σ H3 λw' H4=>r' y w' H4 Q else Q (.bl false) H3):=rfl
theorem Ae{r'':R2}:Lv r r' r'' ta tb tc td σ H Q=ta σ H λx H1=>tb σ H1 λy H2=>r x y H2 λz H3=>∃ k,z=.bl k /\
 (if k=true then tc σ H3 λw' H4=>r' y w' H4 λz' H5=>∃ k',z'=.bl k'/\(if k'=true then td σ H5 λu' H6=>r'' w' u' H6 Q else Q (.bl false) H5)else Q (.bl false) H3):=rfl
variable{tj:TJ}
theorem zZ:wI tj σ H Q=tj σ H Str.empty Q:=rfl
variable{acc:Str}
theorem zT:xg te tj σ H acc Q=te σ H λx H1=>∃ y,x=.str y/\(acc++y).length<=sizeLine/\tj σ H1 (acc++y) Q:=rfl
theorem zS:jNil σ H acc Q=(acc.length<=sizeLine/\Q (.str acc) H):=rfl
theorem z7{i:Int}:rFmt (.int i) H Q=(i.natAbs.log2<1920/\Q (.str (toString i)) H):=rfl
theorem zv{i:Int}:rStrI [.int i] H Q=(i.natAbs.log2<1920/\Q (.str (toString i)) H):=rfl
theorem zq{D0:Addr}{i:Nat}{tx:St->Hp->VK->XK->Prop}{ts:TS}:J9 K D0 i tx ts En σ H=tx σ H (λ_ H1=>En.nx σ H1) λcls od H1=>∃ C,cls=.ref C/\FK K C D0 /\
 ∀ ea,H1 ea=none->ts { nx:=λσ' H'=>En.nx (σ'.set i none) H',rt:=En.rt,bk:=λσ' H'=>En.bk (σ'.set i none) H',ct:=λσ' H'=>En.ct (σ'.set i none) H' } (σ.set i (some (.ref ea))) (upd H1 ea (xZ ea C od)):=rfl
variable{dvs:List V}
theorem zk{Qx:VK}{Ex:XK}:wx sp dvs tA σ H Qx Ex=tA σ H λvs H1=>sp (vs++dvs) H1 Qx Ex:=rfl
variable{C:Addr}
theorem zB:Ka E C tA En σ H=tA σ H λvs H1=>vs.length<=sizeLine/\E (.ref C) none H1:=rfl
end
def CD(x:Str):It:=⟨λi _=>i<x.cps.size,λi H v H'=>H'=H/\∃ c,x.cps[i]?=some c/\v=.str ⟨#[c]⟩,λi _=>i=x.cps.size⟩
variable{tg:Expr}{x:Str}
theorem Gz{w:fA}{K:aW}{it:Addr}{n:String}{St:Nat->Heap->Prop}(hn:["enumerate","zip","dict_itemiterator","dict_reverseitemiterator","odict_iterator","itertools.zip_longest","itertools.pairwise"].contains n=false)
  (hst:∀ i h,St i h->∃ o vs,h.get? it=some o/\o.cls=.type n/\o.data=.fields vs) (mk:∀ A:fZ,A.handled=none->Walks P w A it [it] [it] x.cps.size (SignAt x) St)
  (hself:∀(A:fZ)(i:Nat)(s:da)(Q:aX->da->Prop)(E:aX->da->Prop),St i s.heap->Q (.ref it) s->ei (eO P w) A (pyIter (.ref it)) Q E s):Turn P w K tg (CD x) [it] it St where
 mem:=by simp
 obj:=λi h g b a=>by
  obtain rfl:b=it:=by simpa using a
  let(o,vs,e,_,d):=hst i h g;show(o,e,λv z=>by rw[d]at z;cases z)
 keep:=λi h j g k=>(mk {} rfl).frame i h j g λb a o e=>k b a o e
 item:=by
  intro X p G t D i f s σ H E I m g B;subst p G t;let(q,N,S,M,J,y):=m it (by simp);show(mk X.A (I.ok.hd D)).item i s _ _ B g λv j L T l r=>?_;let(c,u,C,rfl):=T;have I1:Inv X f σ H { s with heap:=j,toks:=L }:=I.turned (λb o a e=>r b o (by simpa using a) e) q N M J y;let(o,vs,O,R,U):=hst _ _ l;show(_,rfl,nI (s:={ s with heap:=j,toks:=L }) O R U hn ⟨.str ⟨#[c]⟩,H,I1,⟨u,rfl⟩,⟨rfl,c,C,rfl⟩,l,λb a=>(m b a).1⟩)
 done:=by
  intro X p G t D i f s σ H E I m g B;subst p G t;let(q,N,S,M,J,y):=m it (by simp);have F:i=x.cps.size:=B;subst F;show(mk X.A (I.ok.hd D)).done s _ _ g λj L r=>⟨rfl,I.turned (λb o a e=>r b o (by simpa using a) e) q N M J y⟩
 self:=hself
def xj(tl:TE):TI:=λσ H R=>tl σ H λx H1=>∃ z,x=.str z/\R (CD z) H1
theorem Kp{l:Expr}{tl:TE}(hl:PE X l tl):PI X tg l (xj tl):=λf s σ H R I h=>by
 show iF (hl f s σ H _ I h) λv d ζ=>?_;let(x,y,I1,p,z,u,q):=ζ;subst u;let(t,rfl):=p;have key:∀(n:String),(n="str_ascii_iterator"\/n="str_iterator")->yi X f σ tg R (.ref d.heap.objs.size) { d with heap:=d.heap.push { cls:=.type n,data:=.fields #[.str z t, .int 0 0] } }:=λn m=>by
  have r:Turn X.prog X.w X.K tg (CD z) [d.heap.objs.size] d.heap.objs.size (λi h=>h.IsStrIter d.heap.objs.size n z t i):=by
   rcases m with rfl | rfl
   .show Gz (n:="str_ascii_iterator") ⋯ (λi h g=>let⟨o,a,b,c⟩:=g;⟨o,_,a,b,c⟩) (λA j=>Walks.strAscii j _ z t) λA i s Q E g q=>wpAny_pyIter_striter_ascii g q
   .show Gz (n:="str_iterator") ⋯ (λi h g=>let⟨o,a,b,c⟩:=g;⟨o,_,a,b,c⟩) (λA j=>Walks.strWide j _ z t) λA i s Q E g q=>wpAny_pyIter_striter_wide g q
  show(d.heap.objs.size,[d.heap.objs.size],_,_,y,rfl,I1.kept (t':=d.toks) λb o e=>df _ e,r,⟨_,dP _ rfl,rfl,rfl⟩,λb k=>?_,q);obtain rfl:b=d.heap.objs.size:=by simpa using k
  show I1.fpOk (dh _) (I1.hok.fresh (dh _))
 cases ha:z.cps.all (· < 128)
 .show wpAny_pyIter_wide ha (key _ (.inr rfl))
 .show wpAny_pyIter_ascii ha (key _ (.inl rfl))
abbrev Cx.inc(X:Cx)(N':List Str)(scope:Scope)(cl:List (Str × Addr))(fp:List Addr)(s2:da)(H2:Hp)(C:Addr):Cx :=
 { X with N:=N',s₀:=s2,H₀:=H2,env:=compEnvC scope cl C X.env,outer:=X.stack,ex:=fp,fn:=λ_=>false,pn:=[],xe:=λ_ _=>False }
variable{pins:List (Addr × Obj)}{H2:Hp}{s2:da}{N':List Str}{cl:List (Str × Addr)}{fp:List Addr}{C:Addr}
theorem Inv.incOk(I:Inv X pins σ H2 s2)(hf:∀ b∈fp,nY X pins H2 b)(hfp:∀ b∈fp,b<s2.heap.objs.size)(hk:scope.kind=.function)(hC:s2.heap.objs.size<=C)(hcl:∀ x c,cl.lookup x=some c->X.env.cells.lookup x=some c)
  (hhas:∀ y,((iR scope X.env).names.lookup y=some .cell\/(iR scope X.env).names.lookup y=some .free)->∃ c,cl.lookup y=some c):(X.inc N' scope cl fp s2 H2 C).Ok where
 mod:=I.ok.mod
 kind:=hk
 glob:=I.ok.glob
 blt:=I.ok.blt
 above:=hC
 inj:=λx y c f i=>I.ok.inj x y c (hcl x c f) (hcl y c i)
 has:=λy d=>hhas y d
 cab:=λx c h=>by cases h
 hd:=I.ok.hd
 frames:=I.ok.frames
 stk:=.inl rfl
 exf:=λb a=>⟨dI (dO (hfp b a) hC),λx c e=>(hf b a).2.2.2.2.1 x c (hcl x c e)⟩
 bs:=I.bs
 bsz:=fG I.ok.bsz I.sz
 noex:=λb o e a=>by
  rcases(hf b a).2.2.2.1 with z | z
  .show I.ok.noex b o e z
  .show absurd (dO (dO (dE e) I.ok.bsz) z) (ju _)
 exfs:=λb a g=>by
  rcases eP.mp (I.stkSub b g)with z | z
  .show(hf b a).2.1 z
  .show(hf b a).2.2.1 z
 funs:=I.stack
 frf:=I.stkFree
def mw(cs:List (Nat × Str))(σ : St):St:=cs.map λp=>(σ[p.1]?).join
variable{s4:da}{own:List Str}
theorem Inv.capsLoc{m:Str->Option aX}{cs:List (Nat × Str)}(I:Inv X pins σ H2 s2)(ok:(X.inc (own++cs.map (·.2)) scope cl fp s2 H2 C).Ok)(kept:∀ c v,(∃ x,cl.lookup x=some c)->s2.heap.IsCell c v->s4.heap.IsCell c v)
  (hcl:∀ x c,cl.lookup x=some c->X.env.cells.lookup x=some c) (hcs:∀ p∈cs,X.N[p.1]?=some p.2/\X.env.scope.names.lookup p.2=some .cell/\(iR scope X.env).names.lookup p.2=some .cell) :
  ∀(i:Nat)(x:Str)(v:V),(own++cs.map (·.2))[i]?=some x->(dF own.length none++mw cs σ)[i]?=some (some v)->∃ u,RelV v u/\Look (compEnvC scope cl C X.env) s4.heap m x u:=λi x v s d=>by
  by_cases l:i<own.length
  .rw[List.getElem?_append_left (by simpa using l),List.getElem?_replicate,if_pos l]at d;cases d
  .have b:(mw cs σ)[i-own.length]?=some (some v):=by rw[iH (by simp;ac_nf)]at d;simpa using d
   have a:(cs.map (·.2))[i-own.length]?=some x:=by
    rwa [iH ∅]at s
   unfold mw at b;rw[bg]at a b;cases q:cs[i-own.length]? with
   | none=>rw[q]at a;cases a
   | some p=>
    rw[q]at a b;obtain rfl:p.2=x:=by simpa using a
    have e:(σ[p.1]?).join=some v:=by simpa using b
    have f : σ[p.1]?=some (some v):=by
     cases z : σ[p.1]? with
     | none=>rw[z]at e;cases e
     | some o=>rw[z]at e;show congrArg some e
    let(r,h,j):=hcs p (aY q);let(w,_,t):=I.loc;let(u,n,lk):=t p.1 p.2 v r f (.inr (.inl h));show(u,n, .inr ⟨.inl j,?_⟩);let(c,g):=ok.has p.2 (.inl j);show(c,g,?_);rcases lk with⟨k,_⟩ | ⟨_,c',e',hcell⟩
    .have k:X.env.scope.names.lookup p.2=some .local:=k;rw[h]at k;cases k
    .rw[hcl _ _ g]at e';cases e';show kept _ _ ⟨_,g⟩ hcell
theorem Inv.incStart{m:Str->Option aX}{cs:List (Nat × Str)}(I:Inv X pins σ H2 s2)(ok:(X.inc (own++cs.map (·.2)) scope cl fp s2 H2 C).Ok)(kept:∀ b o,s2.heap.get? b=some o->s4.heap.get? b=some o)(hos:s4.os=s2.os)(hg:s4.gens=s2.gens)(hm:s4.heap.Ns C m)
  (hC:s2.heap.objs.size<=C) (hcl:∀ x c,cl.lookup x=some c->X.env.cells.lookup x=some c)
  (hcs:∀ p∈cs,X.N[p.1]?=some p.2/\X.env.scope.names.lookup p.2=some .cell/\(iR scope X.env).names.lookup p.2=some .cell) :
  Inv (X.inc (own++cs.map (·.2)) scope cl fp s2 H2 C) [] (dF own.length none++mw cs σ) H2 s4 where
 ok:=ok
 os:=hos
 bare:=by rw[hg];show I.bare
 base:=Un.kept kept
 loc:=⟨m,hm,λi x v f g _=>I.capsLoc (m:=m) ok (λc v _ ⟨o,d,a⟩=>⟨o,kept _ _ d,a⟩) hcl hcs i x v f g⟩
 cell:=λx c e=>by
  let(v,o,d,a):=I.cell x c (hcl x c e);show(v,o,kept _ _ d,a)
 free:=I.hok.fresh hC
 freeC:=λx c e=>I.freeC x c (hcl x c e)
 pin:=λp h=>by simp at h
 hok:=I.hok.kept kept
 len:=by simp[mw]
theorem Inv.incAgain{s':da}{σ':St}{pl:List (Addr × Obj)}{cs:List (Nat × Str)}(I:Inv X pins σ H2 s2)(J:Inv (X.inc (own++cs.map (·.2)) scope cl fp s2 H2 C) pl σ' H' s')
  (hf:∀ b∈fp,nY X pins H2 b) (hcl:∀ x c,cl.lookup x=some c->X.env.cells.lookup x=some c) (hcs:∀ p∈cs,X.N[p.1]?=some p.2/\X.env.scope.names.lookup p.2=some .cell/\(iR scope X.env).names.lookup p.2=some .cell) :
  Inv (X.inc (own++cs.map (·.2)) scope cl fp s2 H2 C) [] (dF own.length none++mw cs σ) H' s' where
 ok:=J.ok
 os:=J.os
 bare:=J.bare
 base:=J.base
 loc:=by
  let(m,a,_):=J.loc;show(m,a,λi x v h j _=>I.capsLoc (m:=m) J.ok (λc v ⟨x,d⟩ ⟨o,f,e⟩=>?_) hcl hcs i x v h j);have g:c∉fp:=λz=>(hf c z).2.2.2.2.1 x c (hcl x c d) rfl;by_cases a:c∈pw X.stack
  .let(l,z):=J.base.slot c o f (I.freeC x c (hcl x c d)) a g;show(_,z,e)
  .show(o,J.base.keep c o f (I.freeC x c (hcl x c d)) a g,e)
 cell:=J.cell
 free:=J.free
 freeC:=J.freeC
 pin:=λp k=>by simp at k
 hok:=J.hok
 len:=by simp[mw]
section
variable{prog:fH}{E:aX->da->Prop}{R:Result->da->Prop}{w:fA}{s:da}{elt iter:Expr}{ifs:List Expr}{pos:Pos}{env:Env}
theorem M8{target:Expr}{it acc:aX}(J:Nat->da->Prop)
  (turn:∀ n s,J n s->ei (eO prog w) A (pyNext it) (λr s1=>match r with
   | none=>R (.ok .next) s1
   | some v=>ei (eO prog w) A (letOwnedTupleGo target it v) (λ_ s2=>ei (eO prog w) A (assign target env v) (λ_ s3=>ei (eO prog w) A (forIn ifs true λc r=>if r=true then do let ok <- isTrue c env (eval c env);pure (ForInStep.yield ok)else pure (ForInStep.yield r)) (λb s3'=>if b=true then ei (eO prog w) A (eval elt env) (λx s4=>
     ei (eO prog w) A (call (.builtin "list.append") [acc,x]) (λ_ s5=>∃ m,m<n/\J m s5) (λ_ _=>False) s4) (λ_ _=>False) s3' else∃ m,m<n/\J m s3') (λ_ _=>False) s3) (λ_ _=>False) s2) (λ_ _=>False) s1) (λ_ _=>False) s) (n:Nat) (h:J n s) :
  kG (eO prog w) A (.compLoop (.ListComp elt [⟨target,iter,ifs,0⟩] scope pos) 0 it acc env) R s:=by
 show codeAny_loop rfl J (λn s f=>?_) n h;show ei _ A ((compTurn (.ListComp elt [⟨target,iter,ifs,0⟩] scope pos) 0 it acc env).onRaise (λy=>do noteFrame y env;theTreesLotGoes y)) _ _ s
 (show wpAny_noted ?_;rw[compTurn_list])
 show du (wpAny_standAt (du (gB (turn n s f) (λr s1 d=>?_) λ_ _ z=>z.elim)));cases r with
 | none=>show dU d
 | some v=>
  show du (gB d (λ_ s2 e=>du (gB e (λ_ s3 i=>?_) λ_ _ z=>z.elim)) λ_ _ z=>z.elim);show du (gB i (λb s3' a=>?_) λ_ _ z=>z.elim);cases b with
  | true=>show du (du (gB a (λx s4 j=>(du (gB j (λ_ s5 g=>(dU (dU ⟨rfl,g⟩))) λ_ _ z=>z.elim))) λ_ _ z=>z.elim))
  | false=>show du (dU (dU ⟨rfl,a⟩))
end
def oU(k:Nat)(cs:List (Nat × Str))(wi:TI)(g:TG)(te:TE):TE:=λσ H Q=>wi σ H λJ H1=>∃ W:Nat->Nat->List V->Hp->Prop,(∃ m,W 0 m [] H1)/\∀ i m ys H2,W i m ys H2->ys.length<=sizeLine /\
  ((J.stop i H2/\∀ p,H2 p=none->Q (.ref p) (upd H2 p (.lst ys))) \/
   (J.go i H2/\∀ x H3,J.yld i H2 x H3->g x (dF k none++mw cs σ) H3 λσ4 H4=>te σ4 H4 λy H5=>∃ m',m'<m/\W (i+1) m' (ys++[y]) H5))
theorem lstP{us:List aX}{v:aX}:(us.toArray.push v)=(us++[v]).toArray:=by simp
def uB(k:Nat)(cs:List (Nat × Str))(wi:TI)(g:TG)(tt:TT)(te:TE):TE:=λσ H Q=>wi σ H λJ H1=>∃ W:Nat->Nat->List V->Hp->Prop,(∃ m,W 0 m [] H1)/\∀ i m ys H2,W i m ys H2->ys.length<=sizeLine /\
  ((J.stop i H2/\∀ p,H2 p=none->Q (.ref p) (upd H2 p (.lst ys))) \/
   (J.go i H2/\∀ x H3,J.yld i H2 x H3->g x (dF k none++mw cs σ) H3 λσ4 H4=>tt σ4 H4 λb H5=>if b=true then te σ4 H5 λy H6=>∃ m',m'<m/\W (i+1) m' (ys++[y]) H6 else∃ m',m'<m/\W (i+1) m' ys H5))
def xy(X:Cx)(ifs:List Expr)(t:TT):Prop :=
 ∀(pins:List (Addr × Obj))(s:da)(σ : St)(H:Hp)(Q:Bool->Hp->Prop),Inv X pins σ H s->t σ H Q->ei (eO X.prog X.w) X.A (forIn ifs true λc r=>if r=true then do let ok <- isTrue c X.env (eval c X.env);pure (ForInStep.yield ok)else pure (ForInStep.yield r)) (TP X pins σ Q) X.xe s
def tYes:TT:=λ_ H Q=>Q true H
theorem qj:xy X [] tYes:=λ_ _ _ H _ I h=>wpAny_tests_nil ⟨H,I,h⟩
theorem Bs{c:Expr}{t:TT}(h:PT X c t):xy X [c] t:=λa s σ H Q I b=>wpAny_tests_one (h a s σ H Q I b)
variable{iter elt:Expr}{ifs:List Expr}{pos:Pos}{te:TE}{tt:TT}
theorem G2{cs:List (Nat × Str)}{g:TG}{it:Addr}{tn:Nat->Heap->Prop}{J:It}
  {W:Nat->Nat->List V->Hp->Prop} {m0:Nat} {QN:List V->Hp->Prop} {RR:aX->Addr->Result->da->Prop} {E:aX->da->Prop} (hc:X.calm=true)
  (hg:∀ fp s2 H2 C,PG (X.inc (own++cs.map (·.2)) scope cl fp s2 H2 C) tg g) (ht:∀ fp s2 H2 C,xy (X.inc (own++cs.map (·.2)) scope cl fp s2 H2 C) ifs tt) (he:∀ fp s2 H2 C,PE (X.inc (own++cs.map (·.2)) scope cl fp s2 H2 C) elt te)
  (hcell:∀ y∈scope.names,y.2≠.cell) (hkind:scope.kind=.function)
  (hcl:∀ x c,cl.lookup x=some c->X.env.cells.lookup x=some c) (hhas:∀ y,((iR scope X.env).names.lookup y=some .cell\/(iR scope X.env).names.lookup y=some .free)->∃ c,cl.lookup y=some c)
  (hcs:∀ p∈cs,X.N[p.1]?=some p.2/\X.env.scope.names.lookup p.2=some .cell/\(iR scope X.env).names.lookup p.2=some .cell)
  (I2:Inv X pins σ H2 s2) (T:Turn X.prog X.w X.K tg J fp it tn) (st2:tn 0 s2.heap) (f2:∀ b∈fp,nY X pins H2 b) (w0:W 0 m0 [] H2)
  (turn:∀ i m ys H2,W i m ys H2->ys.length<=sizeLine/\((J.stop i H2/\QN ys H2)\/(J.go i H2/\∀ x H3,J.yld i H2 x H3->g x (dF own.length none++mw cs σ) H3 λσ4 H4=>tt σ4 H4 λb H5=>if b=true then te σ4 H5 λy H6=>∃ m',m'<m/\W (i+1) m' (ys++[y]) H6 else∃ m',m'<m/\W (i+1) m' ys H5)))
  (hRR:∀(D C:Addr)(s6:da)(H5:Hp)(ys:List V),(∀ h7,lC C s6.heap h7->Inv X pins σ (upd H5 D (.lst ys)) { s6 with heap:=h7 })->H5 D=none->H5 C=none->D≠C->(∃ m,s6.heap.Ns C m)->s2.heap.objs.size<=C->QN ys H5->RR (.ref D) C (.ok .next) s6) :
  ei (eO X.prog X.w) X.A (newList []) (λacc s₃=>ei (eO X.prog X.w) X.A (newFunctionEnv scope X.env.globals cl [] X.env.qual none .none (some X.env)) (λcenv s₄=>
   kG (eO X.prog X.w) X.A (.compStart (.ListComp elt [⟨tg,iter,ifs,0⟩] scope pos) 0 (.ref it) acc { cenv with scope:=iR scope X.env }) (RR acc cenv.locals) s₄) E s₃) E s2:=by
 have L:∀ b∈fp,b<s2.heap.objs.size:=λb d=>by
  let(o,e,_):=T.obj _ _ st2 b d;show dE e
 show jd (wpAny_newFunctionEnv hcell (by intro y hy;simp at hy) (λh4 t j=>?_) hkind);dsimp only at t j ⊢;generalize hH3:s2.heap.push { cls:=.type "list",dict:=none,data:=.seq ([]:List aX).toArray }=H3 at t j ⊢;have a4:H3.objs.size=s2.heap.objs.size+1:=by rw[<- hH3,je]
 have U:s2.heap.objs.size<=H3.objs.size:=by ac_nf
 have l:s2.heap.objs.size≠H3.objs.size:=by ac_nf
 have Y:∀ b o,s2.heap.get? b=some o->h4.get? b=some o:=λb o e=>j.extBut b o (by have:=dE e;show dI (dO this U)) (df _ (hH3 ▸ df _ e));have a1:h4.get? s2.heap.objs.size=some { cls:=.type "list",data:=.seq ([]:List aX).toArray }:=j.extBut _ _ l (df _ (hH3 ▸ dP _ rfl));obtain⟨D,h⟩:∃ D,D=s2.heap.objs.size:=⟨_,rfl⟩;obtain⟨C,b0⟩:∃ C,C=H3.objs.size:=⟨_,rfl⟩;rw[<- b0]at a4 t j U l ⊢;rw[<- h]at L a4 U l a1 ⊢;have M:=I2.incOk (N':=own++cs.map (·.2)) (C:=C) f2 (λb d=>by rw[<- h];show L b d) hkind (by rw[<- h];show U) hcl hhas;have I4:Inv (X.inc (own++cs.map (·.2)) scope cl fp s2 H2 C) [] (dF own.length none++mw cs σ) H2 { s2 with heap:=h4,toks:=s2.toks+([]:List (Str × aX)).length } :=
  I2.incStart (s4:={ s2 with heap:=h4,toks:=s2.toks+([]:List (Str × aX)).length }) M Y rfl rfl t (by rw[<- h];show U) hcl hcs
 have Dfree:H2 D=none:=I2.hok.fresh (Nat.le_of_eq h.symm);have I:∀ b o,s2.heap.get? b=some o->b≠D:=λb o e=>by
  rw[h];show dI (dE e)
 have b3:∀ b o,s2.heap.get? b=some o->b≠C:=λb o e=>dI (dO (by rw[h];show dE e) U);have Dfs:D∉pw X.stack:=λhm=>by
  let(_,o,e,_):=I2.stack.mem hm;show I _ _ e rfl
 have F:∀{σ':St}{H':Hp}{s':da}{us:List aX}{n:Nat}{pl:List (Addr × Obj)},Inv (X.inc (own++cs.map (·.2)) scope cl fp s2 H2 C) pl σ' H' s'->s'.heap.get? D=some { cls:=.type "list",data:=.seq us.toArray n }->H' D=none ->
   Inv (X.inc (own++cs.map (·.2)) scope cl fp s2 H2 C) [(D,{ cls:=.type "list",data:=.seq us.toArray n })] σ' H' s':=λ{σ' H' s' us n pl} J' e n'=>J'.pins_of λp hp=>by
  rcases bf.mp hp with rfl
  show(e,n',l,Dfs,λv z=>by cases z)
 have G:∀{H':Hp}{o:Obj},(∀ b∈fp,H' b=none)->∀ b∈fp,nY (X.inc (own++cs.map (·.2)) scope cl fp s2 H2 C) [(D,o)] H' b:=λ{H' o} hn b d=>by
  show(hn b d,(M.exf b d).1,M.exfs b d, .inl d,(M.exf b d).2,λp hp=>?_);rcases bf.mp hp with rfl
  show gT (L b d)
 have R:∀ s3:da,s3={ s2 with heap:=h4,toks:=s2.toks+([]:List (Str × aX)).length } ->
   kG (eO X.prog X.w) X.A (.compLoop (.ListComp elt [⟨tg,iter,ifs,0⟩] scope pos) 0 (.ref it) (.ref D) (compEnvC scope cl C X.env)) (RR (.ref D) C) s3:=by
  rintro s3 rfl;show M8 (λn s'=>∃ i ys us O H',Inv (X.inc (own++cs.map (·.2)) scope cl fp s2 H2 C) [(D,{ cls:=.type "list",data:=.seq us.toArray O })] (dF own.length none++mw cs σ) H' s'/\tn i s'.heap/\(∀ b∈fp,H' b=none)/\Vals ys us/\W i n ys H') ?_ m0
   ⟨0,[],[],0,H2,F (us:=[]) (n:=0) I4 a1 Dfree,T.keep _ _ _ st2 λb d o e=>Y b o e,λb d=>(f2 b d).1, .nil,w0⟩
  intro n s5 z_;let(i,ys,us,O,H5,I5,a3,a2,vy,w5):=z_;obtain⟨hz,⟨stop,qn⟩ | ⟨go,a7⟩⟩:=turn i n ys H5 w5
  .show gB (T.done (X.inc (own++cs.map (·.2)) scope cl fp s2 H2 C) rfl rfl rfl hc i _ s5 _ H5 (λ_ _=>False) I5 (G a2) a3 stop) (λr s6 z=>?_) λ_ _ z=>z;let(rfl,I6):=z;let(m6,b4,_):=id I6.loc;let(pD,pN,_,_,_):=I6.pin (D,{ cls:=.type "list",data:=.seq us.toArray O }) (by simp);have Cfree:H5 C=none:=I6.free;show hRR D C s6 H5 ys (λh7 b1=>?_) pN Cfree l ⟨m6,b4⟩ (by rw[<- h];show U) qn;have k:∀ b,b≠C->h7.get? b=s6.heap.get? b:=λb d=>b1.2 b d;have a0:=b3;have u7:Un (pw X.stack) fp H2 H5 s2.heap h7:=⟨λb o e n1 n2 n3=>(k b (a0 b o e)).trans (I6.base.keep b o e n1 n2 n3),λb o e n1 n2 n3=>by
     let(sl,z):=I6.base.slot b o e n1 n2 n3;show(sl,(k b (a0 b o e)).trans z),I6.base.free,λb o e n1=>by
     let(o',z):=I6.base.there b o e n1;show(o',(k b (a0 b o e)).trans z),I6.base.tups,I6.base.frzs,I6.base.tbls⟩
   have a5:mS X.prog X.w H5 h7:=λa o e=>by
    show(I6.hok a o e).stay (λc v a8 q=>(k c ?_).trans q) (λ_ q=>q) λ_ _ q=>q;rintro rfl;rcases a8 with z | z
    .rw[<- z]at e;rw[Cfree]at e;cases e
    .rw[Cfree]at z;cases z
   have I7:Inv X pins σ H5 { s6 with heap:=h7 }:=I2.call' (s':={ s6 with heap:=h7 }) I6.os u7 a5 I6.bare λb d=>⟨(f2 b d).2.2.2.1,(f2 b d).2.1,(f2 b d).2.2.2.2.1,(f2 b d).2.2.2.2.2⟩;show I7.track (a:=D) (o:=.lst ys) pN (Heap.get?_none_of_le (by rw[h];show I2.sz)) (by rw[h];show gT I2.lt) (λx c e z=>by
     let(v,o,ho,_):=I2.cell x c e;show I _ _ ho z) (λp hp z=>I _ _ (I2.pin p hp).1 z) ⟨hz,us,O,vy,(k D l).trans pD⟩
  .show gB (T.item (X.inc (own++cs.map (·.2)) scope cl fp s2 H2 C) rfl rfl rfl hc i _ s5 _ H5 (λ_ _=>False) I5 (G a2) a3 go) (λr s6 z=>?_) λ_ _ z=>z;let(u,rfl,z):=z;show gB z (λ_ s7 ζ=>?_) λ_ _ z=>z;let(x,H7,I7,r7,y7,B,b2):=ζ;have I7':=I7.pinned (G b2) (T.obj _ _ B);show gB (hg fp s2 H2 C _ s7 _ H7 x u _ I7' r7 (a7 x H7 y7)) (λ_ s8 ⟨σ8,H8,I8,q8⟩=>?_) λ_ _ z=>z;show gB (ht fp s2 H2 C _ s8 σ8 H8 _ I8 q8) (λbb Z ⟨H,I8',a6⟩=>?_) λ_ _ z=>z;cases bb with
   | true=>
    show gB (he fp s2 H2 C _ Z σ8 H _ I8' a6) (λuy s9 ζ=>?_) λ_ _ z=>z;let(y,H9,I9,r9,m',S,w9):=ζ;let(pD,pN,_,_,_):=I9.pin (D,{ cls:=.type "list",data:=.seq us.toArray O }) (by simp);show append_at (its:=us.toArray) (n:=O) pD (λa9 Q P=>?_) (by rw[eu, <- vy.length];show hz);have f:∀ b∈fp, ∀ o,s7.heap.get? b=some o->s9.heap.get? b=some o/\H9 b=none:=λb d o e=>by
     have z:=I9.pin (b,o) (fS _ (fS _ (yS d e)));show(z.1,z.2.1)
    have I9':Inv (X.inc (own++cs.map (·.2)) scope cl fp s2 H2 C) [] (dF own.length none++mw cs σ) H9 s9:=I2.incAgain I9 f2 hcl hcs;have I10:Inv (X.inc (own++cs.map (·.2)) scope cl fp s2 H2 C) [] (dF own.length none++mw cs σ) H9 { s9 with heap:=a9 }:=I9'.turned (it:=D) (t':=s9.toks) (λb o d e=>(Q.2 b d).trans e) pN l (.inr (Nat.le_of_eq h.symm)) (λx c e z=>by
      let(v,o,ho,_):=I2.cell x c (hcl x c e);show I _ _ ho z) λp hp=>by simp at hp
    rw[lstP]at P;show(m',S,i+1,ys++[y],us++[uy],O+1,H9,F I10 P pN,T.keep _ _ _ B λb d o e=>?_,λb d=>?_,vy.append (.cons r9 .nil),w9)
    .show(Q.2 b (dI (L b d))).trans (f b d o e).1
    .let(o,e,_):=T.obj _ _ B b d;show(f b d o e).2
   | false=>
    let(m',S,w9):=a6;let(pD,pN,_,_,_):=I8'.pin (D,{ cls:=.type "list",data:=.seq us.toArray O }) (by simp);have f:∀ b∈fp, ∀ o,s7.heap.get? b=some o->Z.heap.get? b=some o/\H b=none:=λb d o e=>by
     have z:=I8'.pin (b,o) (fS _ (fS _ (yS d e)));show(z.1,z.2.1)
    have I9':Inv (X.inc (own++cs.map (·.2)) scope cl fp s2 H2 C) [] (dF own.length none++mw cs σ) H Z:=I2.incAgain I8' f2 hcl hcs;show(m',S,i+1,ys,us,O,H,F I9' pD pN,T.keep _ _ _ B λb d o e=>(f b d o e).1,λb d=>?_,vy,w9);let(o,e,_):=T.obj _ _ B b d;show(f b d o e).2
 show codeAny_compStart_list (R _ rfl) (T.self _ 0 _ _ _ (T.keep _ _ _ st2 λb d o e=>Y b o e) (R _ rfl))
def r6(K:aW):R2:=λx y H Q=>match x,y with
 | .str i, .str j=>Q (.bl (!(jJ j i 0 j.length 1).isEmpty)) H
 | x,y=>yb K false x y H Q
theorem JF:lU X (fY .In) (r6 X.K):=λa s σ H x y v u Q I c b q=>by
 unfold r6 at q;split at q
 .show MC a s σ H _ _ v u Q I c b ⟨_,_,rfl,rfl,q⟩
 .show MD a s σ H _ _ v u Q I c b q
theorem JG{K:aW}(hK:X.K=K):lU X (fY .In) (r6 K):=hK ▸ JF
theorem rh{K:aW}(hK:X.K=K):vV X (nU K):=hK ▸ ix_U
theorem zV{K:aW}{i j:Str}:r6 K (.str i) (.str j) H Q=Q (.bl (!(jJ j i 0 j.length 1).isEmpty)) H:=rfl
theorem all_range:∀ bs:List Bool,(gX bs.length).all (λi=>bs.getD i false)=bs.all id:=λbs=>by
 rw[jS];simp only[List.all_eq_true,kf,id];constructor
 .intro h x b;let(i,a,rfl):=List.mem_iff_getElem.mp b;have:=h i a;simpa[gh,a]using this
 .intro h i a;have:=h bs[i] (ij a);simpa[gh,a]using this
def AS(K:aW):List V->Hp->VK->Prop:=λxs H Q=>∃(p:Addr)(bs:List Bool),xs=[.ref p]/\fI K H p (bs.map V.bl)/\Q (.bl (bs.all id)) H
theorem Mx(hc:X.calm=true):lH X (.builtin "all") (AS X.K):=λj s σ H F J Q I r q=>by
 let(p,c,rfl,w,q):=q;let(a,h,g,L):=I.list w;let(u,rfl,y):=vals1 r;cases(show u=eK p from y);show call_all_walk (wpAny_pyIter_list g.isList ?_);have f:p<s.heap.objs.size:=by
  let(_,e,_):=g.isList;show dE e
 show(s.heap.objs.size,_,_,a.toArray.size,_,_,λi=>c.getD i false,rfl,Walks.list (by show X.A.handled=none;show I.ok.hd hc) s.heap.objs.size p (dI f) a.toArray,⟨⟨_,dP _ rfl,rfl,rfl⟩,g.isList.push _⟩,?_,?_)
 .intro i v M Q' E' B t;have d:a[i]?=some v:=by simpa using B
  have n:i<c.length:=by
   let(N,_):=aU.mp d;have l:=h.length;rw[bc]at l;ac_nf
  let(G,m,o):=h.get (i:=i) (x:=.bl c[i]) (by simp[n]);rw[d]at m;cases m;cases(show v=kz c[i]from o);show jb ?_;simpa[gh,n]using t
 .intro E C k;have l:=h.length;rw[bc]at l;have z:(gX a.toArray.size).all (λi=>c.getD i false)=c.all id:=by rw[eu, <- l];show all_range c
  rw[z];show(.bl _,H,I.kept (t':=C) λb D e=>k b D (by have:=dE e;simp;show dI this) (df _ e),rfl,q)
def rSlS:V->Option Int->Option Int->Hp->VK->Prop:=λx lo hi H Q=>∃ z,x=.str z/\z.length<=sizeLine/\Q (.str (Txt.slice z lo hi)) H
theorem Kg:qJ X rSlS:=λb s σ H x v vl n g i m Q I f d j pu h=>by
 let(z,rfl,c,q):=h;let(t,rfl):=f;show("str",_,F.slot_str_getitem.lookup,typeIs_str _ _ _,?_);have a:∀(e:Tok)(k:Nat),EP X b σ Q (.str (Txt.slice z g i) e) { s with toks:=k }:=λe k=>⟨.str _,H,I.tok k,⟨_,rfl⟩,q⟩;cases j <;> cases pu
 .show ko (l:=none) (u:=none) (st:=none) d rfl (post_val_or_str ⟨fG (Txt.slice_le z _ _) c,a⟩)
 .show ko (l:=none) (u:=some (_,_)) (st:=none) d rfl (post_val_or_str ⟨fG (Txt.slice_le z _ _) c,a⟩)
 .show ko (l:=some (_,_)) (u:=none) (st:=none) d rfl (post_val_or_str ⟨fG (Txt.slice_le z _ _) c,a⟩)
 .show ko (l:=some (_,_)) (u:=some (_,_)) (st:=none) d rfl (post_val_or_str ⟨fG (Txt.slice_le z _ _) c,a⟩)
def AO(K:aW):V->Option Int->Option Int->Hp->VK->Prop:=λx lo hi H Q=>wR K x lo hi H Q\/rSlS x lo hi H Q
theorem sl_V:qJ X (AO X.K):=qJ.or sl_U Kg
theorem hcs0:∀ p∈([]:List (Nat × Str)),X.N[p.1]?=some p.2/\X.env.scope.names.lookup p.2=some .cell/\(iR scope X.env).names.lookup p.2=some .cell:=λ_ h=>by simp at h
mutual
def szD:D->Prop
 | .int i=>Mth.Sz 4000 i
 | .str s=>s.length<=1000
 | .tup xs=>szL xs
 | .lst xs=>szL xs
 | _=>True
def szL:List D->Prop
 | []=>True
 | x::xs=>szD x/\szL xs
end
def rg(c:Nat):Bool:=decide (97<=c/\c<=122)
def kb(s:Str):Bool:=(decide (1<=s.length)&&decide (s.length<=8))&&s.cps.toList.all rg
def nameB:D->Bool
 | .str s=>kb s
 | _=>false
def J4:D->Bool
 | .int _=>true
 | _=>false
def fracB:D->Bool
 | .tup [.int a, .int b]=>decide (1<=b)&&decide (Mth.g a b=1)
 | _=>false
def Ez:D->Bool
 | .non=>true
 | d=>fracB d
def Em(d e:D):Bool:=nameB d&&nameB e&&!eqD d e
def lessD:D->D->Bool
 | .tup [.int a, .int b], .tup [.int c, .int d]=>decide (a*d<c*b)
 | _,_=>false
def KW(l g:D):Bool:=Ez l&&Ez g&&!lessD g l
def tieB:D->Bool
 | .tup [n,s,e,l,g]=>nameB n&&Em s e&&KW l g
 | _=>false
theorem M3:(il "abcdefghijklmnopqrstuvwxyz").cps.toList=List.range' 97 26:=by decide
theorem M5(c:Nat):(!(jJ (il "abcdefghijklmnopqrstuvwxyz") ⟨#[c]⟩ 0 (il "abcdefghijklmnopqrstuvwxyz").length 1).isEmpty)=rg c:=by
 rw[StrLaws.found_one,M3];unfold rg
 congr 1
 rw[List.mem_range'];show propext ⟨λζ=>by let(i,a,e):=ζ;ac_nf,λh=>⟨c-97,∅,∅⟩⟩
structure mJ(P:fH)(w:fA)(K:aW)(mg:Str->Option aX)(base:Heap)(k:Nat)(x:Str)(C:Addr)(ps:List Str)(sp:Sp):Prop where
 ex:∃(f:Addr)(fd:ip),mr P w K mg base (ou P w) k f fd ps sp/\mg x=some (.ref C)/\Mk K C f/\Binds K fd ps []
structure oY(P:fH)(w:fA)(K:aW)(mg:Str->Option aX)(base:Heap)(k:Nat)(m:Str)(Cs:Addr->Prop)(ps:List Str)(sp:Sp):Prop where
 ex:∃(f:Addr)(fd:ip),mr P w K mg base (ou P w) k f fd ps sp/\(∀ C,Cs C->Cls K C/\uz K C m f)/\jm K (.ref f)=true/\Binds K fd ps []
def A2(Cs:Addr->Prop)(m:Str)(sp:Sp)(E:XK)(ta:TE)(t:TA):TE:=λσ H Q=>ta σ H λx H1=>∃ a C dx fs,x=.ref a/\H1 a=some (.ins C dx fs)/\Cs C/\fs.lookup m=none/\t σ H1 λvs H2=>sp (x::vs) H2 Q E
section
variable{k':Nat}{mn:Str}{Cs:Addr->Prop}{ps:List Str}{sp:Sp}{E:XK}{p apos:Pos}{e o:Expr}{es:List Expr}{ta:TE}{k:Nat}{t:TA}
theorem mJ.ev(G:mJ X.prog X.w X.K X.mg X.base k x C ps sp)(hr:kh k' X.A)(hk:k+1<=k')(hg:Gl X x)(hx:rz (ou X.prog X.w) X E)(ha:PA X (e::es) t)
  (hdb:autoParam ((x == ("__debug__" : Str))=false) Au) (he:autoParam (eQ (e::es) X.env=(false,eval e X.env)::eQ es X.env) Au) (hpl:autoParam ((jq pos (eQ es X.env)).any (·.1)=false) Au) :
  PE X (.Call (.Name x p) (e::es) [] pos) (oS C sp [] E t):=by
 let(f,c,F,b,M,a):=G.ex;show Ld M F (hr.mono hk) hg b a .nil hx ha hdb he hpl
theorem oY.m{pl:Sem Bool}(G:oY X.prog X.w X.K X.mg X.base k mn Cs ps sp)(hr:kh k' X.A)(hk:k<=k')(hx:rz (ou X.prog X.w) X E)(ho:PE X o ta)(ha:PA X (e::es) t)
  (hst:autoParam (eQ (e::es) X.env=(false,eval e X.env)::eQ es X.env) Au) (hpl:autoParam ((jq pos (eQ es X.env)).any (·.1)=false) Au)
  (ht:autoParam (eval (.Call (.Attribute o mn apos) (e::es) [] pos) X.env=(do
   let ov <- eval o X.env
   standAt apos.atName
   let(f,first) <- holding [ov] (getMethod ov mn pl)
   callWith pos f first (jq pos (eQ (e::es) X.env)) (backToKw pos (keywordEach [] X.env)))) Au) :
  PE X (.Call (.Attribute o mn apos) (e::es) [] pos) (A2 Cs mn sp E ta t):=by
 let(f,J,F,c,i,n):=G.ex;intro b s σ H Q I h;show W.methodCall_KW (pl:=pl) (iF (ho b s σ H _ I h) λu y ζ=>?_) ht;let(x,z,I1,j,a,C,B,M,p,v,d,l,q):=ζ;subst p;obtain rfl:u=eK a:=j;show GY I1 v (c C d).1 (c C d).2 l ?_;show W.callWith_K (first:=[.ref a]) (h₀:=X.base) I.ok.mod.kin i (iF (ha pos b y σ z _ I1 q) λus D ζ=>?_) hst hpl;let(vs,L,I2,r,g):=ζ;show(I2.kIn,?_);show A6 (us:=.ref a::us) (vs:=.ref a::vs) F (hr.mono hk) n .nil hx I2 (.cons rfl r) (by simpa using g)
theorem oY.m0{pl:Sem Bool}(G:oY X.prog X.w X.K X.mg X.base k mn Cs ps sp)(hr:kh k' X.A)(hk:k<=k')(hx:rz (ou X.prog X.w) X E)(ho:PE X o ta)
  (ht:autoParam (eval (.Call (.Attribute o mn apos) [] [] pos) X.env=(do
   let ov <- eval o X.env
   standAt apos.atName
   let(f,first) <- holding [ov] (getMethod ov mn pl)
   callWith pos f first (jq pos (eQ [] X.env)) (backToKw pos (keywordEach [] X.env)))) Au) :
  PE X (.Call (.Attribute o mn apos) [] [] pos) (A2 Cs mn sp E ta tNil):=by
 let(f,r,F,c,e,i):=G.ex;intro b s σ H Q I h;show W.methodCall_KW (pl:=pl) (iF (ho b s σ H _ I h) λu t ζ=>?_) ht;let(x,n,I1,g,a,C,p,v,j,m,d,l,q):=ζ;subst j;obtain rfl:u=eK a:=g;show GY I1 m (c C d).1 (c C d).2 l ?_;show W.callWith_K0 (first:=[.ref a]) I1.kIn e (A6 (us:=[.ref a]) (vs:=[.ref a]) F (hr.mono hk) i .nil hx I1 (.cons rfl .nil) (show sp ([.ref a]++[]) n Q E from q))
def rMulS:R2:=λx y H Q=>match x,y with
 | .str z, .int n=>0<n/\n<1000/\z.length<=1000/\∀ z':Str,z'.cps.toList=(dF n.toNat z.cps.toList).flatten->Q (.str z') H
 | x,y=>rMulU x y H Q
theorem BY:∀(l:List (Array Nat))(acc:Array Nat),(l.foldl (· ++ ·) acc).toList=acc.toList++(l.map (·.toList)).flatten
 | [],acc=>by simp
 | x::l,acc=>by
  rw[iB,BY l];simp
theorem FY:lU X (iE .Mult) rMulS:=λa s σ H x y v u Q I b d q=>by
 unfold rMulS at q;split at q
 .rename_i z n;let(h,j,f,q):=q;let(t,rfl):=b;let(k,rfl):=d;have i:z.cps.size=z.length:=rfl;have g:z.length*n.toNat<=1000*1000:=Nat.mul_le_mul f ∅;show PySem.P.mul_str (by simp;ac_nf) (λ_ _=>?_) (λ_ _=>?_) ?_
  .have : (1000:Int)<=(2 ^ 63-1)/n:=by
    rw[Int.le_ediv_iff_mul_le h];ac_nf
   ac_nf
  .unfold Builtin.Str.tooLong;simp;have : (1000*1000:Nat)<=sizeLine:=by decide
   ac_nf
  .rw[if_neg ∅];split
   .rename_i c;show(.str z,H,I,⟨_,rfl⟩,q z ?_);rcases Bool.or_eq_true _ _ |>.mp c with c | c
    .obtain rfl:n=1:=by simpa using c
     simp
    .have e:z.cps.toList=[]:=by
      have : z.length=0:=by simpa using c
      show List.eq_nil_of_length_eq_zero (by rw[iA];show this)
     rw[e];simp
   .show(?_, .str _,H,I.tok _,⟨_,rfl⟩,q _ ?_)
    .show(Array.size _)<=sizeLine;rw[<- iA,BY];simp;have : (1000*1000:Nat)<=sizeLine:=by decide
     rw[Nat.mul_comm,i];ac_nf
    .rw[BY];simp
 .show Li a s σ H _ _ v u Q I b d q
def rIsN:R2:=λx y H Q=>y=.non/\Q (.bl (decide (x=.non))) H
def rNotN:R2:=λx y H Q=>y=.non/\Q (.bl (!decide (x=.non))) H
theorem sS:lU X (fY .Is) rIsN:=JE
theorem xN:lU X (fY .IsNot) rNotN:=Lh
def Km(K:aW):List V->Hp->VK->Prop:=λxs H Q=>∃ p ys,xs=[.ref p]/\(fI K H p ys\/gZ K H p ys)/\∀ l,H l=none->Q (.ref l) (upd H l (.lst ys))
theorem G4:lH X (.type "list") (Km X.K):=Om
end
section
variable{K:aW}{x:V}
theorem IY:rIsN x .non H Q=Q (.bl (decide (x=.non))) H:=by simp[rIsN]
theorem IT:rNotN x .non H Q=Q (.bl (!decide (x=.non))) H:=by simp[rNotN]
variable{sp:Sp}{E:XK}
theorem IX{dvs:List V}{t:TA}:oS C sp dvs E t σ H Q=t σ H λvs H1=>∀ x dx,H1 x=none->H1 dx=none->dx≠x->sp (.ref x::(vs++dvs)) (upd (upd H1 dx (.own x)) x (.ins C dx [])) (λv H2=>v=.non/\Q (.ref x) H2) E:=rfl
variable{ta:TE}
theorem IW{Cs:Addr->Prop}{mn:Str}{t:TA}:A2 Cs mn sp E ta t σ H Q=ta σ H λx H1=>∃ a C dx fs,x=.ref a/\H1 a=some (.ins C dx fs)/\Cs C/\fs.lookup mn=none/\t σ H1 λvs H2=>sp (x::vs) H2 Q E:=rfl
theorem kN{f:Str}:ue K ta f σ H Q=ta σ H λx H1=>∃ a C dx fs v,x=.ref a/\H1 a=some (.ins C dx fs)/\Cls K C/\mm K C f/\fs.lookup f=some v/\Q v H1:=rfl
variable{tv:TE}{En:Ends}
theorem me{f:Str}:uh K ta tv f En σ H=tv σ H λy H1=>ta σ H1 λx H2=>∃ a C dx fs,x=.ref a/\H2 a=some (.ins C dx fs)/\Cls K C/\mm K C f/\fs.length<1000/\En.nx σ (upd H2 a (.ins C dx (jL f y fs))):=rfl
theorem Ah{T:String}{r:V->List V->Hp->VK->Prop}{to:TE}{t:TA}:Ed K T r to t σ H Q=to σ H λx H1=>wA K T x H1/\t σ H1 λvs H2=>r x vs H2 Q:=rfl
variable{R:St->Hp->Prop}
theorem Jb{g:TG}{gs:rN}:p5 g gs (v::r) σ H R=g v σ H λσ' H'=>gs r σ' H' R:=by
 unfold p5;show propext ⟨λ⟨b,a,e,h⟩=>?_,λh=>⟨v,r,rfl,h⟩⟩;cases e;show h
theorem Ja:gNil [] σ H R=R σ H:=by unfold gNil;simp
def nonD:D->Bool
 | .non=>true
 | _=>false
variable{l:Addr}
theorem jg(e:upd H l o=H'):H' l=some o:=by rw[<- e,jo]
theorem putN{b:Addr}{o' u:HO}(e:upd H l o=H')(hl:H l=some o')(hb:H b=some u)(ne:u≠o'):H' b=some u:=by
 rw[<- e,fF (nV hb hl ne)];show hb
end
def wC(n s e l g:V):List (Str × V):=[("name",n),("start",s),("end",e),("least",l),("greatest",g)]
section
variable{En:Ends}{ta tb tc:TE}{td:TE}{K:aW}
end
def pE(cells:List (Str × Addr)):List (Str × kH)->List (Str × Addr)->List (Str × Addr)
 | [],acc=>acc
 | (n,k)::r,acc=>pE cells r (if k == .free then(n,(cells.lookup n).getD 0)::acc else acc)
theorem Bn{env:Env}:∀(names:List (Str × kH))(acc:List (Str × Addr)),(∀ p∈names,p.2=.free->∃ c,env.cells.lookup p.1=some c) ->
  (forIn names acc λ(p:Str × kH) cs=>(if p.2 == .free then do let c <- cellOf env p.1;pure (ForInStep.yield ((p.1,c)::cs))else pure (ForInStep.yield cs):Sem (ForInStep (List (Str × Addr)))))=(pure (pE env.cells names acc):Sem (List (Str × Addr)))
 | [],acc,_=>by simp[pE]
 | (n,k)::r,acc,h=>by
  rw[List.forIn_cons];by_cases c:(k == .free)=true
  .let(a,ha):=h (n,k) fM (beq_iff_eq.mp c);have e:cellOf env n=pure a:=by unfold cellOf;rw[ha]
   simp only[c,if_true,e,pure_bind];have:=Bn (env:=env) r ((n,a)::acc) λp hp=>h p (dZ _ hp);simp only[pE,c,if_true,ha,Option.getD_some];show this
  .have c':(k == .free)=false:=by simpa using c
   simp only[c',jX,if_false,pure_bind];have:=Bn (env:=env) r acc λp hp=>h p (dZ _ hp);simp only[pE,c',jX,if_false];show this
theorem FE{env:Env}(h:∀ p∈scope.names,p.2=.free->∃ c,env.cells.lookup p.1=some c):closureFor scope env=pure (pE env.cells scope.names []):=by
 have:=Bn (env:=env) scope.names [] h;unfold closureFor;simp only[pure_bind];show Eq.trans ?_ (congrArg (λm:Sem (List (Str × Addr))=>m >>= pure) this |>.trans (by simp));first | rfl | (congr 1)
variable{cells:List (Str × Addr)}
theorem B5:∀(names:List (Str × kH))(acc:List (Str × Addr)),(∀ x c,acc.lookup x=some c->cells.lookup x=some c)->(∀ p∈names,p.2=.free->∃ c,cells.lookup p.1=some c) ->
  ∀ x c,(pE cells names acc).lookup x=some c->cells.lookup x=some c
 | [],acc,ha,_,x,c,h=>ha x c h
 | (n,k)::r,acc,ha,hf,x,c,h=>by
  simp only[pE]at h;show B5 r _ ?_ (λp hp=>hf p (dZ _ hp)) x c h;intro y d hy;by_cases f:(k == .free)=true
  .rw[if_pos f]at hy;let(a,e):=hf (n,k) fM (beq_iff_eq.mp f);rw[List.lookup_cons]at hy;by_cases q:(y == n)=true
   .rw[q]at hy;have q':y=n:=beq_iff_eq.mp q;subst q';have e':cells.lookup y=some a:=e;rw[e']at hy ⊢;simpa using hy
   .have q':(y == n)=false:=by simpa using q
    rw[q']at hy;show ha y d hy
  .rw[if_neg f]at hy;show ha y d hy
theorem B6:∀(names:List (Str × kH))(acc:List (Str × Addr))(y:Str),((∃ c,acc.lookup y=some c)\/(y,kH.free)∈names)->∃ c,(pE cells names acc).lookup y=some c
 | [],acc,y,h=>by
  rcases h with h | h
  .show h
  .simp at h
 | (n,k)::r,acc,y,h=>by
  simp only[pE];show B6 r _ y ?_;rcases h with⟨c,h⟩ | h
  .show .inl ?_;split
   .rw[List.lookup_cons];cases(y == n)
    .show(c,h)
    .show(_,rfl)
   .show(c,h)
  .rcases eP.mp h with e | h
   .cases e;show .inl ?_;rw[if_pos ⋯,List.lookup_cons];simp
   .show .inr h
theorem FS(hcell:∀ y∈scope.names,y.2≠.cell){y:Str}(hy:(iR scope X.env).names.lookup y=some .cell\/(iR scope X.env).names.lookup y=some .free):(y,kH.free)∈scope.names:=by
 have d:∀ k,(k=.cell\/k=.free)->(iR scope X.env).names.lookup y=some k->(y,kH.free)∈scope.names:=λk h e=>by
  have m:=iZ e;let((n,f),b,g):=di.mp (show(y,k)∈scope.names.map _ from m);have a:(if(f == kH.free&&X.env.scope.kind == .function&&X.env.kindOf n == some .cell)=true then(n,kH.cell)else(n,f))=(y,k):=g;split at a
  .rename_i c;rw[gr,gr]at c;have:=beq_iff_eq.mp c.1.1;subst this;cases a;show b
  .cases a;rcases h with rfl | rfl
   .show absurd rfl (hcell _ b)
   .show b
 rcases hy with hy | hy
 .show d _ (.inl rfl) hy
 .show d _ (.inr rfl) hy
variable{wi:TI}
theorem qG{cs:List (Nat × Str)}{g:TG}(hc:X.calm=true)(hi:PI X tg iter wi)
  (hg:∀ fp s2 H2 C,PG (X.inc (own++cs.map (·.2)) scope (pE X.env.cells scope.names []) fp s2 H2 C) tg g) (ht:∀ fp s2 H2 C,xy (X.inc (own++cs.map (·.2)) scope (pE X.env.cells scope.names []) fp s2 H2 C) ifs tt) (he:∀ fp s2 H2 C,PE (X.inc (own++cs.map (·.2)) scope (pE X.env.cells scope.names []) fp s2 H2 C) elt te)
  (hfree:∀ p∈scope.names,p.2=.free->X.env.scope.names.lookup p.1=some .cell) (hcell:∀ y∈scope.names,y.2≠.cell) (hkind:scope.kind=.function) (hnames:∀ y∈scope.names,y.2=.local->scope.names.lookup y.1=some .local)
  (hcs:∀ p∈cs,X.N[p.1]?=some p.2/\X.env.scope.names.lookup p.2=some .cell/\(iR scope X.env).names.lookup p.2=some .cell)
  (hs:autoParam (∀ x,foldedSetIterable iter X.env x=pure x) Au):PE X (.ListComp elt [⟨tg,iter,ifs,0⟩] scope pos) (uB own.length cs wi g tt te):=by
 intro a s σ H Q I h;have d:∀ p∈scope.names,p.2=.free->∃ c,X.env.cells.lookup p.1=some c:=λp u r=>I.ok.has p.1 (.inl (hfree p u r));have i:=B5 (cells:=X.env.cells) scope.names [] (λ_ _ z=>by simp at z) d;rw[eval_ListComp];show wpAny_comprehension_free (use:=none) rfl hs (FE d) hkind hnames (iF (hi a s σ H _ I h) λv Y E=>iF E λL s2 t=>?_);let(V,fp,S,J,H2,rfl,I2,T,l,M,W,(O,o),b):=t;show G2 (QN:=λn m=>∀ p,m p=none->Q (.ref p) (upd m p (.lst n))) (RR:=λf C=>compPost (eO X.prog X.w) X.A X.xe none (EP X a σ Q) f C) hc hg ht he hcell hkind i (λz K=>B6 scope.names [] z (.inr (FS hcell K))) hcs I2 T l M o b ?_;intro D' C P m n j G Z R F U q;let(B,k):=F;show(B,k,λD e=>⟨.ref D',_,j D e,rfl,q D' G⟩)
theorem qM{e:Expr}{k:Nat}{cs:List (Nat × Str)}{g:TG}(h:PE X e (uB k cs wi g tYes te)):PE X e (oU k cs wi g te):=h
theorem o7{sc:Scope}(h:scope.names.all (λp=>p.2 != .free||(sc.names.lookup p.1 == some .cell))=true):∀ p∈scope.names,p.2=.free->sc.names.lookup p.1=some .cell:=λp a b=>by
 have z:=List.all_eq_true.mp h p a;rw[b]at z;simpa using z
theorem qu{i:Nat}(a:X.N[i]?=some x)(b:X.env.scope.names.lookup x=some .cell)(c:(iR scope X.env).names.lookup x=some .cell) :
  ∀ p∈[(i,x)],X.N[p.1]?=some p.2/\X.env.scope.names.lookup p.2=some .cell/\(iR scope X.env).names.lookup p.2=some .cell:=λp d=>by
 rcases bf.mp d with rfl
 show(a,b,c)
variable{j:Nat}{y:Str}
theorem xl{i:Nat}(a:X.N[i]?=some x)(b:X.env.scope.names.lookup x=some .cell)(c:(iR scope X.env).names.lookup x=some .cell)
  (a':X.N[j]?=some y) (b':X.env.scope.names.lookup y=some .cell) (c':(iR scope X.env).names.lookup y=some .cell) :
  ∀ p∈[(i,x),(j,y)],X.N[p.1]?=some p.2/\X.env.scope.names.lookup p.2=some .cell/\(iR scope X.env).names.lookup p.2=some .cell:=λp d=>by
 rcases eP.mp d with rfl | d
 .show(a,b,c)
 .rcases bf.mp d with rfl
  show(a',b',c')
theorem FL(hb:1<=b)(h:Mth.g a b=1):Mth.top (0*b-a*1) (1*b) = -a/\Mth.bot (0*b-a*1) (1*b)=b:=by
 have e:(0*b-a*1:Int) = -a:=by simp
 have d:(1*b:Int)=b:=by simp
 rw[e,d];have c:b≠0:=by ac_nf
 have u:=Mth.Hh (Mth.IC (t:=-a) c) hb (Mth.g_low (t:=-a) c) (by rw[Mth.g_neg];show h) (Mth.cross (t:=-a) c);show u
theorem y6{spos py:Pos}{cs:List (Nat × Str)}{g:TG}(hN:X.N.Nodup)(hj:X.N[j]?=some y)(hy:Loc X.env.scope y)(hc:X.calm=true)(hi:PI X tg iter wi)
  (hg:∀ fp s2 H2 C,PG (X.inc (own++cs.map (·.2)) scope (pE X.env.cells scope.names []) fp s2 H2 C) tg g) (ht:∀ fp s2 H2 C,xy (X.inc (own++cs.map (·.2)) scope (pE X.env.cells scope.names []) fp s2 H2 C) ifs tt) (he:∀ fp s2 H2 C,PE (X.inc (own++cs.map (·.2)) scope (pE X.env.cells scope.names []) fp s2 H2 C) elt te)
  (hfree:∀ p∈scope.names,p.2=.free->X.env.scope.names.lookup p.1=some .cell) (hcell:∀ y∈scope.names,y.2≠.cell) (hkind:scope.kind=.function) (hnames:∀ y∈scope.names,y.2=.local->scope.names.lookup y.1=some .local)
  (hcs:∀ p∈cs,X.N[p.1]?=some p.2/\X.env.scope.names.lookup p.2=some .cell/\(iR scope X.env).names.lookup p.2=some .cell)
  (hsw:autoParam (swapsWith (.ListComp elt [⟨tg,iter,ifs,0⟩] scope pos) (some (.Name y py)) spos.line X.env=pure true) Au)
  (hs:autoParam (∀ x,foldedSetIterable iter X.env x=pure x) Au) (hf:autoParam (X.fn y=true\/X.env.scope.names.lookup y=some .local) Au) :
  PS X (.Assign [.Name y py] (.ListComp elt [⟨tg,iter,ifs,0⟩] scope pos) spos) (qp (uB own.length cs wi g tt te) (p4 j)):=by
 intro d s σ H D I h;have k:∀ p∈scope.names,p.2=.free->∃ c,X.env.cells.lookup p.1=some c:=λp r P=>I.ok.has p.1 (.inl (hfree p r P));have w:=B5 (cells:=X.env.cells) scope.names [] (λ_ _ z=>by simp at z) k;rw[exec_Assign_Name_used _ _ _ _ hsw];show du (wpAny_standAt (du ?_));show ei _ X.A (do let _ <- comprehension (.ListComp elt [⟨tg,iter,ifs,0⟩] scope pos) scope X.env _ (newList []) false (eval iter X.env) (some (assign (.Name y py) X.env))) _ _ s;show du (gB (wpAny_comprehension_free (use:=some (assign (.Name y py) X.env)) (Q:=λ_ L=>SP X d D .next L) rfl hs (FE k) hkind hnames
  (iF (hi d s σ H _ I h) λv s1 h1=>iF h1 λa0 s2 R=>?_)) (λ_ L S=>dU (dU S)) λ_ _ e=>e)
 let(it,fp,tn,J,H2,rfl,I2,T,F,f2,W,(m0,O),i):=R;show G2 (QN:=λu l=>∀ p,l p=none->D.nx (σ.set j (some (.ref p))) (upd l p (.lst u))) hc hg ht he hcell hkind w (λz hz=>B6 scope.names [] z (.inr (FS hcell hz))) hcs I2 T F f2 O i ?_;intro D' C t l u B dN cN V hm f q;let(Y,E):=hm;have I8:Inv X d σ (upd l D' (.lst u)) t:=B t.heap (lC.refl _ _);show ei _ X.A (assign (.Name y py) X.env (.ref D')) _ _ t;show wpAny_assign_Name (GA (v:=.ref D') I8 hN hj hy rfl (λZ I7 G=>?_) hf);let(a,M,K):=G;have nC:C≠a:=by
  rcases K with rfl | K
  .show gT (dO I2.lt f)
  .let(v,o,n,_):=I2.cell y a K;show gT (dO (dE n) f)
 show(Y,E.sameBut M nC,λh8 m=>⟨_,_,?_,q D' dN⟩);show I7.turned (it:=C) (t':=Z.toks) (λb o U e=>(m.2 b U).trans e) (by rw[fF (gk V)];show cN) (gT (dO I2.lt f)) (.inr (fG I2.sz f)) (λx c e z=>by
  let(v,o,n,_):=I2.cell x c e;show absurd (dO (dE n) f) (by rw[z];show ju _)) (λp r z=>absurd (dO (dE (I2.pin p r).1) f) (by rw[z];show ju _))
theorem EV{st:Stmt}{k:Nat}{cs:List (Nat × Str)}{g:TG}{gn:TG}(h:PS X st (qp (uB k cs wi g tYes te) gn)):PS X st (qp (oU k cs wi g te) gn):=h
section
variable{h':Heap}{s:da}
theorem Inv.turnedL{t':Nat}{ch:List Addr}(I:Inv X pins σ H s)(k:∀ b o,b∉ch->s.heap.get? b=some o->h'.get? b=some o)(hf:∀ b∈ch,nY X pins H b):Inv X pins σ H { s with heap:=h',toks:=t' }:=by
 have d:∀ b u,H b=some u->b∉ch:=λb u e z=>by rw[(hf b z).1]at e;cases e
 show I.step (g':=s.gens) (d':=s.drawn) (ch:=ch) (λb g=>?_) (λb o _ _ a e _=>k b o a e) (λb o _ _ a e _=>⟨o.slots,k b o a e⟩) (λ_ _ _ _ n=>n)
  (λb o a e=>⟨o,k b o a e⟩) (λ_ _ e=>e) (λ_ _ _ e=>e) (λb x e=>⟨#[],by rw[e];simp⟩) (λm p=>?_) (λb u e=>?_) I.bare
 .let(_,w,_,t,l,j):=hf b g;show(t,w,l,j)
 .let(o,i,h,f,r):=p;show(o,i,h,k _ o (λz=>(hf _ z).2.1 rfl) f,r)
 .show(I.hok b u e).stay (λc v a q=>k c v ?_ q) (λ_ q=>q) λ_ _ q=>q;rcases a with z | z
  .rw[z];show d b u e
  .show d c _ z
end
theorem za(n a b:Nat)(h1:a<n)(h2:b<n):ZipApart (n+4) (n+2) (n+3) n (n+1) a b where
 TIz:=dI (show n+2<n+4 by ac_nf)
 TOz:=dI (show n+3<n+4 by ac_nf)
 i1z:=dI (show n<n+4 by ac_nf)
 i2z:=dI (show n+1<n+4 by ac_nf)
 TITO:=dI (show n+2<n+3 by ac_nf)
 TIi1:=gT (show n<n+2 by ac_nf)
 TIi2:=gT (show n+1<n+2 by ac_nf)
 TOi1:=gT (show n<n+3 by ac_nf)
 TOi2:=gT (show n+1<n+3 by ac_nf)
 i12:=dI (show n<n+1 by ac_nf)
 l1z:=dI (show a<n+4 by ac_nf)
 l1TO:=dI (show a<n+3 by ac_nf)
 l1i1:=dI (show a<n by ac_nf)
 l1i2:=dI (show a<n+1 by ac_nf)
 l2z:=dI (show b<n+4 by ac_nf)
 l2TO:=dI (show b<n+3 by ac_nf)
 l2i1:=dI (show b<n by ac_nf)
 l2i2:=dI (show b<n+1 by ac_nf)
def zf(K:aW)(a b:Addr):It :=
  ⟨λi H=>∃ xs ys x y,fI K H a xs/\fI K H b ys/\xs[i]?=some x/\ys[i]?=some y,
   λi H v H'=>∃ p x y,(∀ xs,fI K H a xs->xs[i]?=some x)/\(∀ ys,fI K H b ys->ys[i]?=some y)/\H p=none/\v=.ref p/\H'=upd H p (.tup [x,y]),
   λi H=>∃ xs ys,fI K H a xs/\fI K H b ys/\(xs.length<=i\/ys.length<=i)⟩
variable{elts:List Expr}{x1:Nat}{tp:Pos}
theorem LA{w:fA}{K:aW}{z TI TO i1 i2 a b:Addr}(D:ZipApart z TI TO i1 i2 a b) :
  Turn P w K (.Tuple elts x1 tp) (zf K a b) [z,TI,TO,i1,i2] z (λi h=>IsZip h z TI TO .none/\IsPair h TI (.ref i1) (.ref i2)/\(∃ u v,IsPair h TO u v)/\h.IsListIter i1 a i/\h.IsListIter i2 b i) where
 mem:=by simp
 obj:=λi h m c f=>by
  let(r,g,(u,v,j),F,t):=m;simp only[eP,iw,or_false]at f;rcases f with rfl | rfl | rfl | rfl | rfl
  .show(_,r,λv z=>by cases z)
  .show(_,g,λv z=>by cases z)
  .show(_,j,λv z=>by cases z)
  .let(o,e,c,d):=F;show(o,e,λv z=>by rw[d]at z;cases z)
  .let(o,e,c,d):=t;show(o,e,λv z=>by rw[d]at z;cases z)
 keep:=λi h S m k=>by
  let(r,g,(u,v,j),F,t):=m;show(k z (by simp) _ r,k TI (by simp) _ g,⟨u,v,k TO (by simp) _ j⟩,F.at λo e=>k i1 (by simp) o e,t.at λo e=>k i2 (by simp) o e)
 item:=by
  intro X Y hw Z f i C s σ H E I J m U;subst Y hw Z;let(r,g,(u,v,j),F,t):=m;let(xs,ys,x,y,L,N,hx,hy):=U;let(a0,T,R,zx):=I.list L;let(b2,ry,O,zy):=I.list N;let(ux,b1,a8):=T.get hx;let(uy,a7,a9):=ry.get hy;show wpAny_pyNext_zip_item D r g j F t R.isList O.isList (x:=ux) (y:=uy) (by simpa using b1) (by simpa using a7) λS a1 a2 a3 a4 a5 a6 M=>?_;show(_,rfl,?_);show wpAny_letOwnedTupleGo_zip (s:={ s with heap:=S }) a1 λG b0 l=>?_;have B:∀{c o},s.heap.get? c=some o->c≠s.heap.objs.size:=λe=>dI (dE e);have nz:s.heap.objs.size≠z:=λq=>B r q.symm;have I1:Inv X C σ H { s with heap:=G,toks:=s.toks }:=I.turnedL (ch:=[z,TI,TO,i1,i2]) (λc o f e=>by
   simp only[eP,iw,or_false,not_or]at f;show l.extBut _ _ f.1 (M c o f.1 f.2.2.1 f.2.2.2.1 f.2.2.2.2 e)) J
  have fr:H s.heap.objs.size=none:=I.hok.fresh (dh _);have hT:G.get? s.heap.objs.size=some { cls:=.type "tuple",data:=.seq #[ux,uy] }:=l.extBut _ _ nz a5;have I2:=I1.track (a:=s.heap.objs.size) (o:=.tup [x,y]) fr (Heap.get?_none_of_le I.sz) (gT I.lt) (λn c e q=>by
   let(v,o,ho,_):=I.cell n c e;show B ho q) (λp hp q=>B (I.pin p hp).1 q) ⟨by show 2<=sizeLine;decide,[ux,uy], .cons a8 (.cons a9 .nil),⟨_,hT,rfl,_,rfl⟩⟩
  show(.ref s.heap.objs.size,_,I2,rfl,⟨_,x,y,λzs q=>by rw[I.list_inj q L];show hx,λzs q=>by rw[I.list_inj q N];show hy,fr,rfl,rfl⟩,?_,λc f=>?_)
  .show(b0,l.extBut _ _ D.TIz (M _ _ D.TIz D.TITO D.TIi1 D.TIi2 g),⟨_,_,l.extBut _ _ D.TOz a2⟩,a3.extBut l.extBut D.i1z,a4.extBut l.extBut D.i2z)
  .have ne:c≠s.heap.objs.size:=by
    simp only[eP,iw,or_false]at f;rcases f with rfl | rfl | rfl | rfl | rfl
    .show B r
    .show B g
    .show B j
    .let(o,e,_):=F;show B e
    .let(o,e,_):=t;show B e
   rw[fF ne];show(J c f).1
 done:=by
  intro X Y hw Z f i C s σ H E I J m U;subst Y hw Z;let(r,g,(u,v,j),F,t):=m;let(xs,ys,L,N,V):=U;let(a0,T,R,zx):=I.list L;let(b2,ry,O,zy):=I.list N;have lx:=T.length;have ly:=ry.length;show wpAny_pyNext_zip_end (I.ok.hd f) D r g j F t R.isList O.isList (by
   rcases V with V | V
   .show .inl (by simp;ac_nf)
   .show .inr (by simp;ac_nf)) λS M=>⟨rfl,?_⟩
  show I.turnedL (t':=s.toks) (ch:=[z,TI,TO,i1,i2]) (λc o f e=>by
   simp only[eP,iw,or_false,not_or]at f;show M c o f.1 f.2.2.1 f.2.2.2.1 f.2.2.2.2 e) J
 self:=λA i s Q E m q=>wpAny_pyIter_zip m.1 q
def xi(K:aW)(ta:TA):TI:=λσ H R=>ta σ H λvs H1=>∃ a b,vs=[.ref a, .ref b]/\(∃ xs,fI K H1 a xs)/\(∃ ys,fI K H1 b ys)/\R (zf K a b) H1
theorem EX{a b:Expr}{p:Pos}(hg:Gl X "zip")(hm:X.mg "zip"=none)(hv:fo "zip"=some (.type "zip"))(ha:PA X [a,b] ta)
  (he:autoParam (eQ [a,b] X.env=(false,eval a X.env)::eQ [b] X.env) Au) (hpl:autoParam ((jq pos (eQ [b] X.env)).any (·.1)=false) Au) :
  PI X (.Tuple elts x1 tp) (.Call (.Name "zip" p) [a,b] [] pos) (xi X.K ta):=by
 intro g s σ H R I h;show gK (sM I hg hm hv ?_);show gM (iF (ha pos g s σ H _ I h) λV d ζ=>?_) he hpl;let(P,L,I1,y,B):=ζ;let(i,j,e,(T,A),(S,x),q):=B;subst e;let(u,v,rfl,F,G):=vals2 y;cases(show u=eK i from F);cases(show v=eK j from G);let(z,O,l,U):=I1.list A;let(J,W,k,M):=I1.list x;have o:i<d.heap.objs.size:=by let(_,e,_):=l.isList;show dE e
 have w:j<d.heap.objs.size:=by let(_,e,_):=k.isList;show dE e
 show call_zip_2 l.isList k.isList λN n C t D E Q r=>?_;have ZA:ZipApart (d.heap.objs.size+4) (d.heap.objs.size+2) (d.heap.objs.size+3) d.heap.objs.size (d.heap.objs.size+1) i j:=za _ i j o w;show wpAny_pyIter_zip n ?_;show(d.heap.objs.size+4,[d.heap.objs.size+4,d.heap.objs.size+2,d.heap.objs.size+3,d.heap.objs.size,d.heap.objs.size+1],_,_,L,rfl,I1.kept (t':=d.toks) r,LA ZA,⟨n,C,⟨_,_,t⟩,D,E⟩,λc m=>?_,q);have f:d.heap.objs.size<=c:=by
  simp only[eP,iw,or_false]at m;rcases m with rfl | rfl | rfl | rfl | rfl
  .show Nat.le_add_right _ _
  .show Nat.le_add_right _ _
  .show Nat.le_add_right _ _
  .show dh _
  .show Nat.le_add_right _ _
 show I1.fpOk f (I1.hok.fresh f)
section
variable{ty tv tx:TE}{En:Ends}{td:TE}{K:aW}
theorem Jq:tJ td ty σ H Q=td σ H λx H1=>ty σ H1 λy H2=>∃ a v,x=.ref a/\gE H2 a y (some v)/\Q v H2:=rfl
theorem Ji:tL td ty tv En σ H=tv σ H λv H1=>td σ H1 λx H2=>ty σ H2 λy H3=>∃ a H4,x=.ref a/\jY H3 a y v H4/\En.nx σ H4:=rfl
theorem Jk:EG σ H Q=∀ p,H p=none->Q (.ref p) (upd H p (.dK [])):=rfl
end
theorem jt{a b:Nat}(h:a+64<b):a+1<b:=by ac_nf
def rMul0:R2:=λx y H Q=>match x,y with
 | .str z, .int n=>0<=n/\n<1000/\z.length<=1000/\∀ z':Str,z'.cps.toList=(dF n.toNat z.cps.toList).flatten->Q (.str z') H
 | x,y=>rMulS x y H Q
theorem nP:lU X (iE .Mult) rMul0:=λa s σ H x y v u Q I b c q=>by
 unfold rMul0 at q;split at q
 .rename_i z n;let(g,f,d,q):=q;by_cases e:n=0
  .subst e;let(t,rfl):=b;let(h,rfl):=c;show PySem.P.mul_str_none ⋯ ⋯ ⟨.str _,H,I.tok _,⟨_,rfl⟩,q Str.empty rfl⟩
  .show FY a s σ H _ _ v u Q I b c ⟨∅,f,d,q⟩
 .show FY a s σ H _ _ v u Q I b c q
section
variable{ty:TE}{K:aW}{td:TE}
theorem IV{i j:Int}:rMul0 (.int i) (.int j) H Q=(mv i j/\Q (.int (i*j)) H):=rfl
theorem Jo:EI td ty σ H Q=td σ H λx H1=>∃ a,x=.ref a/\vb H1 a/\ty σ H1 λy H2=>∃ o,gE H2 a y o/\Q (o.getD .non) H2:=rfl
end
variable{a:Addr}
theorem jj.byL{K:aW}{g:TG}{D:Ends}(hA:fI K H a xs)(Pv:Nat->St->Hp->Prop)(h0:Pv 0 σ H)(hl:∀ i σ H',Pv i σ H'->fI K H' a xs)
  (hs:∀ i x σ H,xs[i]?=some x->Pv i σ H->g x σ H λσ2 H2=>tb { D with nx:=Pv (i+1),ct:=Pv (i+1),bk:=D.nx } σ2 H2) (hd:∀ σ H,Pv xs.length σ H->D.nx σ H):jj K a g tb D σ H:=by
 show .inl ⟨⟨xs,hA⟩,λi m σ H=>Pv i σ H/\i<=xs.length/\m=xs.length-i,⟨_,h0,dG _,rfl⟩,?_⟩;rintro i m σ H ⟨c,h,rfl⟩;have d:=hl i σ H c;by_cases b:i<xs.length
 .show .inr ⟨⟨xs,xs[i],d,aV b⟩,Pv (i+1),λσ' H' p=>⟨_,jf b (ik i),p,b,rfl⟩,?_⟩;rintro x H' ⟨rfl,f⟩;show hs i x σ _ (f xs d) c
 .have e:i=xs.length:=by ac_nf
  subst e;show .inl ⟨⟨xs,d,dh _⟩,hd σ H c⟩
def ni(J:It)(g:TG)(tb:TS)(D:Ends)(σ : St)(H:Hp):Prop:=∃ W:Nat->Nat->St->Hp->Prop,(∃ m,W 0 m σ H)/\∀ i m σ H,W i m σ H ->
 (J.stop i H/\D.nx σ H)\/(J.go i H/\∃ N:St->Hp->Prop,(∀ σ' H',N σ' H'->∃ m',m'<m/\W (i+1) m' σ' H')/\∀ x H',J.yld i H x H'->g x σ H' λσ2 H2=>tb { D with nx:=N,ct:=N,bk:=D.nx } σ2 H2)
theorem Jc{K:aW}{g:TG}{D:Ends}:oT (xi K ta) g tb D σ H=ta σ H λvs H1=>∃ a b,vs=[.ref a, .ref b]/\(∃ xs,fI K H1 a xs)/\(∃ ys,fI K H1 b ys)/\ni (zf K a b) g tb D σ H1:=rfl
theorem ni.zip{K:aW}{b:Addr}{ys:List V}{g:TG}{D:Ends}(Pv:Nat->St->Hp->Prop)(h0:Pv 0 σ H)(hl:∀ i σ H',Pv i σ H'->fI K H' a xs/\fI K H' b ys)
  (hs:∀ i x y σ H p H',xs[i]?=some x->ys[i]?=some y->Pv i σ H->H p=none->dC H H'->H' p=some (.tup [x,y])->g (.ref p) σ H' λσ2 H2=>tb { D with nx:=Pv (i+1),ct:=Pv (i+1),bk:=D.nx } σ2 H2)
  (hd:∀ σ H,Pv (min xs.length ys.length) σ H->D.nx σ H):ni (zf K a b) g tb D σ H:=by
 show(λi m σ H=>Pv i σ H/\i<=min xs.length ys.length/\m=min xs.length ys.length-i,⟨_,h0,dG _,rfl⟩,?_);rintro i m σ H ⟨d,q,rfl⟩;let(c,f):=hl i σ H d;by_cases j:i<min xs.length ys.length
 .have l:i<xs.length:=by ac_nf
  have n:i<ys.length:=by ac_nf
  show .inr ⟨⟨xs,ys,xs[i],ys[i],c,f,aV l,aV n⟩,Pv (i+1),λσ' H' p=>⟨_,jf j (ik i),p,j,rfl⟩,?_⟩;intro v H' z_;let(p,x,y,o,k,h,rfl,rfl):=z_;show hs i x y σ H p _ (o xs c) (k ys f) d h (se h rfl) (sh rfl)
 .have e:i=min xs.length ys.length:=by ac_nf
  subst e;show .inl ⟨⟨xs,ys,c,f,∅⟩,hd σ H d⟩
theorem Ew{K:aW}{cs:List (Nat × Str)}{k:Nat}{g:TG}{H1:Hp}(Pv:Nat->List V->Hp->Prop)(h0:Pv 0 [] H1)(hl:∀ i ys H',i<=xs.length->Pv i ys H'->fI K H' a xs/\ys.length<=sizeLine)
  (hs:∀ i x ys H2,xs[i]?=some x->Pv i ys H2->g x (dF k none++mw cs σ) H2 λσ4 H4=>tt σ4 H4 λb H5=>if b=true then te σ4 H5 λy H6=>Pv (i+1) (ys++[y]) H6 else Pv (i+1) ys H5) (hd:∀ ys H2,Pv xs.length ys H2->∀ p,H2 p=none->Q (.ref p) (upd H2 p (.lst ys))) :
  ∃ W:Nat->Nat->List V->Hp->Prop,(∃ m,W 0 m [] H1)/\∀ i m ys H2,W i m ys H2->ys.length<=sizeLine/\(((qS K a).stop i H2/\∀ p,H2 p=none->Q (.ref p) (upd H2 p (.lst ys))) \/
   ((qS K a).go i H2/\∀ x H3,(qS K a).yld i H2 x H3->g x (dF k none++mw cs σ) H3 λσ4 H4=>tt σ4 H4 λb H5=>if b=true then te σ4 H5 λy H6=>∃ m',m'<m/\W (i+1) m' (ys++[y]) H6 else∃ m',m'<m/\W (i+1) m' ys H5)):=by
 show(λi m ys H2=>Pv i ys H2/\i<=xs.length/\m=xs.length-i,⟨_,h0,dG _,rfl⟩,?_);rintro i m ys H2 ⟨d,o,rfl⟩;let(f,n):=hl i ys H2 o d;show(n,?_);by_cases h:i<xs.length
 .show .inr ⟨⟨xs,xs[i],f,aV h⟩,?_⟩;rintro x H3 ⟨rfl,l⟩;have w:∀(j:List V)(H5:Hp),Pv (i+1) j H5=∃ m',m'<xs.length-i/\Pv (i+1) j H5/\i+1<=xs.length/\m'=xs.length-(i+1):=λj H5=>
   propext ⟨λq=>⟨_,jf h (ik i),q,h,rfl⟩,λζ=>by let(_,_,q,_):=ζ;show q⟩
  have r:(λ(y:V)(H6:Hp)=>Pv (i+1) (ys++[y]) H6)=λy H6=>∃ m',m'<xs.length-i/\Pv (i+1) (ys++[y]) H6/\i+1<=xs.length/\m'=xs.length-(i+1):=by
   funext y H6
   show w _ _
  have e:(λ(σ4:St)(H4:Hp)=>tt σ4 H4 λb H5=>if b=true then te σ4 H5 λy H6=>Pv (i+1) (ys++[y]) H6 else Pv (i+1) ys H5)=λσ4 H4=>tt σ4 H4 λb H5=>if b=true then te σ4 H5 λy H6=>∃ m',m'<xs.length-i/\Pv (i+1) (ys++[y]) H6/\i+1<=xs.length/\m'=xs.length-(i+1)else∃ m',m'<xs.length-i/\Pv (i+1) ys H5/\i+1<=xs.length/\m'=xs.length-(i+1):=by
   funext σ4 H4
   congr 1
   funext b H5
   by_cases c:b=true
   .rw[if_pos c,if_pos c, <- r]
   .rw[if_neg c,if_neg c];show w ys H5
  have:=hs i x ys _ (l xs f) d;rw[e]at this;show this
 .have e:i=xs.length:=by ac_nf
  subst e;show .inl ⟨⟨xs,f,dh _⟩,hd ys H2 d⟩
end L2
namespace Ch
open PySem
structure TD where
 nm:Str
 st:Str
 en:Str
 lo:Option (Int × Int)
 hi:Option (Int × Int)
structure SD where
 src:Str
 dst:Str
 c:Int × Int
 nm:Str
 fw:Bool
def fwd(t:TD):List SD:=match t.hi with
 | some h=>[⟨t.st,t.en,h,t.nm,true⟩]
 | none=>[]
def bwd(t:TD):List SD:=match t.lo with
 | some l=>[⟨t.en,t.st,(-l.1,l.2),t.nm,false⟩]
 | none=>[]
def steps(t:TD):List SD:=fwd t++bwd t
def all(ts:List TD):List SD:=ts.flatMap steps
abbrev Pr:=Str × Bool
def key(s:SD):Pr:=(s.nm,s.fw)
def xf(acc:Option SD)(ss:List SD)(k:Pr):Option SD:=ss.foldl (λa s=>if key s=k then some s else a) acc
def last(ss:List SD)(k:Pr):Option SD:=xf none ss k
theorem LY{t:TD}{s:SD}(h:s∈steps t):s.nm=t.nm:=by
 unfold steps fwd bwd at h;rcases dk.mp h with h | h
 .split at h
  .simp at h;rw[h]
  .simp at h
 .split at h
  .simp at h;rw[h]
  .simp at h
def fE(a c:Int × Int):Int × Int:=(Mth.top (a.1*c.2+c.1*a.2) (a.2*c.2),Mth.bot (a.1*c.2+c.1*a.2) (a.2*c.2))
structure FOk(n:Nat)(a:Int × Int):Prop where
 s1:Mth.Sz n a.1
 s2:Mth.Sz n a.2
 b1:1<=a.2
 g1:Mth.g a.1 a.2=1
end Ch
namespace L2
open PySem PySem.Spec PyProof.Rows Ch
def isTF:HO->Bool
 | .tup _=>true
 | .frz _ _=>true
 | _=>false
def dH(H H':Hp):Prop:=∀ b u,isTF u=true->H b=some u->H' b=some u
theorem dH.refl(H:Hp):dH H H:=λ_ _ _ h=>h
variable{H H1:Hp}
theorem dH.trans{H2:Hp}(a:dH H H1)(b:dH H1 H2):dH H H2:=λc o t h=>b c o t (a c o t h)
variable{H':Hp}
theorem dC.t(a:dC H H'):dH H H':=λb u _ h=>a b u h
theorem dH.put{l:Addr}{o o':HO}(e:upd H l o=H')(hl:H l=some o')(ht:isTF o'=false):dH H H':=λb u t h=>by
 rw[<- e,fF (nV h hl λq=>by rw[q,ht]at t;cases t)];show h
variable{xs:List V}
theorem gZ.sameT{K:aW}{a:Addr}(e:dH H H')(h:gZ K H a xs):gZ K H' a xs:=by
 rcases h with(h | ⟨o,h⟩) | h
 .show .inl (.inl (e _ _ rfl h))
 .show .inl (.inr ⟨o,e _ _ rfl h⟩)
 .show .inr h
variable{v:V}{b:Int}
theorem fO.sameT{K:aW}{a:Int}(S:dH H H')(h:fO K H v a b):fO K H' v a b:=by
 let(p,e,q):=h;show(p,e,q.sameT S)
def og(a:Int × Int):D:=.tup [.int a.1, .int a.2]
def bD:Option (Int × Int)->D
 | none=>.non
 | some a=>og a
def qV(t:TD):D:=.tup [.str t.nm, .str t.st, .str t.en,bD t.lo,bD t.hi]
def BV(K:aW)(H:Hp):Option (Int × Int)->V->Prop
 | none,v=>v=.non
 | some a,v=>fO K H v a.1 a.2
variable{o:Option (Int × Int)}
theorem BV.rep{K:aW}(h:BV K H o v):Rep K H (bD o) v:=by
 cases o with
 | none=>simp only[bD,Rep];show h
 | some a=>show fO.rep h
theorem BV.sameT{K:aW}(S:dH H H')(h:BV K H o v):BV K H' o v:=by
 cases o with
 | none=>show h
 | some a=>show fO.sameT S h
def TV(K:aW)(H:Hp)(t:TD)(x:V):Prop:=∃ b vl vg,x=.ref b/\gZ K H b [.str t.nm, .str t.st, .str t.en,vl,vg]/\BV K H t.lo vl/\BV K H t.hi vg
def PV(K:aW)(H:Hp)(s:SD)(x:V):Prop:=∃ b v,x=.ref b/\gZ K H b [.str s.src, .str s.dst,v, .bl s.fw]/\fO K H v s.c.1 s.c.2
def CV(H:Hp)(c:Pr)(x:V):Prop:=∃ b,x=.ref b/\H b=some (.tup [.str c.1, .bl c.2])
section
variable{K:aW}{x:V}
theorem TV.sameT{t:TD}(S:dH H H'):TV K H t x->TV K H' t x:=by rintro⟨b,vl,d,e,q,a,c⟩;show(b,vl,d,e,q.sameT S,a.sameT S,c.sameT S)
theorem PV.sameT{s:SD}(S:dH H H'):PV K H s x->PV K H' s x:=by rintro⟨b,v,e,q,h⟩;show(b,v,e,q.sameT S,h.sameT S)
variable{c:Pr}
theorem CV.sameT(S:dH H H'):CV H c x->CV H' c x:=λζ=>by let(b,e,q):=ζ;show(b,e,S _ _ rfl q)
theorem TV.rep{t:TD}:TV K H t x->Rep K H (qV t) x:=by
 rintro⟨b,vl,d,e,q,a,c⟩;simp only[qV,Rep,iJ];show(b,_,e,q,_,_,rfl,rfl,_,_,rfl,rfl,_,_,rfl,rfl,_,_,rfl,a.rep,_,_,rfl,c.rep,rfl)
end
variable{α:Type}
def fh(P : α->V->Prop):List α->List V->Prop
 | [],xs=>xs=[]
 | a::as,xs=>∃ x r,xs=x::r/\P a x/\fh P as r
section
variable{P P' : α->V->Prop}
theorem fh.mono:∀{as:List α}{xs:List V},(∀ a x,P a x->P' a x)->fh P as xs->fh P' as xs
 | [],_,_,h=>h
 | a::as,xs,f,h=>by
  let(x,r,e,h1,h2):=h;show(x,r,e,f _ _ h1,fh.mono f h2)
theorem fh.length:∀{as:List α}{xs:List V},fh P as xs->xs.length=as.length
 | [],_,h=>by rw[show _=_ from h];rfl
 | a::as,xs,h=>by
  let(x,r,e,h1,h2):=h;rw[e,dQ,dQ,h2.length]
theorem fh.at_:∀{as:List α}{xs:List V}{i:Nat}{x:V},fh P as xs->xs[i]?=some x->∃ a,as[i]?=some a/\P a x
 | [],_,_,_,h,hx=>by rw[show _=_ from h]at hx;simp at hx
 | a::as,xs,i,y,h,hx=>by
  let(x,r,e,h1,h2):=h;subst e;cases i with
  | zero=>simp at hx;subst hx;show(a,rfl,h1)
  | succ i=>simpa using fh.at_ h2 (by simpa using hx)
theorem fh.get:∀{as:List α}{xs:List V}{i:Nat}{a : α},fh P as xs->as[i]?=some a->∃ x,xs[i]?=some x/\P a x
 | [],_,_,_,h,hx=>by simp at hx
 | a::as,xs,i,b,h,hx=>by
  let(x,r,e,h1,h2):=h;subst e;cases i with
  | zero=>simp at hx;subst hx;show(x,rfl,h1)
  | succ i=>simpa using fh.get h2 (by simpa using hx)
theorem fh.append:∀{as bs:List α}{xs ys:List V},fh P as xs->fh P bs ys->fh P (as++bs) (xs++ys)
 | [],bs,xs,ys,h,g=>by rw[show xs=[]from h];show g
 | a::as,bs,xs,ys,h,g=>by
  let(x,r,e,h1,h2):=h;subst e;show(x,r++ys,rfl,h1,fh.append h2 g)
theorem fh.one{a : α}{x:V}(h:P a x):fh P [a] [x]:=⟨x,[],rfl,h,rfl⟩
theorem fh.take:∀{as:List α}{xs:List V}(j:Nat),fh P as xs->fh P (as.take j) (xs.take j)
 | as,xs,0,_=>by simp only[gQ];show rfl
 | [],xs,j+1,h=>by rw[show xs=[]from h];simp;show rfl
 | a::as,xs,j+1,h=>by
  let(x,r,e,h1,h2):=h;subst e;show(x,r.take j,by simp,h1,fh.take j h2)
theorem fh.drop:∀{as:List α}{xs:List V}(j:Nat),fh P as xs->fh P (as.drop j) (xs.drop j)
 | as,xs,0,h=>by simpa using h
 | [],xs,j+1,h=>by rw[show xs=[]from h];simp;show rfl
 | a::as,xs,j+1,h=>by
  let(x,r,e,h1,h2):=h;subst e;simpa using fh.drop j h2
theorem fh.repL{K:aW}{f : α->D}(g:∀ a x,P a x->Rep K H (f a) x):∀{as:List α}{xs:List V},fh P as xs->iJ K H (as.map f) xs
 | [],xs,h=>by simp only[fP,iJ];show h
 | a::as,xs,h=>by
  let(x,r,e,h1,h2):=h;simp only[dw,iJ];show(x,r,e,g _ _ h1,fh.repL g h2)
end
structure sC(t:TD):Prop where
 n1:kb t.nm=true
 n2:kb t.st=true
 n3:kb t.en=true
 ne:t.st≠t.en
 lo:∀ a,t.lo=some a->FOk 1200 a
 hi:∀ a,t.hi=some a->FOk 1200 a
 le:lessD (bD t.hi) (bD t.lo)=false
variable{z:Str}
theorem AV(h:kb z=true):z.length<=8:=by
 unfold kb at h;simp only[gr,decide_eq_true_eq]at h;show h.1.2
section
variable{kvs:List (List gD × V)}{ss:List SD}{K:aW}
end
def jW(J:It)(k:Nat)(cs:List (Nat × Str))(g:TG)(te:TE)(σ : St)(Q:VK)(H1:Hp):Prop:=∃ W:Nat->Nat->List V->Hp->Prop,(∃ m,W 0 m [] H1)/\∀ i m ys H2,W i m ys H2->ys.length<=sizeLine /\
  ((J.stop i H2/\∀ p,H2 p=none->Q (.ref p) (upd H2 p (.lst ys))) \/
   (J.go i H2/\∀ x H3,J.yld i H2 x H3->g x (dF k none++mw cs σ) H3 λσ4 H4=>te σ4 H4 λy H5=>∃ m',m'<m/\W (i+1) m' (ys++[y]) H5))
def rA(J:It)(k:Nat)(cs:List (Nat × Str))(g:TG)(tt:TT)(te:TE)(σ : St)(Q:VK)(H1:Hp):Prop:=∃ W:Nat->Nat->List V->Hp->Prop,(∃ m,W 0 m [] H1)/\∀ i m ys H2,W i m ys H2->ys.length<=sizeLine /\
  ((J.stop i H2/\∀ p,H2 p=none->Q (.ref p) (upd H2 p (.lst ys))) \/
   (J.go i H2/\∀ x H3,J.yld i H2 x H3->g x (dF k none++mw cs σ) H3 λσ4 H4=>tt σ4 H4 λb H5=>if b=true then te σ4 H5 λy H6=>∃ m',m'<m/\W (i+1) m' (ys++[y]) H6 else∃ m',m'<m/\W (i+1) m' ys H5))
section
variable{tt:TT}{te tl:TE}{σ:St}{Q:VK}{a:Addr}{K:aW}{k:Nat}{cs:List (Nat × Str)}{g:TG}
theorem Jv:oU k cs (sq K tl) g te σ H Q=tl σ H λx H1=>∃ a,x=.ref a/\(((∃ xs,fI K H1 a xs)/\jW (qS K a) k cs g te σ Q H1)\/((∃ xs,gZ K H1 a xs)/\jW (uY K a) k cs g te σ Q H1)):=rfl
theorem Ju:uB k cs (sq K tl) g tt te σ H Q=tl σ H λx H1=>∃ a,x=.ref a/\(((∃ xs,fI K H1 a xs)/\rA (qS K a) k cs g tt te σ Q H1)\/((∃ xs,gZ K H1 a xs)/\rA (uY K a) k cs g tt te σ Q H1)):=rfl
theorem jW.list(Pv:Nat->List V->Hp->Prop)(h0:Pv 0 [] H1)(hl:∀ i ys H',i<=xs.length->Pv i ys H'->fI K H' a xs/\ys.length<=sizeLine)
  (hs:∀ i x ys H2,xs[i]?=some x->Pv i ys H2->g x (dF k none++mw cs σ) H2 λσ4 H4=>te σ4 H4 λy H5=>Pv (i+1) (ys++[y]) H5) (hd:∀ ys H2,Pv xs.length ys H2->∀ p,H2 p=none->Q (.ref p) (upd H2 p (.lst ys))) :
  jW (qS K a) k cs g te σ Q H1:=Ew (tt:=tYes) Pv h0 hl hs hd
theorem rA.list(Pv:Nat->List V->Hp->Prop)(h0:Pv 0 [] H1)(hl:∀ i ys H',i<=xs.length->Pv i ys H'->fI K H' a xs/\ys.length<=sizeLine)
  (hs:∀ i x ys H2,xs[i]?=some x->Pv i ys H2->g x (dF k none++mw cs σ) H2 λσ4 H4=>tt σ4 H4 λb H5=>if b=true then te σ4 H5 λy H6=>Pv (i+1) (ys++[y]) H6 else Pv (i+1) ys H5) (hd:∀ ys H2,Pv xs.length ys H2->∀ p,H2 p=none->Q (.ref p) (upd H2 p (.lst ys))) :
  rA (qS K a) k cs g tt te σ Q H1:=Ew Pv h0 hl hs hd
end
section
variable{ss:List SD}{c:Pr}{tot:Int × Int}{l:Str}{cs:List Pr}{s:SD}{f:Str}
end
variable{n:Nat}
theorem yO{f : α->D}(h:∀ a,depD (f a)<=n):∀ as:List α,depL (as.map f)<=n
 | []=>by simp[depL]
 | a::as=>by
  rw[dw,depL];show Nat.max_le.mpr ⟨h a,yO h as⟩
section
variable{Q:VK}{K:aW}
end
section
variable{prog:fH}{A:fZ}{E:aX->da->Prop}{w:fA}{s:da}
end
def nN(l:List Str)(z:Str):List Str:=if z∈l then l else l++[z]
section
variable{prog:fH}{A:fZ}{E:aX->da->Prop}{w:fA}{s:da}
end
section
variable{prog:fH}{A:fZ}{E:aX->da->Prop}{w:fA}{s:da}
end
section
variable{M:Model}{A:fZ}{E:aX->da->Prop}{s:da}
end
section
variable{prog:fH}{A:fZ}{E:aX->da->Prop}{w:fA}{s:da}
section
variable{I a:Addr}{es:Array (Int × aX)}{ep:Nat}{Q:Option aX->da->Prop}{i:Nat}{t:SetTable}
end
end
section
variable{prog:fH}{A:fZ}{E:aX->da->Prop}{w:fA}{s:da}
end
section
variable{prog:fH}{A:fZ}{E:aX->da->Prop}{w:fA}{s:da}{r:Addr}{R:Result->da->Prop}
theorem KI{S:Addr}(h:ei (eO prog w) A.in1 (Builtin.List.listExtendWith (.ref S) (.ref r) (.ref S)) (λfin s'=>match fin with | .done f=>R (.ok f) s' | .again c'=>c'.quiet=true/\kG (eO prog w) A c' R s') (λe s'=>R (.error e) s') s) :
  kG (eO prog w) A (.builtin "list.__iadd__" ⟨[.ref S, .ref r],[]⟩) R s:=by
 show codeAny_builtin (PySem.F.entry_list_iadd) ?_;rw[kE (PySem.F.plain_list_iadd) _];show h
variable{ss:List Str}
theorem MB{Q:aX->da->Prop}(h64:ss.length<64)
  (hx:∀(R:Result->da->Prop),(∀ s' (vs:List aX) c' ss',(∀ b o,s.heap.get? b=some o->s'.heap.get? b=some o)->s'.gens=s.gens->s'.os=s.os->s.toks<=s'.toks ->
    s'.heap.get? s.heap.objs.size=some { cls:=.type "list",dict:=none,data:=.seq vs.toArray c',slots:=#[] }->StrsAre vs ss'->ss'.Perm ss->R (.ok (.ret (.ref s.heap.objs.size))) s') ->
   kG (eO prog w) A.in1 (.builtin "list.__iadd__" ⟨[.ref s.heap.objs.size, .ref r],[]⟩) R { s with heap:=s.heap.push { cls:=.type "list",data:=.seq ([]:List aX).toArray } })
  (q:∀ s' l (out:Array aX) ss' e,(∀ b o,s.heap.get? b=some o->s'.heap.get? b=some o)->s'.gens=s.gens->s'.os=s.os->s.toks<=s'.toks->s.heap.objs.size<=l->s'.heap.get? l=some (seqObj "list" out e)->StrsAre out.toList ss'->ss'.Perm ss->sortedS ss'=true->Q (.ref l) s') :
  ei (eO prog w) A (call (.builtin "sorted") [.ref r]) Q E s:=by
 show Calls.call_function_entry kind_sorted plain_sorted entry_sorted (args_sorted1 _) ?_;unfold Builtin.«sorted»;show du (m:=checkCount "sorted" 1 1 _) (dU ?_);show du ?_;unfold collect;show du (wpAny_runValue (codeAny_builtin (PySem.F.entry_proto_collect) ?_));rw[kE (PySem.F.plain_proto_collect) _];show ei _ A.in1.in1 (newList [] >>= λl=>again (.builtin "list.__iadd__" ⟨[l, .ref r],[]⟩)) _ _ s;show du (jd ?_);show dU ⟨plainId_quiet (PySem.F.plain_list_iadd) _,hx _ λs' vs c' D k B v z i a h=>?_⟩;show du (m:=load s.heap.objs.size) (wpAny_load i (dU ?_));have vl:vs.length<64:=by rw[a.length,h.length_eq];show h64
 have C:(64:Nat)<=sizeLine:=by decide
 dsimp only;show du (wpAny_newList ?_ (by show vs.length<=sizeLine;ac_nf));have c:(s'.heap.push (seqObj "list" vs.toArray 0)).get? s'.heap.objs.size=some (seqObj "list" vs.toArray 0):=dP _ rfl;show du (wpAny_holding (wpAny_call_entry slot_list_sort ⟨_,c,rfl⟩ entry_list_sort (list_sort_treeK strKind_oneLt c a.keysOf (λH G rest e=>keyKind_strs (by rw[<- e];show a)) vl λn d g=>⟨_,rfl,?_⟩) (args_list_sort _)));let(f,t,y,p):=sorted_out_str a d g;let(x,u):=sortedHeap_at (out:=(arrOf n).map (·.2)) c;show dU ⟨_,rfl,q _ s'.heap.objs.size _ f x (λb o e=>?_) B v z ?_ u t (y.trans h) p⟩
 .have j:=dE (k b o e);rw[sortedHeap_old (dI j) (by rw[size_push'];show kl j)];show df _ (k b o e)
 .show Nat.le_of_lt (dE i)
theorem Fd:∀(vs:List aX),(∀ v∈vs, ∃ x t,v=.str x t)->StrsAre vs (vs.map strOf)
 | [],_=>.nil
 | v::vs,h=>by
  let(x,t,rfl):=h v (by simp);show .cons x t (Fd vs λu hu=>h u (by simp[hu]))
theorem NQ{K:Type}[DecidableEq K]{knd:PySem.KeyKind prog w K}{d:Addr}{kvs:List (K × aX)}{ep:Nat}{ss:List Str}{Q:aX->da->Prop}(hh:A.handled=none)(lo:(d == jw)=false)(hd:s.heap.DictAt knd d kvs ep)(h64:kvs.length<64)
  (hl:ss.length=kvs.length) (hk:∀ i k x v,kvs[i]?=some (k,x)->knd.is k v=true->∃ t,v=.str (ss.getD i ⟨#[]⟩) t)
  (q:∀ s' l (out:Array aX) ss' e,(∀ b o,s.heap.get? b=some o->s'.heap.get? b=some o)->s'.gens=s.gens->s'.os=s.os->s.toks<=s'.toks->s.heap.objs.size<=l->s'.heap.get? l=some (seqObj "list" out e)->StrsAre out.toList ss'->ss'.Perm ss->sortedS ss'=true->Q (.ref l) s') :
  ei (eO prog w) A (call (.builtin "sorted") [.ref d]) Q E s:=by
 have L:(64:Nat)<=sizeLine:=by decide
 have G:=hd.lt_size;have M:A.in1.handled=none:=by simp[hh]
 show MB (ss:=ss) ∅ (λR k=>?_) q;obtain⟨z,h⟩:∃ z:Result->da->Prop, ∀ r s',z r s'↔∃ g B a m,r=.ok (.ret (.ref s.heap.objs.size))/\s'={ s with heap:=g,toks:=B }/\(∀ b o,b≠s.heap.objs.size->(s.heap.push { cls:=.type "list",data:=.seq ([]:List aX).toArray }).get? b=some o->g.get? b=some o)/\g.get? s.heap.objs.size=some { cls:=.type "list",dict:=none,data:=.seq a m,slots:=#[] }/\ItemsOf (λi v=>∃ k x,kvs[i]?=some (k,x)/\knd.is k v=true) a kvs.length:=⟨_,λ_ _=>Iff.rfl⟩;have p:=codeAny_toks_of (n:=s.toks) (s:={ s with heap:=s.heap.push { cls:=.type "list",data:=.seq ([]:List aX).toArray } }) (dh _) (KI (A:=A.in1) (R:=z)
  (W.kdl_extend (R:=z) (s:={ s with heap:=s.heap.push { cls:=.type "list",data:=.seq ([]:List aX).toArray } }) (W.kdl_dict (knd:=knd) (kvs:=kvs) (ep:=ep) lo) M (hd.push _) s.heap.objs.size (gT G) (gT G) (.ref s.heap.objs.size) 0 (dP _ rfl) (λg B a m C hl f=>(h _ _).mpr ⟨g,B,a,m,rfl,rfl,C,hl,f⟩) ∅))
 show codeAny_mono p ?_;rintro r s' ⟨J,I⟩;let(g,B,a,m,rfl,rfl,C,u,f):=(h _ _).mp I;have N:StrsAre a.toList ss:=by
  have j:∀ v∈a.toList, ∃ x t,v=.str x t:=λv O=>by
   let(i,H):=dA O;rw[iI]at H;let(F,x,y,D):=f.2 i v H;let(t,e):=hk i F x v y D;show(_,t,e)
  have:=Fd _ j;have e:a.toList.map strOf=ss:=by
   show iS λi=>?_;rw[bg,iI];have T:a.size=kvs.length:=f.1;by_cases c:i<kvs.length
   .have y:a[i]?=some a[i]:=Array.getElem?_eq_getElem ∅;let(F,x,D,P):=f.2 i _ y;let(t,S):=hk i F x _ D P;rw[y,kK,S,aV ∅];simp[strOf,gh,aV (show i<ss.length by ac_nf)]
   .rw[Array.getElem?_eq_none ∅,eN ∅];rfl
  rw[e]at this;show this
 show k _ a.toList m ss (λb o e=>C b o (dI (dE e)) (df _ e)) rfl rfl J (by rw[kJ];show u) N (.refl _)
end
theorem Ky:typeLookup (.type "list") "keys"=pure none:=by rw[typeLookup_type,builtinLookup_eq_fast];kernel_rfl
section
variable{prog:fH}{A:fZ}{E:aX->da->Prop}{a:Addr}{its:Array aX}{w:fA}{s:da}
theorem KD{Q:Option aX->da->Prop}(hh:A.handled=none)(hx:s.heap.get? a=some { cls:=.type "list",dict:=none,data:=.seq its n,slots:=#[] })
   (q:∀ h' t',(∀ b o,s.heap.get? b=some o->h'.get? b=some o)->Q none { s with heap:=h',toks:=t' }) :
    ei (eO prog w) A (getAttr? (.ref a) "keys") Q E s:=by
  let(j,g,d,k,i):=s;have h:∀ c,(⟨j,g,d,c,i⟩:da).TypeIs (.ref a) "list":=λ_=>⟨_,hx,rfl⟩;have u:=sub_AttributeError;have p:=kj.lookup;have l:=kj.bind (.ref a);have r:=am_list_getattr_none;unfold getAttr?;unfold getAttrBy?;unfold getAttrBy;repeat (any_goals (first | assumption | show h _ | ((with_reducible show ei _ _ (call (aX.builtin "list.__getattribute__") _ _) _ _ _);show call_meets kj (h _) am_entry_list_getattribute (PySem.F.args_list_getattribute_2 _ _) (meets_getattribute_miss_list a its n #[] "keys" _ Ky (by decide +kernel) ⋯) ⟨hx,hh,λh' c e f=>?_⟩) | wp_step))
  let(t',t,m):=f.there;show ei _ _ (getattributeRaised _ _ _ _ _ _ _) _ _ _;unfold getattributeRaised;repeat (any_goals (first | assumption | wp_step))
  show q h' c f.keeps
end
theorem GG:entryFor table "dict.update.loop"=some Builtin.«dict.update.loop»:=entryFor_of_tree (by kernel_rfl)
theorem yT:plainId "dict.update.loop"=true:=by decide +kernel
def rL(key:Nat->Str)(val:Nat->aX)(i:Nat):List (gD × aX):=(gX i).foldl (λl j=>PySem.stored l (aZ (key j)) (val j)) []
theorem BX(key:Nat->Str)(val:Nat->aX)(i:Nat):rL key val (i+1)=PySem.stored (rL key val i) (aZ (key i)) (val i):=by
 unfold rL;rw[List.range_succ,js];rfl
theorem Bl(key:Nat->Str)(val:Nat->aX):∀ i,(rL key val i).length<=i
 | 0=>dh _
 | i+1=>by
  have:=Bl key val i;rw[BX];unfold PySem.stored;split <;> simp <;> ac_nf
section
variable{prog:fH}{A:fZ}{E:aX->da->Prop}{w:fA}{s:da}
def tV(h:Heap)(a:Addr)(k v:aX):Prop:=∃ o c,h.get? a=some o/\o.cls=.type "tuple"/\o.data=.seq #[k,v] c
variable{h:Heap}
theorem tV.at_{h':Heap}{a:Addr}{k v:aX}(x:tV h a k v)(m:∀ o,h.get? a=some o->h'.get? a=some o):tV h' a k v:=by
 let(o,c,e,r):=x;show(o,c,m o e,r)
theorem Kx{t:Tok}:(mi prog w).is (aZ z) (.str z t)=true:=by
 show keyIs (aZ z) (.str z t)=true;simp[keyIs,aX.isStrOf]
theorem Mt{R:Result->da->Prop}{I:Addr}{fp wr:List Addr}{G:Array GenState->Array GenState->Prop}{P:Nat->aX->Prop}{St:Nat->da->Prop}
  (W:WalksS prog w A.in1 I fp wr G n P St) (d:Addr) (hdf:d∉fp) (adr:Nat->Addr) (key:Nat->Str) (val:Nat->aX) (hP:∀ i v,P i v->v=.ref (adr i)) (nd:∀ i,i<n->adr i≠d) (nw:∀ i,i<n->adr i∉wr) (hz:n<=sizeLine) :
  ∀(k i:Nat)(s:da),n-i=k->i<=n->St i s->s.heap.DictOf (mi prog w) d (rL key val i)->(∀ j,j<n->∃ tk,tV s.heap (adr j) (.str (key j) tk) (val j)) ->
   (∀ s',Moved (d::wr) G s s'->s'.heap.DictOf (mi prog w) d (rL key val n)->R (.ok (.ret .none)) s') ->
   kG (eO prog w) A (.builtin "dict.update.loop" ⟨[.ref d, .ref I, .int (i:Int) 0, .none],[]⟩) R s:=by
 have N:d∉wr:=λh=>hdf (W.sub _ h);have O:∀ b∈wr,b∈d::wr:=λb h=>dZ _ h;intro k;induction k with
 | zero=>
  intro i s Q X r H g q;have : i=n:=by ac_nf
  subst this;show codeAny_builtin GG ?_;rw[kE yT _];show du (m:=pyNext (.ref I)) (W.done s _ _ r λs' f=>?_);show du (m:=Builtin.Dict.addKeywords d []) (dU (dU ?_));show q s' (f.mono O) ?_;let(o,D,B,x,rest):=H;show(o,D,B,f.heap d o N x,rest)
 | succ k ih=>
  intro i s Q X r H g q;have c:i<n:=by ac_nf
  show codeAny_builtin GG ?_;rw[kE yT _];show du (m:=pyNext (.ref I)) (W.item i s _ _ c r λv s' Z C f=>?_);rw[hP i v Z];have E:s'.heap.DictOf (mi prog w) d (rL key val i):=by
   let(o,D,B,x,rest):=H;show(o,D,B,f.heap d o N x,rest)
  have a:∀ j,j<n->∃ tk,tV s'.heap (adr j) (.str (key j) tk) (val j):=λj l=>by
   let(tk,e):=g j l;show(tk,e.at_ λo z=>f.heap _ o (nw j l) z)
  let(tk,ot,ct,M,J,t):=a i c;have dl:=Bl key val i;show du (wpAny_holding ?_);show du (wpAny_tryCatch ?_);unfold Builtin.Dict.pairItems;show du (wpAny_typeOf (T:="tuple") ⟨_,M,J⟩ ?_);rw[if_pos ⋯];unfold seqItems?;show du (du (wpAny_load M ?_));rw[t];show dU (dU ?_);show ei _ _ (holding [aX.str (key i) tk,val i] (dictSet d (.str (key i) tk) (val i))) _ _ _;show wpAny_holding (wpAny_dictSet_pairs (knd:=mi prog w) (k:=aZ (key i)) Kx E (λL Y p=>?_) ∅);have K:L.DictOf (mi prog w) d (rL key val (i+1)):=by
   rw[BX];show Y
  show dU ⟨plainId_quiet yT _,ih (i+1) { s' with heap:=L,toks:=s'.toks+1 } ∅ c (W.frame _ s' _ _ C (Nat.le_succ _) λb y o e=>?_) K (λj l=>?_) λV U u=>?_⟩
  .rw[p.2 b (λh:b=d=>hdf (h ▸ y))];show e
  .let(F,S):=a j l;show(F,S.at_ λo z=>(p.2 _ (nd j l)).trans z)
  .show q V (Moved.trans W.gtrans ((f.mono O).then_heap (Nat.le_succ _) λb o y e=>?_) U) u;rw[p.2 b (λh:b=d=>y (by rw[h];show fM))];show e
variable{l:Addr}
theorem O1{items:Array aX}{c0:Nat}{Q:aX->da->Prop}(hh:A.handled=none)(hl:s.heap.get? l=some { cls:=.type "list",dict:=none,data:=.seq items c0,slots:=#[] })(adr:Nat->Addr)(key:Nat->Str)(val:Nat->aX)
  (hP:∀(i:Nat)(v:aX),items[i]?=some v->v=.ref (adr i)) (tup:∀ j,j<items.size->∃ tk,tV s.heap (adr j) (.str (key j) tk) (val j)) (hz:items.size<=sizeLine)
  (q:∀ h' tk,(∀ b o,s.heap.get? b=some o->h'.get? b=some o)->h'.DictOf (mi prog w) s.heap.objs.size (rL key val items.size)->Q (.ref s.heap.objs.size) { s with heap:=h',toks:=tk }) :
  ei (eO prog w) A (call (.type "dict") [.ref l]) Q E s:=by
 show callType_codes (Q₁:=λf I=>f=.ref s.heap.objs.size/\I={ s with heap:=s.heap.push { cls:=.type "dict",data:=.dict #[] } }) (PySem.F.kt_called_dict) (PySem.F.kt_typeCall_dict_1 _) (PySem.F.entry_dict_init) (kt_code_dict_new _ ⟨rfl,rfl⟩) ?_;rintro f I ⟨rfl,rfl⟩;have m:(s.heap.push { cls:=.type "dict",data:=.dict #[] }).DictOf (mi prog w) s.heap.objs.size []:=Heap.DictOf.new s.heap;show(m.typeIs,PySem.F.args_dict_init_2 _ _,?_);generalize h:({ cls:=.type "dict",data:=.dict #[] }:Obj)=o0 at m ⊢;have t:(s.heap.push o0).get? l=some { cls:=.type "list",dict:=none,data:=.seq items c0,slots:=#[] }:=df _ hl;have J:=dE hl;have V:(s.heap.push o0).objs.size=s.heap.objs.size+1:=je ..;unfold Builtin.«dict.__init__»;show du ?_;unfold Builtin.Dict.selfAndRest;show du (wpAny_notOrdered_dict m.typeIs (dU ?_));show ei _ _ (Builtin.Dict.updateFrom "dict.__init__" s.heap.objs.size (.ref l) [] aX.none) _ _ _;unfold Builtin.Dict.updateFrom;show du (wpAny_typeOf (T:="list") ⟨_,t,rfl⟩ ?_);rw[if_pos ⋯];have M:A.in1.in1.handled=none:=by simp[hh]
 show du (KD M t λd K g=>?_);show wpAny_ite_split (λ_=>?_) (λz=>absurd rfl z);show du (wpAny_rule ?_);have D:=g _ _ t;have B:d.DictOf (mi prog w) s.heap.objs.size []:=by
  let(o,C,y,h,rest):=m;show(o,C,y,g _ _ h,rest)
 have dlt:s.heap.objs.size<d.objs.size:=by
  let(o,C,y,h,rest):=B;show dE h
 have x:d.IsList l items:=⟨_,D,rfl,c0,rfl⟩;show du (wpAny_pyIter_list (s:=⟨d,s.gens,s.drawn,K,s.os⟩) x ?_);have G:∀ j,j<items.size->adr j<s.heap.objs.size:=λj a=>by
  let(tk,o,c,e,_):=tup j a;show dE e
 have p:l<d.objs.size:=dE D;have r:A.in1.in1.handled=none:=by simp[hh]
 show dU ⟨plainId_quiet yT _,?_⟩;show Mt ((Walks.list r d.objs.size l (dI p) items).toS) s.heap.objs.size (by simp only[eP,iw,or_false,not_or];show(dI dlt,gT J)) adr key val hP (λj a=>dI (G j a)) (λj a=>by simp only[eP,iw,or_false];show dI (Nat.lt_trans (G j a) dlt)) hz items.size 0 _ ∅ (dG _) ⟨⟨_,dP _ rfl,rfl,rfl⟩,x.push _⟩ (B.push _) (λj a=>?_) λS k U=>?_
 .let(tk,e):=tup j a;show(tk,e.at_ λo z=>df _ (g _ _ (df _ z)))
 .let(h',L,R,n,u):=S;have O:L=s.gens:=k.gens;have P:R=s.drawn:=k.drawn;have N:u=s.os:=k.os;subst O;subst P;subst N;show(rfl,q h' n (λb o e=>?_) U);have H:=dE e;show k.heap b o ?_ (df _ (g _ _ (df _ e)));simp only[eP,iw,or_false,not_or];show(dI H,dI (Nat.lt_trans H dlt))
end
section
variable{X:Cx}{pins:List (Addr × Obj)}{σ:List (Option V)}{s':da}{s:da}
theorem Inv.like(I:Inv X pins σ H { s with heap:=s'.heap,toks:=s'.toks })(eg:s'.gens=s.gens)(eo:s'.os=s.os):Inv X pins σ H s' :=
 ⟨I.ok,by rw[eo];show I.os,by rw[eg];show I.bare,I.base,I.loc,I.cell,I.free,I.freeC,I.pin,I.hok,I.len⟩
theorem Gx:∀{vs:List aX}{ss:List Str},StrsAre vs ss->Vals (ss.map V.str) vs
 | _,_, .nil=>.nil
 | _,_, .cons z t r=>.cons ⟨t,rfl⟩ (Gx r)
def LO(out ss:List Str):Prop:=out.Perm ss/\sortedS out=true
def Kk(xs:List V)(H:Hp)(Q:VK):Prop:=∃ d kvs ss,xs=[.ref d]/\H d=some (.dK kvs)/\kvs.map (·.1)=ss.map aZ/\ss.length<64/\∀ l out,H l=none->LO out ss->Q (.ref l) (upd H l (.lst (out.map V.str)))
theorem M9(hc:X.calm=true):lH X (.builtin "sorted") Kk:=by
 intro C s σ H xs us Q I r h;let(d,c,ss,rfl,e,m,U,q):=h;let(u,rfl,M):=vals1 r;cases M;let(T,S,n,j,D):=mN I.hok e;let(ep,F):=D.dictAt;have sl:(64:Nat)<=sizeLine:=by decide
 have lk:ss.length=c.length:=by simpa using(congrArg List.length m).symm
 have L:n.length=c.length:=j.length.symm;have g:n.map (·.1)=c.map (·.1):=by
  clear D F m lk L T q e;induction j with
  | nil=>rfl
  | cons h1 _ ih=>
   rw[dw,dw,ih,h1.1]
 show NQ (ss:=ss) (I.ok.hd hc) S F ∅ ∅ (λi k x v W Y=>?_) λG l f a P k R O et J N K p B=>?_
 .have E:(n.map (·.1))[i]?=some k:=by rw[bg,W];rfl
  rw[g,m,bg]at E;let(z,A,rfl):=dM.mp E;rcases qR (show keyIs (aZ z) v=true from Y)with⟨b,hb,_⟩ | ⟨y,t,hy,rfl⟩
  .cases hb
  .cases hy;show(t,by rw[gh,A];rfl)
 .have Z:f.toList.length<=sizeLine:=by
   rw[K.length,p.length_eq];ac_nf
  show(.ref l,_,Inv.like (s:=s) (I.laid (t':=G.toks) (o:=.lst (a.map V.str)) k J (show jh X.prog X.w _ G.heap l (.lst (a.map V.str))from⟨by rw[bc,p.length_eq];ac_nf,f.toList,P,Gx K,by rw[kJ];show N⟩)) R O,rfl,q l a (I.hok.fresh J) ⟨p,B⟩)
def rq(ps:List (Str × V)):List (gD × V):=ps.foldl (λl p=>putK l (aZ p.1) p.2) []
def Ko(xs:List V)(H:Hp)(Q:VK):Prop:=∃(l:Addr)(as:List Addr)(ps:List (Str × V)),xs=[.ref l]/\H l=some (.lst (as.map V.ref))/\as.length=ps.length/\(∀(i:Nat)(a:Addr)(p:Str × V),as[i]?=some a->ps[i]?=some p->H a=some (.tup [.str p.1,p.2]))/\∀ d,H d=none->Q (.ref d) (upd H d (.dK (rq ps)))
theorem G5(hc:X.calm=true):lH X (.type "dict") Ko:=by
 intro M s σ H xs us Q I r h;let(l,b,d,rfl,e,hl,Z,q):=h;let(u,rfl,U):=vals1 r;cases U;let(hz,A,n,W,J,el):=I.lstM e;have K:b.length<=sizeLine:=by simpa using hz
 have li:A.length=b.length:=by simpa using J.symm
 have pr:∀ j,j<b.length->∃ u a p f,b[j]?=some a/\d[j]?=some p/\RelV p.2 u/\tV s.heap a (.str p.1 f) u:=λj B=>by
  have C:=aV B;have w:=aV (l:=d) (i:=j) ∅;let(_,ts,y,o,Y,G,T,S):=I.hok _ _ (Z j _ _ C w);cases y with
  | cons r1 y=>
   cases y with
   | cons r2 y=>
    cases y;let(f,rfl):=r1;show(_,_,_,f,C,w,r2,o,T,Y,G,S)
 let(D,m):=Classical.skolem.mp (show∀ j:Nat, ∃ u:aX,j<b.length->∃ a p f,b[j]?=some a/\d[j]?=some p/\RelV p.2 u/\tV s.heap a (.str p.1 f) u fromλj=>by
  by_cases c:j<b.length
  .let(u,h):=pr j c;show(u,λ_=>h)
  .show(.none,λz=>absurd z c))
 have g:∀ j a,b[j]?=some a->b.getD j 0=a:=λj a h=>by rw[gh,h];rfl
 have t:∀ j (p:Str × V),d[j]?=some p->(d.getD j (⟨#[]⟩, .non)).1=p.1:=λj p h=>by rw[gh,h];rfl
 have F:A.toArray.size=b.length:=by rw[eu];show li
 show O1 (I.ok.hd hc) el (λj=>b.getD j 0) (λj=>(d.getD j (⟨#[]⟩, .non)).1) D (λj v L=>?_) (λj B=>?_) ∅ λh' f k N=>?_
 .rw[List.getElem?_toArray]at L;have B:j<b.length:=by have:=(aU.mp L).1;ac_nf
  let(u,O,ru):=W.get (i:=j) (x:=.ref b[j]) (by rw[bg,aV B];rfl);rw[L]at O;cases O;rw[g j _ (aV B)];show ru
 .let(a,p,f,C,w,P,R):=m j ∅;show(f,?_);rw[g j a C,t j p w];show R
 .have E:∀ i,i<=b.length->KV (rq (d.take i)) (rL (λj=>(d.getD j (⟨#[]⟩, .non)).1) D i):=λi=>by
   induction i with
   | zero=>intro _;show .nil
   | succ i ih=>
    intro hi;let(a,p,f,C,w,P,R):=m i ∅;rw[BX,dX,w];unfold rq;rw[js];rw[t i p w];show(ih ∅).put _ P
  have r:=E b.length (dh _);rw[de ∅]at r;have ln:(rq d).length<=sizeLine:=by
   rw[r.length];show fG (Bl _ _ _) K
  rw[F]at N;show(.ref s.heap.objs.size,_,I.laid (a:=s.heap.objs.size) (o:=.dK (rq d)) (t':=f) k (dh _) (yo ln (beq_eq_false_iff_ne.mpr (gk (dI I.big))) r N),rfl,q _ (I.hok.fresh (dh _)))
end
variable{kvs:List (gD × V)}{ss:List Str}
theorem LL(h:kvs.map (·.1)=ss.map aZ)(z:Str):(kvs.any λkv=>decide (kv.1=aZ z))=decide (z∈ss):=by
 have e:(kvs.any λkv=>decide (kv.1=aZ z))=(kvs.map (·.1)).any λk=>decide (k=aZ z):=by rw[List.any_map];rfl
 rw[e,h,List.any_map,jS];simp
theorem F6(h:kvs.map (·.1)=ss.map aZ)(z:Str)(v:V):(putK kvs (aZ z) v).map (·.1)=(nN ss z).map aZ:=by
 unfold putK nN;rw[LL h];by_cases c:z∈ss
 .rw[if_pos (by simpa using c),if_pos c, <- h,ie];show jN λa _=>?_;simp only[Function.comp];split
  .rfl
  .rfl
 .rw[if_neg (by simpa using c),if_neg c,dy,dy,h];rfl
theorem FI(z:Str)(h:ss.Nodup):(nN ss z).Nodup:=by
 unfold nN;split
 .show h
 .rename_i c;rw[fD];show(h,by simp,λa f b d=>?_);rw[bf.mp d];showλe=>c (e ▸ f)
theorem Gh(z x:Str):x∈nN ss z↔x∈ss\/x=z:=by
 unfold nN;split
 .rename_i c;constructor
  .show .inl
  .rintro(h | rfl)
   .show h
   .show c
 .simp
theorem Gi(ss:List Str)(z:Str):(nN ss z).length<=ss.length+1:=by
 unfold nN;split <;> simp
def FJ(ts:List TD)(out:List Str):Prop:=out.Nodup/\sortedS out=true/\∀ z,z∈out↔∃ t∈ts,z=t.st\/z=t.en
def gf(a:Int × Int):Int × Int:=(-a.1,a.2)
def lF(a c:Int × Int):Bool:=decide (a.1*c.2<c.1*a.2)
structure FB(A B:Nat)(a:Int × Int):Prop where
 s1:Mth.Sz A a.1
 s2:Mth.Sz B a.2
 b1:1<=a.2
 g1:Mth.g a.1 a.2=1
variable{A B:Nat}{a:Int × Int}
theorem FB.ok(h:FB A B a)(h1:A<=n)(h2:B<=n):FOk n a:=⟨h.s1.mono h1,h.s2.mono h2,h.b1,h.g1⟩
theorem FB.neg(h:FB A B a):FB A B (gf a):=⟨by
 have:=h.s1;unfold Mth.Sz at this ⊢;unfold gf;rw[Int.natAbs_neg];show this,h.s2,h.b1,by
 have:=h.g1;unfold Mth.g gf at *;simpa using this⟩
variable{C:Nat}
theorem FB.add{D m:Nat}{c:Int × Int}(h:FB A B a)(k:FB C D c)(h1:A+D<=n)(h2:C+B<=n)(h3:B+D<=m):FB (n+1) m (fE a c):=by
 have b:a.2*c.2≠0:=iT (by have:=h.b1;ac_nf) (by have:=k.b1;ac_nf);have e:=(h.s1.mul k.s2).mono h1;have d:=(k.s1.mul h.s2).mono h2;show(Mth.Sz.top b (e.add d),(Mth.Sz.bot b (h.s2.mul k.s2)).mono h3,Mth.IC b,Mth.g_low b)
theorem FB.low{t:Int}(hb:1<=b)(h1:Mth.Sz A t)(h2:Mth.Sz B b):FB A B (Mth.top t b,Mth.bot t b):=by
 have a:b≠0:=by ac_nf
 show(Mth.Sz.top a h1,Mth.Sz.bot a h2,Mth.IC a,Mth.g_low a)
variable{X:Cx}{e:Expr}{ta:TE}{pos:Pos}
theorem FU{K:aW}{f:Str}(hK:X.K=K)(he:PE X e ta)(hb:iL e f X.env (eval e X.env)=eval e X.env):PE X (.Attribute e f pos) (ue K ta f):=by
 subst hK;show iP he hb
structure FW(A B:Nat)(a:Int × Int):Prop where
 s1:Mth.Sz A a.1
 s2:Mth.Sz B a.2
 b1:1<=a.2
theorem FB.w(h:FB A B a):FW A B a:=⟨h.s1,h.s2,h.b1⟩
theorem FW.mono{D:Nat}(h:FW A B a)(h1:A<=C)(h2:B<=D):FW C D a:=⟨h.s1.mono h1,h.s2.mono h2,h.b1⟩
section
variable{o:Expr}{es:List Expr}{to:TE}{name:Str}{apos cpos:Pos}{T id:String}{r:V->List V->Hp->VK->Prop}{K:aW}{t:TA}
end
def EE(td:TE):TE:=λσ H Q=>td σ H λx H1=>∃ d kvs,x=.ref d/\H1 d=some (.dK kvs)/\∀ l,H1 l=none->Q (.ref l) (upd H1 l (.lst (kvs.map (·.2))))
variable{vs:List (gD × aX)}
theorem BA(r:KV kvs vs):Vals (kvs.map (·.2)) (vs.map (·.2)):=by
 unfold KV at r;induction r with
 | nil=>show .nil
 | cons h _ ih=>show .cons h.2 ih
variable{o:Expr}{p1 apos cpos:Pos}{x:Str}
theorem Lb{td:TE}(hc:X.calm=true)(hx:x="list")(hg:Gl X x)(hm:X.mg x=none)(hv:fo x=some (.type "list"))(ho:PE X o td)
  (hb:autoParam (iL o "values" X.env (eval o X.env)=eval o X.env) Au) (hn:autoParam ((apos.endLine == cpos.line)=true) Au) :
  PE X (.Call (.Name x p1) [.Call (.Attribute o "values" apos) [] [] cpos] [] pos) (EE td):=by
 intro c s σ H Q I h;have J:x≠"__name__":=by rw[hx];decide
 have u:(x == ("__debug__" : Str))=false:=by rw[hx];decide
 show gK (sM I hg hm hv ?_ J u);show gM ?_ rfl rfl;show ei _ _ (spliced ((false,eval (.Call (.Attribute o "values" apos) [] [] cpos) X.env)::jq pos (eQ [] X.env))) _ _ s;show gS ?_;show kr hb hn (iF (ho c s σ H _ I h) λv l ζ=>?_);let(y,R,I1,B,d,kvs,C,e,E):=ζ;subst C;obtain rfl:v=eK d:=B;let(m,D,K):=vC I1 (.inl ⟨kvs, .inl e⟩);let(M,_,i,f,p):=mN I1.hok e;show("dict","dict.values",iq,ic,PySem.F.type_dict_values,m,D,gH rfl (kP ?_));show jQ ic m PySem.F.entry_dict_values (kW _) (meets_dict_values (mi X.prog X.w) d K) ⟨⟨i,p⟩,?_⟩;show iQ ?_;let(ep,L):=p.dictAt;show W.kdl_call (W.kdl_values (knd:=mi X.prog X.w) (r:=l.heap.objs.size) (d:=d) (kvs:=i) (ep:=ep)) (I.ok.hd hc) ⟨⟨_,dP _ rfl,rfl,rfl⟩,L.push _⟩ (by have:=f.length;ac_nf) λn P g N k O a=>?_;have t:g.toList=i.map (·.2):=W.kdl_vals_eq _ (by rw[iA];show a.1) λj v G=>a.2 j v (by rw[<- iI];show G);have A:∀ b o,l.heap.get? b=some o->n.get? b=some o:=λb o z=>k b o (df _ z);have q:l.heap.objs.size<=(l.heap.push { cls:=.type "dict_values",data:=.fields #[.ref d] }).objs.size:=by
  rw[je];show Nat.le_succ _
 show(.ref _,_,I1.laid (t':=P) (o:=.lst (kvs.map (·.2))) A q (show jh X.prog X.w _ n _ (.lst (kvs.map (·.2)))from⟨by rw[bc];show M,i.map (·.2),N,BA f,by rw[<- t,kJ];show O⟩),rfl,E _ (I1.hok.fresh q))
section
variable{prog:fH}{A:fZ}{E:aX->da->Prop}{w:fA}{s:da}
end
section
variable{k':Nat}{mn:Str}{C:Addr}{Cs:Addr->Prop}{ps:List Str}{sp:Sp}{p:Pos}{es:List Expr}{k:Nat}{t:TA}
abbrev TX:=St->Hp->VK->XK->Prop
end
theorem GP:lU X (fY .NotIn) (yb X.K true):=Ov
section
variable{σ:St}{Q:VK}{E:XK}{ty:TE}{ts:TA}{tc:TT}{u:TX}{C:Addr}{sp:Sp}{Cs:Addr->Prop}{td:TE}{t:TX}{m:Str}
theorem IL:EE td σ H Q=td σ H λx H1=>∃ d kvs,x=.ref d/\H1 d=some (.dK kvs)/\∀ l,H1 l=none->Q (.ref l) (upd H1 l (.lst (kvs.map (·.2)))):=rfl
theorem Jm:wJ ty td σ H Q=ty σ H λy H1=>td σ H1 λx H2=>∃ a o,x=.ref a/\gE H2 a y o/\Q (.bl o.isSome) H2:=rfl
theorem Jj:Fb ty td σ H Q=ty σ H λy H1=>td σ H1 λx H2=>∃ a o,x=.ref a/\gE H2 a y o/\Q (.bl (!o.isSome)) H2:=rfl
end
section
variable{κ:Type}[DecidableEq κ]{f : α->κ}{k : κ}{u y : α}
end
section
variable{P : α->V->Prop}
end
abbrev nms(ts:List TD):List Str:=ts.map (·.nm)
def r8(ts:List TD)(t:TD):List TD:=if t.nm∈nms ts then ts.map (λu=>if u.nm=t.nm then t else u)else ts++[t]
def BD(P:TD->V->Prop)(ts:List TD)(kvs:List (gD × V)):Prop:=kvs.map (·.1)=ts.map (λt=>aZ t.nm)/\fh P ts (kvs.map (·.2))
section
variable{P P':TD->V->Prop}{ts:List TD}{t:TD}
theorem BD.mono(h:BD P ts kvs)(m:∀ a x,P a x->P' a x):BD P' ts kvs:=⟨h.1,h.2.mono m⟩
theorem BD.length(h:BD P ts kvs):kvs.length=ts.length:=by simpa using congrArg List.length h.1
theorem BD.cons:BD P (t::ts) kvs↔∃ w r,kvs=(aZ t.nm,w)::r/\P t w/\BD P ts r:=by
 constructor
 .rintro⟨a,b⟩;match kvs,a,b with
  | (k,w)::r,a,b=>
   rw[dw,dw,kD]at a;let(y,d,e,p,b):=b;rw[dw,kD]at e;let(rfl,rfl):=e;let(c,a):=a;have c:k=aZ t.nm:=c;subst c;show(_,r,rfl,p,a,b)
 .rintro⟨w,r,rfl,p,h⟩;show(by rw[dw,dw,h.1],w,r.map (·.2),rfl,p,h.2)
theorem BD.nil:BD P [] kvs↔kvs=[]:=by
 constructor
 .rintro⟨h,_⟩;simpa using h
 .rintro rfl;show(rfl,rfl)
theorem BD.any:∀{ts:List TD}{kvs:List (gD × V)}{z:Str},BD P ts kvs->(kvs.any λkv=>decide (kv.1=aZ z))=decide (z∈nms ts)
 | [],kvs,z,h=>by rw[BD.nil.mp h];simp
 | t::ts,kvs,z,h=>by
  let(w,r,rfl,_,h):=BD.cons.mp h;rw[jK,BD.any h];by_cases c:t.nm=z
  .subst c;simp
  .have c1:(aZ t.nm:gD)≠aZ z:=λe=>c (by injection e);have c2:z≠t.nm:=λe=>c e.symm;simp[c1,c2]
theorem BD.val:∀{ts:List TD}{kvs:List (gD × V)}{z:Str},BD P ts kvs->(gR kvs (aZ z)).isSome=decide (z∈nms ts)
 | [],kvs,z,h=>by rw[BD.nil.mp h];rfl
 | t::ts,kvs,z,h=>by
  let(w,r,rfl,_,h):=BD.cons.mp h;by_cases c:t.nm=z
  .subst c;rw[pO rfl];simp
  .have c1:(aZ t.nm:gD)≠aZ z:=λe=>c (by injection e);have c2:z≠t.nm:=λe=>c e.symm;have e:gR ((aZ t.nm,w)::r) (aZ z)=gR r (aZ z):=by simp[gR,fR,c1]
   rw[e,BD.val h];simp[c2]
theorem BD.rep:∀{ts:List TD}{kvs:List (gD × V)},BD P ts kvs->P t v->BD P (ts.map λu=>if u.nm=t.nm then t else u) (kvs.map λkv=>if kv.1=aZ t.nm then(kv.1,v)else kv)
 | [],kvs,h,_=>by rw[BD.nil.mp h];show(rfl,rfl)
 | s::ts,kvs,h,p=>by
  let(w,r,rfl,q,h):=BD.cons.mp h;by_cases c:s.nm=t.nm
  .rw[dw,dw,if_pos c,if_pos (by rw[c]),c];show BD.cons.mpr ⟨v,_,rfl,p,BD.rep h p⟩
  .have c1:(aZ s.nm:gD)≠aZ t.nm:=λe=>c (by injection e);rw[dw,dw,if_neg c,if_neg c1];show BD.cons.mpr ⟨w,_,rfl,q,BD.rep h p⟩
theorem BD.app(h:BD P ts kvs)(p:P t v):BD P (ts++[t]) (kvs++[(aZ t.nm,v)]):=⟨by rw[dy,dy,h.1];rfl,by rw[dy];show h.2.append (.one p)⟩
theorem BD.put(h:BD P ts kvs)(p:P t v):BD P (r8 ts t) (putK kvs (aZ t.nm) v):=by
 unfold r8 putK;rw[h.any];by_cases c:t.nm∈nms ts
 .rw[if_pos c,if_pos (by simpa using c)];show h.rep p
 .rw[if_neg c,if_neg (by simpa using c)];show h.app p
end
theorem sub_len[DecidableEq α]:∀(l m:List α),l.Nodup->l ⊆ m->l.length<=m.length
 | [],m,_,_=>by simp
 | a::l,m,hn,hs=>by
  rw[gy]at hn;have ha:a∈m:=hs (by simp);have:=sub_len l (m.erase a) hn.2 λx hx=>(List.mem_erase_of_ne (show x≠a fromλe=>hn.1 (e ▸ hx))).mpr (hs (by simp[hx]));rw[List.length_erase_of_mem ha]at this;have:=List.length_pos_of_mem ha;rw[dQ];ac_nf
section
variable{pins:List (Addr × Obj)}{σ:St}{a:Addr}{u r:aX}{y:V}{A:fZ}{E:aX->da->Prop}{s:da}{k:gD}{v:Option V}{o:Option aX}
theorem LI{w:aX}(h:RelO v o)(e:o=some w):∃ x,v=some x/\RelV x w:=by
 subst e;cases v with
 | none=>show absurd h (by simp[RelO])
 | some x=>show(x,rfl,h)
theorem Mi(h:RelO v o)(e:o=none):v=none:=by
 subst e;cases v with
 | none=>rfl
 | some x=>show absurd h (by simp[RelO])
theorem Ma{Q:aX->da->Prop}(I:Inv X pins σ H s)(e:H a=some (.dK kvs))(ry:RelV (kV k) u)(rd:RelV y r)(hl:kvs.length<sizeLine)
  (h1:∀ v w' s',gR kvs k=some v->Inv X pins σ H s'->RelV v w'->Q w' s') (h2:∀ s',gR kvs k=none->Inv X pins σ (upd H a (.dK (putK kvs k y))) s'->Q r s') :
  ei (eO X.prog X.w) A (call (.builtin "dict.setdefault") [.ref a,u,r]) Q E s:=by
 let(z,d,p,b,f):=mN I.hok e;show jQ PySem.F.slot_dict_setdefault f.typeIs PySem.F.entry_dict_setdefault (PySem.F.args_dict_setdefault_3 _ _ _) (PySem.kt_meets_setdefault (mi X.prog X.w) a (mZ ry) d r) ⟨p,f,by rw[<- b.length];show z,λw h=>?_,λi m c n=>?_⟩
 .let(x,t,o):=LI (b.val k) h;show h1 x w _ t (I.tok _) o
 .have j:=Mi (b.val k) i;show h2 _ j ?_;have l:∃ q,m.get? a=some q:=let⟨q,_,_,hq,_⟩:=c;⟨q,hq⟩;have g:(putK kvs k y).length<=sizeLine:=by have:=uT kvs k y;ac_nf
  show yA I (by rw[e];show iG) n l (yo g d (b.put k rd) c)
end
def tI(td ty tx:TE):TE:=λσ H Q=>td σ H λx H1=>∃ a,x=.ref a/\vb H1 a/\ty σ H1 λy H2=>tx σ H2 λz H3=>∃ kvs k,H3 a=some (.dK kvs)/\y=kV k/\kvs.length<sizeLine /\
 (∀ v,gR kvs k=some v->Q v H3)/\(gR kvs k=none->Q z (upd H3 a (.dK (putK kvs k z))))
section
variable{ty tx:TE}{f:Expr}{td:TE}
theorem FV(ho:PE X o td)(he:PE X e ty)(hf:PE X f tx)(m:M2 X o "setdefault" apos e f cpos):PE X (.Call (.Attribute o "setdefault" apos) [e,f] [] cpos) (tI td ty tx):=by
 intro b s σ H Q I h;show wpAny_Call_method m.base m.few m.line iq PySem.F.slot_dict_setdefault PySem.F.type_dict_setdefault (iF (ho b s σ H _ I h) λu M ζ=>?_);let(x,N,I1,p,a,w,d,A):=ζ;subst w;obtain rfl:u=eK a:=p;let(n,t,_):=vC I1 d;show(n,t,?_);rw[m.trees];show gH rfl (kI (gS (iF (he b M σ N _ I1 A) λS G ζ=>?_)));let(y,L,I2,J,j):=ζ;show gS (iF (hf b G σ L _ I2 j) λO P ζ=>?_);let(z,C,I3,i,r,k,E,l,K,B,D):=ζ;show iQ ?_
 subst l;show Ma I3 E J i K (λv R q g I4 c=>⟨v,C,I4,c,B v g⟩) λq g I4=>⟨z,_,I4,i,D g⟩
end
section
variable{σ:St}{Q:VK}{ty tx:TE}{td:TE}
theorem Jh:tI td ty tx σ H Q=td σ H λx H1=>∃ a,x=.ref a/\vb H1 a/\ty σ H1 λy H2=>tx σ H2 λz H3=>∃ kvs k,H3 a=some (.dK kvs)/\y=kV k/\kvs.length<sizeLine/\(∀ v,gR kvs k=some v->Q v H3)/\(gR kvs k=none->Q z (upd H3 a (.dK (putK kvs k z)))):=rfl
theorem Jn:EH td ty tx σ H Q=td σ H λx H1=>∃ a,x=.ref a/\vb H1 a/\ty σ H1 λy H2=>tx σ H2 λz H3=>∃ o,gE H3 a y o/\Q (o.getD z) H3:=rfl
theorem Jl{trs:List (TE × TE)}:tH trs σ H Q=∀ p,H p=none->xD trs σ (upd H p (.dK [])) λps H2=>H2 p=some (.dK [])/\∃ kvs:List (gD × V),ps=kvs.map (λkv=>(kV kv.1,kv.2))/\kvs.length<=15/\Q (.ref p) (upd H2 p (.dK (vA [] kvs))):=rfl
theorem IR{tk tv:TE}{R:List (V × V)->Hp->Prop}:xD [(tk,tv)] σ H R=tk σ H λx H1=>tv σ H1 λy H2=>R [(x,y)] H2:=rfl
theorem Jx{K:aW}{T:String}{r:V->List V->Hp->VK->Prop}{to:TE}:wK K T r to σ H Q=to σ H λx H1=>wA K T x H1/\r x [] H1 Q:=rfl
end
def BG(f : α->Str)(P : α->V->Prop)(as:List α)(kvs:List (gD × V)):Prop:=kvs.map (·.1)=as.map (λa=>aZ (f a))/\fh P as (kvs.map (·.2))
section
variable{f : α->Str}{P P' : α->V->Prop}{as:List α}{a : α}
theorem BG.mono(h:BG f P as kvs)(m:∀ a x,P a x->P' a x):BG f P' as kvs:=⟨h.1,h.2.mono m⟩
theorem BG.length(h:BG f P as kvs):kvs.length=as.length:=by simpa using congrArg List.length h.1
theorem BG.cons:BG f P (a::as) kvs↔∃ w r,kvs=(aZ (f a),w)::r/\P a w/\BG f P as r:=by
 constructor
 .rintro⟨b,c⟩;match kvs,b,c with
  | (k,w)::r,b,c=>
   rw[dw,dw,kD]at b;let(y,g,e,p,c):=c;rw[dw,kD]at e;let(rfl,rfl):=e;let(d,b):=b;have d:k=aZ (f a):=d;subst d;show(_,r,rfl,p,b,c)
 .rintro⟨w,r,rfl,p,h⟩;show(by rw[dw,dw,h.1],w,r.map (·.2),rfl,p,h.2)
theorem BG.nil:BG f P [] kvs↔kvs=[]:=by
 constructor
 .rintro⟨h,_⟩;simpa using h
 .rintro rfl;show(rfl,rfl)
theorem BG.any:∀{as:List α}{kvs:List (gD × V)}{z:Str},BG f P as kvs->(kvs.any λkv=>decide (kv.1=aZ z))=decide (z∈as.map f)
 | [],kvs,z,h=>by rw[BG.nil.mp h];simp
 | a::as,kvs,z,h=>by
  let(w,r,rfl,_,h):=BG.cons.mp h;rw[jK,BG.any h];by_cases c:f a=z
  .subst c;simp
  .have c1:(aZ (f a):gD)≠aZ z:=λe=>c (by injection e);have c2:z≠f a:=λe=>c e.symm;simp[c1,c2]
theorem BG.get:∀{as:List α}{kvs:List (gD × V)}{z:Str},BG f P as kvs->(∃ a v,a∈as/\f a=z/\gR kvs (aZ z)=some v/\P a v)\/(z∉as.map f/\gR kvs (aZ z)=none)
 | [],kvs,z,h=>by
  rw[BG.nil.mp h];show .inr ⟨by simp,rfl⟩
 | a::as,kvs,z,h=>by
  let(w,r,rfl,p,h):=BG.cons.mp h;by_cases c:f a=z
  .subst c;show .inl ⟨a,w,by simp,rfl,pO rfl,p⟩
  .have c1:(aZ (f a):gD)≠aZ z:=λe=>c (by injection e);have c2:z≠f a:=λe=>c e.symm;have e:gR ((aZ (f a),w)::r) (aZ z)=gR r (aZ z):=by simp[gR,fR,c1]
   rw[e];rcases BG.get h (z:=z)with⟨b,v,h1,h2,h3,h4⟩ | ⟨h1,h2⟩
   .show .inl ⟨b,v,by simp[h1],h2,h3,h4⟩
   .show .inr ⟨by simp[c2];simpa using h1,h2⟩
theorem BG.some(h:BG f P as kvs)(hz:z∈as.map f):∃ a v,a∈as/\f a=z/\gR kvs (aZ z)=some v/\P a v:=by
 rcases h.get (z:=z)with h | ⟨h,_⟩
 .show h
 .show absurd hz h
theorem BG.none(h:BG f P as kvs)(hz:z∉as.map f):gR kvs (aZ z)=none:=by
 rcases h.get (z:=z)with⟨a,v,h1,h2,_⟩ | ⟨_,h⟩
 .show absurd (h2 ▸ List.mem_map_of_mem (f:=f) h1) hz
 .show h
theorem BG.val(h:BG f P as kvs):(gR kvs (aZ z)).isSome=decide (z∈as.map f):=by
 by_cases c:z∈as.map f
 .let(a,v,_,_,e,_):=h.some c;rw[e,decide_eq_true c];rfl
 .rw[h.none c,decide_eq_false c];rfl
theorem BG.new(h:BG f P as kvs)(hn:f a∉as.map f)(p:P a v):BG f P (as++[a]) (putK kvs (aZ (f a)) v):=by
 have e:putK kvs (aZ (f a)) v=kvs++[(aZ (f a),v)]:=by
  unfold putK;rw[h.any,if_neg (by simpa using hn)]
 rw[e];show(by rw[dy,dy,h.1];rfl,by rw[dy];show h.2.append (.one p))
end
structure PD where
 nm:Str
 st:Str
 en:Str
 sz:Int × Int
 mo:Int × Int
 wt:Int
def tU(p:PD)(f:Str):List (Str × Pr):=if p.st=f then[(p.en,(p.nm,true))]else if p.en=f then[(p.st,(p.nm,false))]else[]
def mQ(ls:List PD)(f:Str):List (Str × Pr):=ls.flatMap λp=>tU p f
theorem B8(ls:List PD)(p:PD)(f:Str):mQ (ls++[p]) f=mQ ls f++tU p f:=by simp[mQ]
variable{ls:List PD}{pr:Pr}
theorem nQ{f g:Str}:(g,pr)∈mQ ls f↔∃ p∈ls,(p.st=f/\p.en=g/\pr=(p.nm,true))\/(p.st≠f/\p.en=f/\p.st=g/\pr=(p.nm,false)):=by
 unfold mQ;rw[ia];show exists_congr λp=>and_congr_right λ_=>?_;unfold tU;by_cases a:p.st=f
 .rw[if_pos a,bf,Prod.mk.injEq];show(λh=>.inl ⟨a,h.1.symm,h.2⟩,λh=>h.elim (λh=>⟨h.2.1.symm,h.2.2⟩) λh=>absurd a h.1)
 .rw[if_neg a];by_cases b:p.en=f
  .rw[if_pos b,bf,Prod.mk.injEq];show(λh=>.inr ⟨a,b,h.1.symm,h.2⟩,λh=>h.elim (λh=>absurd h.1 a) λh=>⟨h.2.2.1.symm,h.2.2.2⟩)
  .rw[if_neg b];show(λh=>by simp at h,λh=>h.elim (λh=>absurd h.1 a) λh=>absurd h.2.1 b)
theorem yE:∀{ls:List PD}{p q:PD},(ls.map (·.nm)).Nodup->p∈ls->q∈ls->p.nm=q.nm->p=q
 | [],_,_,_,hp,_,_=>by cases hp
 | a::ls,p,q,hn,hp,hq,e=>by
  rw[dw,gy]at hn;rcases eP.mp hp with h1 | h1 <;> rcases eP.mp hq with h2 | h2
  .rw[h1,h2]
  .subst h1;show absurd (e ▸ di.mpr ⟨q,h2,rfl⟩) hn.1
  .subst h2;show absurd (e ▸ di.mpr ⟨p,h1,rfl⟩) hn.1
  .show yE hn.2 h1 h2 e
inductive kZ(ls:List PD)(a:Str):List Pr->Str->Prop
 | nil:kZ ls a [] a
 | snoc {w:List Pr} {f g:Str} {pr:Pr}:kZ ls a w f->(g,pr)∈mQ ls f->kZ ls a (w++[pr]) g
def iX(ls:List PD)(a b:Str):Prop:=∃ w,kZ ls a w b
variable{a b:Str}{S:List Str}
theorem KQ(ha:a∈S)(hc:∀ f∈S, ∀ e∈mQ ls f,e.1∈S)(h:iX ls a b):b∈S:=by
 let(w,h):=h;induction h with
 | nil=>show ha
 | snoc _ hm ih=>show hc _ ih _ hm
def lG(ls:List PD):List Str:=ls.flatMap λp=>[p.st,p.en]
theorem F5{f:Str}{e:Str × Pr}(h:e∈mQ ls f):e.1∈lG ls:=by
 let(p,b,a):=ia.mp h;show ia.mpr ⟨p,b,?_⟩;unfold tU at a;split at a
 .rw[bf.mp a];simp
 .split at a
  .rw[bf.mp a];simp
  .simp at a
theorem Gj{w:List Pr}(h:kZ ls a w b):b∈a::lG ls:=by
 cases h with
 | nil=>simp
 | snoc _ hm=>show dZ _ (F5 hm)
theorem KL(ls:List PD):(lG ls).length=2*ls.length:=by
 unfold lG;induction ls with
 | nil=>rfl
 | cons p ls ih=>
  rw[List.flatMap_cons,dR,ih];simp;ac_nf
section
variable{pins:List (Addr × Obj)}{σ:List (Option V)}{s':da}{d:Addr}{kvs':List (gD × V)}{od:Obj}{s:da}
theorem Inv.freeze(I:Inv X pins σ H s)(e:H d=some (.dK kvs))(ho:s.heap.get? d=some od):Inv X pins σ (upd H d (.frz od (.dK kvs))) s:=by
 show I.un (h':=s.heap) (t':=s.toks) ⟨λb o q _ _ _=>q,λb o q _ _ _=>⟨o.slots,q⟩,λb o q n _=>?_,λb o q _=>⟨o,q⟩,λb h q=>?_,λb o u q=>?_,λb j q=>⟨#[],?_⟩⟩ λa o q=>?_
 .rw[fF (λz=>by rw[z,e]at n;cases n)];show n
 .rw[fF (λz=>by rw[z,e]at q;cases q)];show q
 .rw[fF (λz=>by rw[z,e]at q;cases q)];show q
 .rw[fF (λz=>by rw[z,e]at q;cases q),Array.append_empty];show q
 .have f:∀ i b,H b=some (.own i)->upd H d (.frz od (.dK kvs)) b=some (.own i):=λi b q=>by
   rw[fF (λz=>by rw[z,e]at q;cases q)];show q
  have g:∀ b h,H b=some (.tup h)->upd H d (.frz od (.dK kvs)) b=some (.tup h):=λb h q=>by
   rw[fF (λz=>by rw[z,e]at q;cases q)];show q
  by_cases c:a=d
  .subst c;rw[jo]at q;cases q;show(ho,(I.hok a _ e).stay (λ_ _ _ z=>z) (f a) g)
  .rw[fF c]at q;show(I.hok a o q).stay (λ_ _ _ z=>z) (f a) g
theorem Inv.thaw{σ':St}(I:Inv X pins σ H s)(e:H d=some (.dK kvs))(I':Inv X pins σ' H' s')(e':H' d=some (.frz od (.dK kvs'))):Inv X pins σ' (upd H' d (.dK kvs')) s':=by
 have m:∀{b:Addr}{o:HO},H' b=some o->(∀ u v,o≠.frz u v)->b≠d:=λq h z=>by rw[z,e']at q;cases q;show h _ _ rfl
 show(I'.ok,I'.os,I'.bare,⟨I'.base.keep,I'.base.slot,λb o q n B=>?_,I'.base.there,λb j q=>?_,λb o u q=>?_,λb y q=>?_⟩,I'.loc,I'.cell,?_,λx c z=>?_,λp t=>?_,λa o q=>?_,I'.len)
 .have:=I'.base.free b o q n B;rw[fF (λz=>by rw[z,e']at this;cases this)];show this
 .have:=I'.base.tups b j q;rw[fF (m this (by intro u v z;cases z))];show this
 .have f:=I'.base.frzs b o u q;have g:=I.base.frzs b o u q;rw[fF (λz=>by rw[z,e]at g;cases g)];show f
 .let(k,f):=I'.base.tbls b y q;show(k,by rw[fF (m f (by intro u v z;cases z))];show f)
 .have:=I'.free;rw[fF (λz=>by rw[z,e']at this;cases this)];show this
 .have:=I'.freeC x c z;rw[fF (λz=>by rw[z,e']at this;cases this)];show this
 .let(f,g,A):=I'.pin p t;show(f,by rw[fF (λz=>by rw[z,e']at g;cases g)];show g,A)
 .have l:∀ r b,H' b=some (.own r)->upd H' d (.dK kvs') b=some (.own r):=λr b q=>by
   rw[fF (m q (by intro u v z;cases z))];show q
  have i:∀ b j,H' b=some (.tup j)->upd H' d (.dK kvs') b=some (.tup j):=λb j q=>by
   rw[fF (m q (by intro u v z;cases z))];show q
  by_cases c:a=d
  .subst c;rw[jo]at q;cases q;have f:jh X.prog X.w H' s'.heap a (.dK kvs'):=(I'.hok a _ e').2;show f.stay (λ_ _ _ z=>z) (l a) i
  .rw[fF c]at q;show(I'.hok a o q).stay (λ_ _ _ z=>z) (l a) i
end
def zg(d:Addr)(od:Obj)(kvs:List (gD × V)):It :=
 ⟨λi H=>H d=some (.frz od (.dK kvs))/\i<kvs.length,λi H x H'=>H'=H/\(kvs.map (·.2))[i]?=some x,λi H=>H d=some (.frz od (.dK kvs))/\kvs.length<=i⟩
variable{P:fH}{tg:Expr}{d it:Addr}{od:Obj}{ep:Nat}
theorem Mf{w:fA}{K:aW}(rel:KV kvs vs)(hd:∀ h:Heap,h.get? d=some od->h.DictAt (mi P w) d vs ep) :
  Turn P w K tg (zg d od kvs) [it] it (λi h=>h.IsValIter it d i vs.length ep) where
 mem:=by simp
 obj:=λi h a b j=>by
  obtain rfl:b=it:=by simpa using j
  let(o,e,c,z):=a;show(o,e,λv q=>by rw[z]at q;cases q)
 keep:=λi h p a k=>a.at λo e=>k it (by simp) o e
 item:=by
  intro X r C y L i f s σ H E I n a B;subst r C y;let(l,N):=B;let(t,G,Y,F,D,A):=n it (by simp);have g:=(I.hok d _ l).1;have S:=rel.length;have T:=BA rel;obtain⟨x,M⟩:∃ x,(kvs.map (·.2))[i]?=some x:=⟨_,aV (by rw[bc];show N)⟩;let(u,J,U):=T.get M;rw[bg]at J;let((k,Z),Q,rfl):=dM.mp J;show wpAny_pyNext_values_item a (hd _ g) Q λp m O=>?_;have I1:Inv X f σ H { s with heap:=p }:=I.turned (t':=s.toks) (λb o j e=>(O.2 b j).trans e) t G F D A;let(o,e,c,z):=id m;show(_,rfl,nI (s:={ s with heap:=p }) e c z ⋯ ⟨x,H,I1,U,⟨rfl,M⟩,m,λb j=>(n b j).1⟩)
 done:=by
  intro X r C y L i f s σ H E I n a B;subst r C y;let(l,N):=B;let(t,G,Y,F,D,A):=n it (by simp);have g:=(I.hok d _ l).1;have S:=rel.length;show wpAny_pyNext_values_end (I.ok.hd L) a (hd _ g) (eN ∅) λp R=>⟨rfl,I.turned (t':=s.toks) (λb o j e=>R b o j e) t G F D A⟩
 self:=λ_ _ _ _ _ a h=>wpAny_pyIter_valiter a h
def tN(td:TE):TI:=λσ H R=>td σ H λx H1=>∃ d kvs,x=.ref d/\H1 d=some (.dK kvs)/\∀ od,R (zg d od kvs) (upd H1 d (.frz od (.dK kvs)))
theorem FT{td:TE}(ho:PE X o td)(hb:autoParam (iL o "values" X.env (eval o X.env)=eval o X.env) Au)(hn:autoParam ((apos.endLine == cpos.line)=true) Au) :
  PI X tg (.Call (.Attribute o "values" apos) [] [] cpos) (tN td):=by
 intro c s σ H R I h;show kr hb hn (iF (ho c s σ H _ I h) λv a ζ=>?_);let(y,D,I1,r,d,kvs,u,e,A):=ζ;subst u;obtain rfl:v=eK d:=r;let(k,x,B):=vC I1 (.inl ⟨kvs, .inl e⟩);let(C,_,vs,i,l):=mN I1.hok e;show("dict","dict.values",iq,ic,PySem.F.type_dict_values,k,x,gH rfl (kP ?_));show jQ ic k PySem.F.entry_dict_values (kW _) (meets_dict_values (mi X.prog X.w) d B) ⟨⟨vs,l⟩,?_⟩;let(ep,m):=l.dictAt;let(j,t,f,rest):=id m;show wpAny_pyIter_values (knd:=mi X.prog X.w) (v:=a.heap.objs.size) (d:=d) (kvs:=vs) (ep:=ep) ⟨_,dP _ rfl,rfl,rfl⟩ (m.push _) ?_;have p:∀ b o,a.heap.get? b=some o->((a.heap.push { cls:=.type "dict_values",data:=.fields #[.ref d] }).push { cls:=.type "dict_valueiterator",data:=.fields #[.ref d, .int 0 0, .int vs.length 0, .int ep 0] }).get? b=some o:=λb o z=>df _ (df _ z);have I2:=(I1.freeze e f).kept (t':=a.toks) p;have n:a.heap.objs.size<=(a.heap.push { cls:=.type "dict_values",data:=.fields #[.ref d] }).objs.size:=by
  rw[je];show Nat.le_succ _
 show(_,[_],_,_,_,rfl,I2,Mf (vs:=vs) (ep:=ep) i (λh q=>⟨j,t,q,rest⟩),⟨_,dP _ rfl,rfl,rfl⟩,λb g=>?_,A j);obtain rfl:=bf.mp g;show I1.fpOk n ((I1.freeze e f).hok.fresh n)
def qX(t:TE):TE:=λσ H Q=>∃ d kvs,H d=some (.dK kvs)/\t σ H λv H'=>∃ od kvs',H' d=some (.frz od (.dK kvs'))/\Q v (upd H' d (.dK kvs'))
theorem Bv{t:TE}(h:PE X e t):PE X e (qX t):=by
 intro a s σ H Q I ⟨d,i,c,q⟩;show iF (h a s σ H _ I q) λv l ζ=>by let(x,m,I1,f,k,b,g,j):=ζ;show(x,_,I.thaw c I1 g,f,j)
section
variable{te tl:TE}{σ:St}{Q:VK}{k:Nat}{cs:List (Nat × Str)}{g:TG}{td:TE}
theorem Jr:qX (oU k cs (tN td) g te) σ H Q=∃ d kvs,H d=some (.dK kvs)/\td σ H λx H1=>∃ d1 kvs1,x=.ref d1/\H1 d1=some (.dK kvs1)/\∀ od,jW (zg d1 od kvs1) k cs g te σ (λv H'=>∃ od kvs',H' d=some (.frz od (.dK kvs'))/\Q v (upd H' d (.dK kvs'))) (upd H1 d1 (.frz od (.dK kvs1))):=rfl
theorem jW.vals(Pv:Nat->List V->Hp->Prop)(h0:Pv 0 [] H1)(hl:∀ i ys H',i<=kvs.length->Pv i ys H'->H' d=some (.frz od (.dK kvs))/\ys.length<=sizeLine)
  (hs:∀ i x ys H2,(kvs.map (·.2))[i]?=some x->Pv i ys H2->g x (dF k none++mw cs σ) H2 λσ4 H4=>te σ4 H4 λy H5=>Pv (i+1) (ys++[y]) H5) (hd:∀ ys H2,Pv kvs.length ys H2->∀ p,H2 p=none->Q (.ref p) (upd H2 p (.lst ys))) :
  jW (zg d od kvs) k cs g te σ Q H1:=by
 show(λi m ys H'=>Pv i ys H'/\i<=kvs.length/\m=kvs.length-i,⟨_,h0,dG _,rfl⟩,?_);rintro i m ys H2 ⟨a,n,rfl⟩;let(b,f):=hl i ys H2 n a;show(f,?_);by_cases c:i<kvs.length
 .show .inr ⟨⟨b,c⟩,?_⟩;rintro x h ⟨rfl,l⟩;have e:(λ(σ4:St)(H4:Hp)=>te σ4 H4 λy H5=>Pv (i+1) (ys++[y]) H5)=λσ4 H4=>te σ4 H4 λy H5=>∃ m',m'<kvs.length-i/\Pv (i+1) (ys++[y]) H5/\i+1<=kvs.length/\m'=kvs.length-(i+1):=by
   funext σ4 H4
   congr 1
   funext y H5
   show propext ⟨λq=>⟨_,jf c (ik i),q,c,rfl⟩,λζ=>by let(_,_,q,_):=ζ;show q⟩
  rw[<- e];show hs i x ys h l a
 .have j:i=kvs.length:=by ac_nf
  subst j;show .inl ⟨⟨b,dh _⟩,hd ys H2 a⟩
end
section
variable{k':Nat}{C:Addr}{ps:List Str}{sp:Sp}{E:XK}{p:Pos}{k:Nat}
theorem mJ.ev0(G:mJ X.prog X.w X.K X.mg X.base k x C ps sp)(hr:kh k' X.A)(hk:k+1<=k')(hg:Gl X x)(hx:rz (ou X.prog X.w) X E)(hdb:autoParam ((x == ("__debug__" : Str))=false) Au) :
  PE X (.Call (.Name x p) [] [] pos) (oS C sp [] E tNil):=by
 let(f,c,F,b,M,a):=G.ex;show Mo M F (hr.mono hk) hg b a .nil hx hdb
end
def wtB:D->Bool
 | .int i=>decide (1<=i)
 | _=>false
def partB:D->Bool
 | .tup [n,s,e,z,m,w]=>nameB n&&Em s e&&(fracB z&&fracB m&&J4 w)&&(!lessD m (.tup [.int 0, .int 1])&&wtB w)
 | _=>false
def gapB:D->Bool
 | .tup [n,s,e,l,g]=>tieB (.tup [n,s,e,l,g])&&!nonD l&&!nonD g
 | _=>false
structure sI(p:PD):Prop where
 n1:kb p.nm=true
 n2:kb p.st=true
 n3:kb p.en=true
 ne:p.st≠p.en
 z:FOk 200 p.sz
 m:FOk 200 p.mo
 m0:0<=p.mo.1
 w:1<=p.wt
 ws:Mth.Sz 200 p.wt
structure GD where
 nm:Str
 st:Str
 en:Str
 lo:Int × Int
 hi:Int × Int
def GD.td(g:GD):TD:=⟨g.nm,g.st,g.en,some g.lo,some g.hi⟩
def vk(p:PD):D:=.tup [.str p.nm, .str p.st, .str p.en,og p.sz,og p.mo, .int p.wt]
def mV(K:aW)(H:Hp)(p:PD)(x:V):Prop:=∃ b vz vm,x=.ref b/\gZ K H b [.str p.nm, .str p.st, .str p.en,vz,vm, .int p.wt]/\fO K H vz p.sz.1 p.sz.2/\fO K H vm p.mo.1 p.mo.2
section
variable{K:aW}{p:PD}{x:V}
theorem mV.sameT(S:dH H H'):mV K H p x->mV K H' p x:=by rintro⟨b,a,c,e,q,d,f⟩;show(b,a,c,e,q.sameT S,d.sameT S,f.sameT S)
theorem mV.rep:mV K H p x->Rep K H (vk p) x:=by
 rintro⟨b,d,f,e,q,a,c⟩;simp only[vk,Rep,iJ];show(b,_,e,q,_,_,rfl,rfl,_,_,rfl,rfl,_,_,rfl,rfl,_,_,rfl,fO.rep a,_,_,rfl,fO.rep c,_,_,rfl,rfl,rfl)
end
def qC(H:Hp)(e:Str × Pr)(x:V):Prop:=∃ b c,x=.ref b/\H b=some (.tup [.str e.1, .ref c])/\H c=some (.tup [.str e.2.1, .bl e.2.2])
variable{e:Str × Pr}
theorem qC.sameT{x:V}(S:dH H H'):qC H e x->qC H' e x:=by rintro⟨b,c,a,d,f⟩;show(b,c,a,S _ _ rfl d,S _ _ rfl f)
structure JD(H0 H:Hp)(L:Str->List (Str × Pr))(kvs:List (gD × V)):Prop where
 at_:∀(f:Str),(gR kvs (aZ f)=none/\L f=[])\/∃ l xs,gR kvs (aZ f)=some (.ref l)/\H0 l=none/\H l=some (.lst xs)/\fh (qC H) (L f) xs
 inj:∀(f g:Str)(l:Addr),gR kvs (aZ f)=some (.ref l)->gR kvs (aZ g)=some (.ref l)->f=g
variable{H0:Hp}{L:Str->List (Str × Pr)}
theorem JD.same(S:dC H H')(h:JD H0 H L kvs):JD H0 H' L kvs where
 at_:=λf=>by
  rcases h.at_ f with h | ⟨l,xs,h1,h2,h3,h4⟩
  .show .inl h
  .show .inr ⟨l,xs,h1,h2,S _ _ h3,h4.mono λ_ _ z=>z.sameT S.t⟩
 inj:=h.inj
theorem JD.sx{kv2:List (gD × V)}(S:∀ b u,b≠d->H b=some u->H' b=some u)(hd:H d=some (.dK kv2))(h:JD H0 H L kvs):JD H0 H' L kvs where
 at_:=λf=>by
  have T:dH H H':=λb u t q=>S b u (λz=>by rw[z,hd]at q;cases q;simp[isTF]at t) q;rcases h.at_ f with h | ⟨l,xs,h1,h2,h3,h4⟩
  .show .inl h
  .show .inr ⟨l,xs,h1,h2,S _ _ (λz=>by rw[z,hd]at h3;cases h3) h3,h4.mono λ_ _ z=>z.sameT T⟩
 inj:=h.inj
variable{o:HO}
theorem JD.sy{x:Addr}(S:∀ b u,b≠x->H b=some u->H' b=some u)(hx:H x=some o)(hn:∀ xs,o≠.lst xs)(ht:isTF o=false)(h:JD H0 H L kvs):JD H0 H' L kvs where
 at_:=λf=>by
  have T:dH H H':=λb u t q=>S b u (λz=>by rw[z,hx]at q;cases q;rw[ht]at t;cases t) q;rcases h.at_ f with h | ⟨l,xs,h1,h2,h3,h4⟩
  .show .inl h
  .show .inr ⟨l,xs,h1,h2,S _ _ (λz=>by rw[z,hx]at h3;show hn _ (eh h3)) h3,h4.mono λ_ _ z=>z.sameT T⟩
 inj:=h.inj
theorem JD.nil:JD H0 H (λ_=>[]) []:=⟨λf=>.inl ⟨rfl,rfl⟩,λf g l h=>by simp[gR]at h⟩
def nA(L:Str->List (Str × Pr))(f:Str)(e:Str × Pr):Str->List (Str × Pr):=λg=>if g=f then L g++[e]else L g
variable{l b:Addr}
theorem JD.more{f:Str}(h:JD H0 H L kvs)(hv:gR kvs (aZ f)=some (.ref l))(hl:H l=some (.lst xs))(hb:qC H e (.ref b))(e':upd H l (.lst (xs++[.ref b]))=H'):JD H0 H' (nA L f e) kvs where
 at_:=λg=>by
  have T:dH H H':=dH.put e' hl rfl;have a:H' l=some (.lst (xs++[.ref b])):=by rw[<- e',jo]
  by_cases c:g=f
  .subst c;rcases h.at_ g with⟨h1,_⟩ | ⟨l2,xs2,h1,h2,h3,h4⟩
   .rw[hv]at h1;cases h1
   .rw[hv]at h1;cases h1;rw[hl]at h3;cases h3;show .inr ⟨l,_,hv,h2,a,?_⟩;unfold nA;rw[if_pos rfl];show(h4.mono λ_ _ z=>z.sameT T).append (.one (hb.sameT T))
  .unfold nA;rw[if_neg c];rcases h.at_ g with h1 | ⟨l2,xs2,h1,h2,h3,h4⟩
   .show .inl h1
   .have d:l2≠l:=λz=>c (h.inj g f l (by rw[h1,z]) hv);show .inr ⟨l2,xs2,h1,h2,by rw[<- e',fF d];show h3,h4.mono λ_ _ z=>z.sameT T⟩
 inj:=h.inj
theorem JD.first{f:Str}(h:JD H0 H L kvs)(hv:gR kvs (aZ f)=none)(h0:H0 l=none)(hn:∀ g l',gR kvs (aZ g)=some (.ref l')->l'≠l)(hl:H l=some (.lst []))(hb:qC H e (.ref b))(e':upd H l (.lst [.ref b])=H'):JD H0 H' (nA L f e) (putK kvs (aZ f) (.ref l)) where
 at_:=λg=>by
  have T:dH H H':=dH.put e' hl rfl;have n:H' l=some (.lst [.ref b]):=by rw[<- e',jo]
  rw[yL];by_cases c:g=f
  .subst c;rw[if_pos rfl];show .inr ⟨l,_,rfl,h0,n,?_⟩;unfold nA;rw[if_pos rfl];rcases h.at_ g with⟨_,d⟩ | ⟨l2,xs2,a,_⟩
   .rw[d];show .one (hb.sameT T)
   .rw[hv]at a;cases a
  .have o:(aZ g:gD)≠aZ f:=λz=>c (by injection z);rw[if_neg o];unfold nA;rw[if_neg c];rcases h.at_ g with a | ⟨l2,xs2,a,d,h3,h4⟩
   .show .inl a
   .show .inr ⟨l2,xs2,a,d,by rw[<- e',fF (hn g l2 a)];show h3,h4.mono λ_ _ z=>z.sameT T⟩
 inj:=λm k l' a d=>by
  rw[yL]at a d;by_cases j:(aZ m:gD)=aZ f
  .by_cases i:(aZ k:gD)=aZ f
   .have:=j.trans i.symm;injection this
   .rw[if_pos j]at a;rw[if_neg i]at d;cases a;show absurd rfl (hn k l d)
  .by_cases i:(aZ k:gD)=aZ f
   .rw[if_neg j]at a;rw[if_pos i]at d;cases d;show absurd rfl (hn m l a)
   .rw[if_neg j]at a;rw[if_neg i]at d;show h.inj m k l' a d
theorem GM{p:PD}(h:p.st≠p.en):nA (nA (mQ ls) p.st (p.en,(p.nm,true))) p.en (p.st,(p.nm,false))=mQ (ls++[p]):=by
 funext g
 rw[B8];unfold nA tU;by_cases a:g=p.en
 .subst a;have e:p.en≠p.st:=λz=>h z.symm;simp[h,e]
 .have b:p.en≠g:=λz=>a z.symm;by_cases c:g=p.st
  .subst c;simp[a]
  .have d:p.st≠g:=λz=>c z.symm;simp[a,c,b,d]
theorem F4(ls:List PD)(f:Str):(mQ ls f).length<=ls.length:=by
 unfold mQ;induction ls with
 | nil=>simp
 | cons p ls ih=>
  rw[List.flatMap_cons,dR,dQ];have : (tU p f).length<=1:=by
   unfold tU;split
   .simp
   .split <;> simp
  ac_nf
def yg(H H':Hp)(wl:Addr)(a:Str × List Pr)(v:V):Prop:=∃ l xs,v=.ref l/\H l=none/\l≠wl/\H' l=some (.lst xs)/\fh (CV H') a.2 xs
structure mT(H:Hp)(ls:List PD)(one:Str)(fd wl:Addr)(H':Hp)(ws:List (Str × List Pr))(wt:List Str):Prop where
 same:dC H H'
 dict:∃ kvs,H' fd=some (.dK kvs)/\BG (·.1) (yg H H' wl) ws kvs
 nd:(ws.map (·.1)).Nodup
 here:one∈ws.map (·.1)
 walk:∀ a∈ws,kZ ls one a.2 a.1
 wait:H' wl=some (.lst (wt.map V.str))
 sub:∀ f∈wt,f∈ws.map (·.1)
 lw:∀ a∈ws,a.2.length<=ws.length
 sim:∀ a∈ws,(a.2.map (·.1)).Nodup/\∀ p∈ls,p.nm∈a.2.map (·.1)->p.st∈ws.map (·.1)/\p.en∈ws.map (·.1)
section
variable{H'':Hp}{fd wl:Addr}{ws:List (Str × List Pr)}{wt:List Str}{one:Str}
theorem mT.len(h:mT H ls one fd wl H' ws wt)(hl:ls.length<=20):ws.length<=41:=by
 have:=sub_len (ws.map (·.1)) (one::lG ls) h.nd λz b=>by
  let(a,c,rfl):=di.mp b;show Gj (h.walk a c)
 rw[bc,dQ,KL]at this;ac_nf
theorem mT.grow(h:mT H ls one fd wl H' ws wt)(S:dC H' H''):mT H ls one fd wl H'' ws wt:=by
 let(b,g,j):=h.dict;show(h.same.trans S,⟨b,S _ _ g,j.mono λa v ζ=>by let(l,i,e,c,f,k,d):=ζ;show(l,i,e,c,f,S _ _ k,d.mono λ_ _ z=>z.sameT S.t)⟩,h.nd,h.here,h.walk,S _ _ h.wait,h.sub,h.lw,h.sim)
theorem mT.wait'{wt':List Str}(h:mT H ls one fd wl H' ws wt)(hw:H wl=none)(e:upd H' wl (.lst (wt'.map V.str))=H'')(hs:∀ f∈wt',f∈ws.map (·.1)):mT H ls one fd wl H'' ws wt':=by
 let(d,i,o):=h.dict;have T:dH H' H'':=dH.put e h.wait rfl;have g:fd≠wl:=λz=>by have:=h.wait;rw[<- z,i]at this;cases this
 show(λb u q=>by rw[<- e,fF (iy q hw)];show h.same _ _ q,⟨d,by rw[<- e,fF g];show i,o.mono λa v ζ=>by let(l,n,m,j,c,p,k):=ζ;show(l,n,m,j,c,by rw[<- e,fF c];show p,k.mono λ_ _ z=>z.sameT T)⟩,h.nd,h.here,h.walk,by rw[<- e,jo],hs,h.lw,h.sim)
theorem mT.find{g:Str}{w:List Pr}(h:mT H ls one fd wl H' ws wt)(hk:H' fd=some (.dK kvs))(hb:BG (·.1) (yg H H' wl) ws kvs)(hf:H fd=none)(hg:g∉ws.map (·.1))(hwk:kZ ls one w g)(hlw:w.length<=ws.length+1)(hsm:(w.map (·.1)).Nodup/\∀ p∈ls,p.nm∈w.map (·.1)->p.st∈(ws++[(g,w)]).map (·.1)/\p.en∈(ws++[(g,w)]).map (·.1))(hl:H l=none)(hne:l≠wl)(hx:H' l=some (.lst xs))(ha:fh (CV H') w xs)
  (e:upd H' fd (.dK (putK kvs (aZ g) (.ref l)))=H''):mT H ls one fd wl H'' (ws++[(g,w)]) wt:=by
 have T:dH H' H'':=dH.put e hk rfl;have m:wl≠fd:=λz=>by have:=h.wait;rw[z,hk]at this;cases this
 have d:∀{b:Addr}{ys:List V},H' b=some (.lst ys)->H'' b=some (.lst ys):=λq=>by rw[<- e,fF (λz=>by rw[z,hk]at q;cases q)];show q
 show(λb u q=>by rw[<- e,fF (iy q hf)];show h.same _ _ q,⟨_,by rw[<- e,jo],?_⟩,?_,?_,?_,d h.wait,?_,?_,?_)
 .have:=hb.mono (P':=yg H H'' wl) λa v ⟨l,xs,k,c,hne,hx,ha⟩=>⟨l,xs,k,c,hne,d hx,ha.mono λ_ _ z=>z.sameT T⟩;show this.new (a:=(g,w)) hg ⟨l,xs,rfl,hl,hne,d hx,ha.mono λ_ _ z=>z.sameT T⟩
 .rw[dy,fD];show(h.nd,by simp,λa ha b hb z=>hg ?_);rw[dw,fP,bf]at hb;have hb:b=g:=hb;rw[<- hb, <- z];show ha
 .rw[dy];show dk.mpr (.inl h.here)
 .intro a ha;rcases dk.mp ha with ha | ha
  .show h.walk a ha
  .rw[bf.mp ha];show hwk
 .intro f i;rw[dy];show dk.mpr (.inl (h.sub f i))
 .intro a ha;rw[dR,dD];rcases dk.mp ha with ha | ha
  .have:=h.lw a ha;ac_nf
  .rw[bf.mp ha];show hlw
 .intro a ha;rcases dk.mp ha with ha | ha
  .show((h.sim a ha).1,λp j c=>?_);have:=(h.sim a ha).2 p j c;rw[dy];show(dk.mpr (.inl this.1),dk.mpr (.inl this.2))
  .rw[bf.mp ha];show hsm
end
def tQ(H:Hp)(ls:List PD)(g:GD)(v:V):Prop:=∃ l xs w,v=.ref l/\H l=some (.lst xs)/\fh (CV H) w xs/\kZ ls g.st w g.en/\(w.map (·.1)).Nodup
theorem tQ.same{g:GD}(S:dC H H'):tQ H ls g v->tQ H' ls g v:=by rintro⟨l,a,w,b,c,e,d⟩;show(l,a,w,b,S _ _ c,e.mono λ_ _ z=>z.sameT S.t,d)
variable{es:List Expr}
theorem Bu{K:aW}{k:Nat}{t:rN}(hK:X.K=K)(hc:X.calm=true)(h:vq X es t)(hn:autoParam ((kT es X.env).length=n) Au)(hst:autoParam ((kT es X.env).findIdx? (·.1)=none) Au):PG X (.Tuple es k pos) (xn K n t):=by
 subst hK;show sO hc h hn hst
abbrev jC:=Int × Int
section
variable{te:TE}{ta:TA}{σ:St}{Q:VK}{a:Addr}{zs:List V}{K:aW}{k:Nat}{cs:List (Nat × Str)}{g:TG}
end
section
variable{Q:VK}{K:aW}
end
variable{β:Type}
theorem fh.map{P : α->V->Prop}{P' : β->V->Prop}{f : α->β}:∀{as:List α}{xs:List V},fh P as xs->(∀ a∈as, ∀ x,P a x->P' (f a) x)->fh P' (as.map f) xs
 | [],xs,h,_=>h
 | a::as,xs,h,m=>by
  let(x,r,rfl,h1,h2):=h;show(x,r,rfl,m a (by simp) x h1,fh.map h2 λb hb=>m b (by simp[hb]))
section
variable{prog:fH}{A:fZ}{E:aX->da->Prop}{w:fA}{s:da}
end
section
variable{prog:fH}{A:fZ}{E:aX->da->Prop}{w:fA}{s:da}
end
variable{elts:List Expr}{x1:Nat}{tp:Pos}
section
variable{te:TE}{ta:TA}{σ:St}{Q:VK}{a:Addr}{K:aW}{k:Nat}{cs:List (Nat × Str)}{g:TG}
end
def vW(lo c:Int)(n:Nat):It:=⟨λi _=>i<n,λi H x H'=>H'=H/\x=.int (lo+i*c),λi _=>n<=i⟩
theorem NP{w:fA}{K:aW}(it:Addr)(lo c:Int)(n:Nat):Turn P w K tg (vW lo c n) [it] it (λi h=>IsRangeIter h it (lo+(i:Nat)*c) ((n:Int)-(i:Nat)) c) where
 mem:=by simp
 obj:=λi h a b f=>by
  have e:b=it:=by simpa using f
  subst e;show(_,a,λv z=>by
   have J:Data.fields _=Data.cell v:=z;cases J)
 keep:=λi h l a k=>k it (by simp) _ a
 item:=by
  intro X m y q x i d s σ H E I j a u;subst m y q;let(p,C,L,B,A,r):=j it (by simp);have W:=Walks.range (prog:=X.prog) (w:=X.w) (I.ok.hd x) it lo c n;show W.item i s _ _ u a λv l D M g G=>?_;let(t,rfl):=M;have I1:Inv X d σ H { s with heap:=l,toks:=D }:=I.turned (λb o f e=>G b o (by simpa using f) e) p C B A r;show(_,rfl,nI (s:={ s with heap:=l,toks:=D }) (n:="range_iterator") g rfl rfl ⋯ ⟨.int (lo+i*c),H,I1,⟨t,rfl⟩,⟨rfl,rfl⟩,g,λb f=>(j b f).1⟩)
 done:=by
  intro X m y q x i d s σ H E I j a u;subst m y q;let(p,C,L,B,A,r):=j it (by simp);show wpAny_pyNext_range_end (I.ok.hd x) a (by have : n<=i:=u;ac_nf) λl F=>⟨rfl,I.turned (t':=s.toks) (λb o f e=>F b o f e) p C B A r⟩
 self:=λ_ _ _ _ _ a h=>wpAny_pyIter_rangeiter a h
def wQ(lo hi c:Int):Nat:=(if lo<hi then(hi-lo-1)/c+1 else 0).toNat
variable{hi c:Int}
theorem GX{lo:Int}(hc:1<=c):((wQ lo hi c:Nat):Int)=ib lo hi c:=by
 unfold wQ ib;rw[if_pos (show c > 0 by ac_nf)];split
 .have:=Int.ediv_nonneg (a:=hi-lo-1) (b:=c) ∅ ∅;ac_nf
 .rfl
theorem NA{lo:Int}(h1:0<=lo)(h2:lo<2 ^ 40)(h3:0<=hi)(h4:hi<2 ^ 40)(h5:1<=c)(h6:c<2 ^ 30):Builtin.Range.small lo hi c=true:=by
 unfold Builtin.Range.small;have e:0<=ib lo hi c/\ib lo hi c<2 ^ 41:=by
  rw[<- GX h5];show(∅,?_);unfold wQ;split
  .have f:=Int.ediv_nonneg (a:=hi-lo-1) (b:=c) ∅ ∅;have d:=Int.ediv_le_self c (show 0<=hi-lo-1 by ac_nf);ac_nf
  .simp
 generalize ib lo hi c=z at e ⊢;simp only[Builtin.Range.rangeFitsLong,gr,Bool.or_eq_true,decide_eq_true_eq,beq_iff_eq];rw[if_pos ∅];simp only[gr,decide_eq_true_eq];ac_nf
variable{σ:St}
theorem Kj{pins:List (Addr × Obj)}{s:da}{R:It->Hp->Prop}{h:Heap}{lo:Int}{t':Nat}(I:Inv X pins σ H { s with heap:=h,toks:=t' })(q:R (vW lo c n) H) :
  yi X pins σ tg R (.ref h.objs.size) { s with heap:=h.push { cls:=.type "range_iterator",data:=.fields #[rawInt lo,rawInt (n:Int),rawInt c] },toks:=t' }:=by
 show(h.objs.size,[h.objs.size],_,_,H,rfl,I.kept (t':=t') λb o e=>df _ e,NP _ lo c n,?_,λb a=>?_,q)
 .have f:lo+((0:Nat):Int)*c=lo:=by simp
  have d:(n:Int)-((0:Nat):Int)=n:=by simp
  show IsRangeIter _ _ (lo+((0:Nat):Int)*c) ((n:Int)-((0:Nat):Int)) c;rw[f,d];show dP _ rfl
 .have e:b=h.objs.size:=by simpa using a
  subst e;show I.fpOk (dh _) (I.hok.fresh (dh _))
def tO(ta:TA):TI:=λσ H R=>ta σ H λvs H1=>∃ i j c:Int,vs=[.int i, .int j, .int c]/\(0<=i/\i<2 ^ 40/\0<=j/\j<2 ^ 40/\1<=c/\c<2 ^ 30)/\R (vW i c (wQ i j c)) H1
variable{ta:TA}
theorem MT{a b d:Expr}{p:Pos}(hg:Gl X "range")(hm:X.mg "range"=none)(ha:PA X [a,b,d] ta)
  (hs:autoParam (eQ [a,b,d] X.env=[(false,eval a X.env),(false,eval b X.env),(false,eval d X.env)]) Au) (hs2:autoParam (eQ [b,d] X.env=[(false,eval b X.env),(false,eval d X.env)]) Au):PI X tg (.Call (.Name "range" p) [a,b,d] [] pos) (tO ta):=by
 intro f s σ H R I h;show gK (sM I hg hm Mc ?_);show gM (iF (ha pos f s σ H _ I h) λz w ζ=>?_) (by rw[hs,hs2]) (by rw[hs2];rfl);let(y,A,I1,n,g):=ζ;let(i,j,c,e,(g,l,u,v,k,m),q):=g;subst e;cases n with
 | cons r rr=>
  cases rr with
  | cons r' rr=>
   cases rr with
   | cons r'' rr=>
    cases rr;let(t,rfl):=r;let(t',rfl):=r';let(x,rfl):=r'';show call_range_3 ∅ ?_ (Or.inl (PyProof.noPylong_small ∅));show wpAny_pyIter_range (IsRange.new ..) (NA g l u v k m) ?_;rw[<- GX k];show Kj (I1.kept (t':=w.toks) λb o e=>df _ e) q
section
variable{tb:TS}{g:TG}{D:Ends}
def sX(lo c:Int)(n:Nat)(g:TG)(tb:TS)(D:Ends)(σ : St)(H:Hp):Prop:=∃ W:Nat->Nat->St->Hp->Prop,(∃ m,W 0 m σ H)/\∀ i m σ H,W i m σ H ->
 ((vW lo c n).stop i H/\D.nx σ H)\/((vW lo c n).go i H/\∃ N:St->Hp->Prop,(∀ σ' H',N σ' H'->∃ m',m'<m/\W (i+1) m' σ' H')/\∀ x H',(vW lo c n).yld i H x H'->g x σ H' λσ2 H2=>tb { D with nx:=N,ct:=N,bk:=D.nx } σ2 H2)
theorem Jd:oT (tO ta) g tb D σ H=ta σ H λvs H1=>∃ i j c:Int,vs=[.int i, .int j, .int c]/\(0<=i/\i<2 ^ 40/\0<=j/\j<2 ^ 40/\1<=c/\c<2 ^ 30)/\sX i c (wQ i j c) g tb D σ H1:=rfl
theorem sX.by{lo:Int}(Pv:Nat->St->Hp->Prop)(h0:Pv 0 σ H)
  (hs:∀ i σ H,i<n->Pv i σ H->g (.int (lo+i*c)) σ H λσ2 H2=>tb { D with nx:=Pv (i+1),ct:=Pv (i+1),bk:=D.nx } σ2 H2) (hd:∀ σ H,Pv n σ H->D.nx σ H):sX lo c n g tb D σ H:=by
 show(λi m σ H=>m=n-i/\i<=n/\Pv i σ H,⟨n,by simp,dG _,h0⟩,?_);rintro i m σ H ⟨rfl,f,p⟩;by_cases a:i<n
 .show .inr ⟨a,Pv (i+1),λσ' d b=>⟨n-(i+1),∅,rfl,a,b⟩,λx d y=>?_⟩;let(e,y):=y;subst e y;show hs i σ _ a p
 .have e:i=n:=by ac_nf
  subst e;show .inl ⟨dh _,hd σ H p⟩
end
theorem IZ{c:TT}{ta tb:TE}{Q:VK}:Ec c ta tb σ H Q=c σ H λb H1=>if b=true then ta σ H1 Q else tb σ H1 Q:=rfl
def wW(xs:List V)(H:Hp)(Q:VK):Prop:=∃ d kvs,xs=[.ref d]/\H d=some (.dK kvs)/\Q (.int (kvs.length:Int)) H
theorem GH:lH X (.builtin "len") wW:=by
 intro c s σ H m n Q I r h;let(d,a,rfl,e,q):=h;let(u,rfl,i):=vals1 r;cases i;let(o,k,j,b,g):=mN I.hok e;have l:=vB;have f:j.length=a.length:=b.length.symm;show call_len_dict k g ∅ ⟨.int (a.length:Int),H,I.tok _,⟨s.toks+1,by rw[f]⟩,q⟩
def vl(a:Int × Int):Rat:=(a.1:Rat)/(a.2:Rat)
theorem mj{a:Int}(h:1<=a):(a:Rat)≠0:=λz=>by
 have : a=0:=by exact_mod_cast z
 ac_nf
variable{a c:Int × Int}
theorem wz(ha:1<=a.2)(hc:1<=c.2):vl a=vl c↔a.1*c.2=c.1*a.2:=by
 unfold vl;have d:=mj ha;have b:=mj hc;have e:((a.1*c.2=c.1*a.2)↔((a.1:Rat)*(c.2:Rat)=(c.1:Rat)*(a.2:Rat))):=by
  constructor
  .intro h;exact_mod_cast h
  .intro h;exact_mod_cast h
 rw[e];generalize(a.1:Rat)=x at *;generalize(a.2:Rat)=y at *;generalize(c.1:Rat)=z at *;generalize(c.2:Rat)=u at *;constructor
 .intro h;grind
 .intro h;grind
theorem E9(ha:1<=a.2)(hc:1<=c.2)(h1:Mth.g a.1 a.2=1)(h2:Mth.g c.1 c.2=1)(h:vl a=vl c):a=c:=by
 have:=Mth.Hh ha hc h1 h2 ((wz ha hc).mp h);show Prod.ext this.1 this.2
theorem oO(ha:1<=a.2)(hc:1<=c.2):vl (fE a c)=vl a+vl c:=by
 have d:a.2*c.2≠0:=iT ∅ ∅;have g:=Mth.cross (t:=a.1*c.2+c.1*a.2) d;have f:=Mth.IC (t:=a.1*c.2+c.1*a.2) d;unfold vl fE;dsimp only;generalize Mth.top (a.1*c.2+c.1*a.2) (a.2*c.2)=t at *;generalize Mth.bot (a.1*c.2+c.1*a.2) (a.2*c.2)=b at *;have h:=mj ha;have i:=mj hc;have j:=mj f;have e:(t:Rat)*((a.2:Rat)*(c.2:Rat))=((a.1:Rat)*(c.2:Rat)+(c.1:Rat)*(a.2:Rat))*(b:Rat):=by exact_mod_cast g
 generalize(a.1:Rat)=x at *;generalize(a.2:Rat)=y at *;generalize(c.1:Rat)=z at *;generalize(c.2:Rat)=u at *;generalize(t:Rat)=t at *;generalize(b:Rat)=b at *;grind
theorem oG(a:Int × Int):vl (gf a) = - vl a:=by
 unfold vl gf;rw[Rat.intCast_neg];grind
theorem qO(ha:1<=a.2)(hc:1<=c.2):lF a c=true↔vl a<vl c:=by
 unfold lF vl;rw[decide_eq_true_iff];have b:(0:Rat)<(a.2:Rat):=by exact_mod_cast (show 0<a.2 by ac_nf)
 have f:(0:Rat)<(c.2:Rat):=by exact_mod_cast (show 0<c.2 by ac_nf)
 have e:((a.1*c.2<c.1*a.2)↔((a.1:Rat)*(c.2:Rat)<(c.1:Rat)*(a.2:Rat))):=by
  constructor
  .intro h;exact_mod_cast h
  .intro h;exact_mod_cast h
 rw[e];rw[Rat.div_lt_iff b];generalize(a.1:Rat)=x at *;generalize(a.2:Rat)=y at *;generalize(c.1:Rat)=z at *;generalize(c.2:Rat)=u at *;have d:z/u*y=z*y/u:=by grind
 rw[d,Rat.lt_div_iff f]
variable{a b c:Str}
theorem kZ.trans{w w':List Pr}(h:kZ ls a w b)(h':kZ ls b w' c):kZ ls a (w++w') c:=by
 induction h' with
 | nil=>
  rw[iM];show h
 | snoc _ hm ih=>
  rw[<- List.append_assoc];show .snoc ih hm
theorem iX.trans:iX ls a b->iX ls b c->iX ls a c:=λ⟨w,h⟩ ⟨d,e⟩=>⟨w++d,h.trans e⟩
theorem iX.refl:iX ls a a:=⟨[], .nil⟩
theorem iX.lead{f g:Str}(h:(g,pr)∈mQ ls f):iX ls f g:=⟨[]++[pr], .snoc .nil h⟩
theorem iX.symm(hn:∀ p∈ls,p.st≠p.en){a b:Str}(h:iX ls a b):iX ls b a:=by
 let(w,h):=h;induction h with
 | nil=>show .refl
 | snoc _ hm ih=>
  obtain⟨p,c,h | h⟩:=nQ.mp hm
  .show iX.trans (.lead (nQ.mpr ⟨p,c, .inr ⟨λz=>hn p c (z.trans h.2.1.symm),h.2.1,h.1,rfl⟩⟩)) ih
  .show iX.trans (.lead (nQ.mpr ⟨p,c, .inl ⟨h.2.2.1,h.2.1,rfl⟩⟩)) ih
variable{p:PD}
theorem iX.mono(h:iX ls a b):iX (ls++[p]) a b:=by
 let(w,h):=h;show(w,?_);induction h with
 | nil=>show .nil
 | snoc _ hm ih=>show .snoc ih (by rw[B8];show dk.mpr (.inl hm))
theorem Mw(hp:p∈ls):iX ls p.st p.en:=.lead (pr:=(p.nm,true)) (nQ.mpr ⟨p,hp, .inl ⟨rfl,rfl,rfl⟩⟩)
theorem Gf(hn:∀ p∈ls,p.st≠p.en){a b:Str}(h:iX ls a b)(hne:a≠b):a∈lG ls/\b∈lG ls:=by
 have c:∀{a b:Str},iX ls a b->a≠b->b∈lG ls:=λ{a b} h hne=>by
  let(w,h):=h;rcases eP.mp (Gj h)with e | e
  .show absurd e.symm hne
  .show e
 show(c (h.symm hn) (gk hne),c h hne)
variable{L:List PD}
theorem iX.sub{L':List PD}(hs:∀ p∈L,p∈L'){a b:Str}(h:iX L a b):iX L' a b:=by
 let(w,h):=h;show(w,?_);induction h with
 | nil=>show .nil
 | snoc _ hm ih=>
  let(p,c,h):=nQ.mp hm;show .snoc ih (nQ.mpr ⟨p,hs p c,h⟩)
def Tree(ls:List PD):Prop:=∀ p∈ls, ¬ iX (ls.filter λx=>decide (x.nm≠p.nm)) p.st p.en
theorem ML(h:e∈mQ L x):x∈lG L/\e.1∈lG L:=by
 show(?_,F5 h);let(p,a,h):=(nQ (g:=e.1) (pr:=e.2)).mp h;show ia.mpr ⟨p,a,?_⟩;rcases h with h | h
 .rw[<- h.1];simp
 .rw[<- h.2.1];simp
theorem iX.retract{q:PD}{f s0:Str}(hq:(q.st=f/\q.en=s0)\/(q.st=s0/\q.en=f))(hf:f∉lG L){a b:Str}(h:iX (L++[q]) a b):iX L (if a=f then s0 else a) (if b=f then s0 else b):=by
 let(w,h):=h;induction h with
 | nil=>show .refl
 | snoc _ hm ih=>
  show ih.trans ?_;rw[B8]at hm;rcases dk.mp hm with h | h
  .have e:=ML h;have g:∀ x∈lG L,x≠f:=λx c z=>hf (z ▸ c);rw[if_neg (g _ e.1),if_neg (g _ e.2)];show .lead h
  .have d:∀ x,mQ [q] x=tU q x:=λx=>by simp[mQ]
   have i:=h;rw[<- d]at i;let(p,j,k):=nQ.mp i;rw[bf]at j;subst j;have e:∀ x:Str,x=p.st\/x=p.en->(if x=f then s0 else x)=s0:=λx c=>by
    split
    .rfl
    .rename_i n;rcases hq with⟨h1,h2⟩ | ⟨h1,h2⟩ <;> rcases c with c | c
     .show absurd (c.trans h1) n
     .show c.trans h2
     .show c.trans h1
     .show absurd (c.trans h2) n
   rcases k with k | k
   .rw[e _ (.inl k.1.symm),e _ (.inr k.2.1.symm)];show .refl
   .rw[e _ (.inr k.2.1.symm),e _ (.inl k.2.2.1.symm)];show .refl
def sgn(b:Bool)(a:Int × Int):Int × Int:=if b then a else gf a
inductive oE(ls:List PD)(pl:Str->Int × Int):Str->List Pr->Str->Prop
 | nil {a:Str}:oE ls pl a [] a
 | cons {a g b:Str} {p:PD} {fw:Bool} {w:List Pr}:p∈ls->vl (pl g)=vl (pl a)+vl (sgn fw p.sz)->oE ls pl g w b->oE ls pl a ((p.nm,fw)::w) b
variable{fw:Bool}
theorem oE.snoc{pl:Str->Int × Int}{f g:Str}{w:List Pr}(h:oE ls pl a w f)(hp:p∈ls)(e:vl (pl g)=vl (pl f)+vl (sgn fw p.sz)):oE ls pl a (w++[(p.nm,fw)]) g:=by
 induction h with
 | nil=>show .cons hp e .nil
 | cons h1 h2 _ ih=>show .cons h1 h2 (ih e)
theorem KA{pl:Str->Int × Int}(hpl:∀ p∈ls,vl (pl p.en)=vl (pl p.st)+vl p.sz){a b:Str}{w:List Pr}(h:kZ ls a w b):oE ls pl a w b:=by
 induction h with
 | nil=>show .nil
 | snoc _ hm ih=>
  obtain⟨p,c,h | h⟩:=nQ.mp hm
  .let(d,e,rfl):=h;show ih.snoc c ?_;rw[<- d, <- e];show hpl p c
  .let(_,d,e,rfl):=h;show ih.snoc c ?_;have:=hpl p c;rw[<- d, <- e,this];show _=_+vl (gf p.sz);rw[oG];grind
variable{a:Int × Int}
theorem FB.mono{D:Nat}(h:FB A B a)(h1:A<=C)(h2:B<=D):FB C D a:=⟨h.s1.mono h1,h.s2.mono h2,h.b1,h.g1⟩
theorem By:FB 1 1 (0,1):=⟨.lit ⋯ ⋯, .lit ⋯ ⋯,⋯,⋯⟩
theorem sR{l:List α}{a x : α}{i:Nat}(h:(l++[a])[i]?=some x):l[i]?=some x\/(i=l.length/\x=a):=by
 by_cases c:i<l.length
 .rw[List.getElem?_append_left c]at h;show .inl h
 .have b:=(aU.mp h).1;rw[dR,dD]at b;have e:i=l.length:=by ac_nf
  subst e;rw[iH (dh _),Nat.sub_self]at h;cases h;show .inr ⟨rfl,rfl⟩
theorem xB{t b:Int}(hb:1<=b):vl (Mth.top t b,Mth.bot t b)=(t:Rat)/(b:Rat):=by
 have a:b≠0:=by ac_nf
 have d:=Mth.cross (t:=t) a;have c:=Mth.IC (t:=t) a;unfold vl;dsimp only;generalize Mth.top t b=x at *;generalize Mth.bot t b=y at *;have f:=mj hb;have g:=mj c;have e:(x:Rat)*(b:Rat)=(t:Rat)*(y:Rat):=by exact_mod_cast d
 generalize(x:Rat)=x at *;generalize(y:Rat)=y at *;generalize(t:Rat)=t at *;generalize(b:Rat)=b at *;grind
theorem FOk.fb(h:FOk n a):FB n n a:=⟨h.s1,h.s2,h.b1,h.g1⟩
def mid(pl:Str->Int × Int)(g:GD):Int × Int:=fE (pl g.en) (gf (pl g.st))
def roomF(pl:Str->Int × Int)(g:GD):Int × Int:=if lF (fE g.hi (gf (mid pl g))) (fE (mid pl g) (gf g.lo))then fE g.hi (gf (mid pl g))else fE (mid pl g) (gf g.lo)
section
variable{A' B' C' D':Nat}{x y z b:Int × Int}{D:Nat}{w m:Int × Int}
theorem FB.inj(h:FB A B x)(k:FB C D y)(e:vl x=vl y):x=y:=E9 h.b1 k.b1 h.g1 k.g1 e
theorem FB.add'(h:FB A B x)(k:FB C D y):FB (A+D+(C+B)+1) (B+D) (fE x y):=FB.add h k ∅ ∅ (dh _)
theorem FB.vadd(h:FB A B x)(k:FB C D y):vl (fE x y)=vl x+vl y:=oO h.b1 k.b1
theorem KB(hx:FB A B x)(hy:FB A B y)(hz:FB C D z)(hw:FB A B w)(e:vl y=vl x+vl z):fE (fE x (gf w)) z=fE y (gf w):=by
 show FB.inj ((hx.add' hw.neg).add' hz) (hy.add' hw.neg) ?_;rw[FB.vadd (hx.add' hw.neg) hz,hx.vadd hw.neg,hy.vadd hw.neg,e,oG];grind
theorem L5(hx:FB A B x):fE x (gf x)=(0,1):=by
 show FB.inj (hx.add' hx.neg) By ?_;rw[hx.vadd hx.neg,oG];have : vl (0,1)=0:=by
  unfold vl;grind
 rw[this];grind
theorem JM{pl:Str->Int × Int}{g:GD}(h:∀ f,FB 302 161 (pl f)):FB 464 322 (mid pl g):=FB.add (h _) (h _).neg ⋯ ⋯ ⋯
end
section
variable{st:Nat}{f : α->Str}{l:List α}{s:Nat}
end
section
variable{x:V}{K:aW}
end
theorem oq{b:Addr}(S:dC H0 H)(h:H b=none):H0 b=none:=by
 cases e:H0 b with
 | none=>rfl
 | some o=>rw[S _ _ e]at h;cases h
theorem J6{t b:Int}(ht:0<=t)(hb:1<=b):0<=Mth.top t b:=by
 have d:=Mth.BN (t:=t) (b:=b) ∅;have c:=Mth.g_pos (a:=t) (b:=b) ∅;have e:Mth.by_ t b=Mth.g t b:=by unfold Mth.by_;rw[if_neg ∅]
 rw[e]at d;rcases Int.lt_or_le (Mth.top t b) 0 with z | z
 .have:=jO z c;ac_nf
 .show z
inductive oX(ls:List PD):Str->List Pr->Str->Prop
 | nil {a:Str}:oX ls a [] a
 | cons {a g b:Str} {p:PD} {fw:Bool} {w:List Pr}:p∈ls->(a=if fw then p.st else p.en)->(g=if fw then p.en else p.st)->oX ls g w b->oX ls a ((p.nm,fw)::w) b
variable{a:Str}
theorem oX.snoc{f g:Str}{w:List Pr}(h:oX ls a w f)(hp:p∈ls)(e1:f=if fw then p.st else p.en)(e2:g=if fw then p.en else p.st):oX ls a (w++[(p.nm,fw)]) g:=by
 induction h with
 | nil=>show .cons hp e1 e2 .nil
 | cons h1 h2 h3 _ ih=>show .cons h1 h2 h3 (ih e1)
theorem rD{w:List Pr}(h:kZ ls a w b):oX ls a w b:=by
 induction h with
 | nil=>show .nil
 | snoc _ hm ih=>
  obtain⟨p,e,h | h⟩:=nQ.mp hm
  .let(c,d,rfl):=h;show ih.snoc e c.symm d.symm
  .let(_,c,d,rfl):=h;show ih.snoc e c.symm d.symm
theorem rE{w:List Pr}(h:oX ls a w b):∀ n∈w.map (·.1),n∈ls.map (·.nm):=by
 induction h with
 | nil=>simp
 | cons h1 _ _ _ ih=>
  intro n c;rw[dw]at c;rcases eP.mp c with e | e
  .rw[e];show di.mpr ⟨_,h1,rfl⟩
  .show ih n e
open PySem.Spec PyProof.Rows
theorem B2(z:Str):∀ ss:List Str,xh (.str z) (ss.map V.str)=decide (z∈ss)
 | []=>by simp[xh]
 | s::ss=>by
  have h:=B2 z ss;unfold xh at h ⊢;rw[dw,jK,h];have e:eqV (.str s) (.str z)=decide (s=z):=by first | rfl | simp[eqV]
  rw[e];by_cases c:s=z
  .subst c;simp
  .have c':¬ z=s:=λq=>c q.symm;simp[c,c']
variable{ks:List PD}
theorem Be(h:(ks.map (·.nm)).Nodup){i:Nat}{p:PD}(hp:ks[i]?=some p):p.nm∉(ks.take i).map (·.nm):=λz=>by
 let(q,f,e):=di.mp z;have e:q.nm=p.nm:=e;have c:=(aU.mp hp).1;let(j,a):=dA f;have d:=(aU.mp a).1;rw[eS]at d;rw[List.getElem?_take_of_lt ∅]at a;have b:=(aU.mp a).1;rw[List.Nodup,List.pairwise_iff_getElem]at h;show h j i (by rw[bc];show b) (by rw[bc];show c) ∅ ?_;rw[List.getElem_map,List.getElem_map];rw[aV b]at a;rw[aV c]at hp;rw[eh a,eh hp];show e
variable{tb:TS}
theorem nh.byN{lo:Int}{g:TG}{D:Ends}(Pv:Nat->St->Hp->Prop)(h0:Pv 0 σ H)
  (hs:∀ i σ H,i<n->Pv i σ H->∀ N:St->Hp->Prop,(∀ σ' H',Pv (i+1) σ' H'->N σ' H')->g (.int (lo+i)) σ H λσ2 H2=>tb { D with nx:=N,ct:=N,bk:=D.nx } σ2 H2) (hd:∀ σ H,Pv n σ H->D.nx σ H):nh lo n g tb D σ H :=
 nh.by Pv h0 (λi σ H a b=>hs i σ H a b _ λ_ _ h=>h) hd
theorem jj.byLN{K:aW}{a:Addr}{g:TG}{D:Ends}(hA:fI K H a xs)(Pv:Nat->St->Hp->Prop)(h0:Pv 0 σ H)(hl:∀ i σ H',Pv i σ H'->fI K H' a xs)
  (hs:∀ i x σ H,xs[i]?=some x->Pv i σ H->∀ N:St->Hp->Prop,(∀ σ' H',Pv (i+1) σ' H'->N σ' H')->g x σ H λσ2 H2=>tb { D with nx:=N,ct:=N,bk:=D.nx } σ2 H2) (hd:∀ σ H,Pv xs.length σ H->D.nx σ H):jj K a g tb D σ H :=
 jj.byL hA Pv h0 hl (λi x σ H b c=>hs i x σ H b c _ λ_ _ h=>h) hd
def sm(f:Str->Rat):List Str->Rat
 | []=>0
 | n::r=>f n+sm f r
theorem xF{f:Str->Rat}{a b:List Str}(h:a.Perm b):sm f a=sm f b:=by
 induction h with
 | nil=>rfl
 | cons _ _ ih=>simp only[sm,ih]
 | swap x y l=>
  simp only[sm];grind
 | trans _ _ ih1 ih2=>show ih1.trans ih2
theorem vF{f:Str->Rat}(n:Str):∀ a:List Str,sm f (a++[n])=sm f a+f n
 | []=>by simp only[kL,sm];grind
 | m::a=>by
  rw[gO];simp only[sm,vF n a];grind
def ya(ks:List PD)(ss:List (Int × Int))(n:Str):Rat:=(((ks.zip ss).find? λx=>decide (x.1.nm=n)).map λx=>vl x.2).getD 0
theorem EJ{ss:List (Int × Int)}{x:PD × (Int × Int)}(hn:(ks.map (·.nm)).Nodup)(hx:x∈ks.zip ss):ya ks ss x.1.nm=vl x.2:=by
 unfold ya;cases e:(ks.zip ss).find? λy=>decide (y.1.nm=x.1.nm)with
 | none=>
  have:=gF.mp e x hx;simp at this
 | some y=>
  have l:=hU e;have m:=kS e;have h:y.1.nm=x.1.nm:=by simpa using m
  let(i,b):=dA hx;let(j,a):=dA l;rw[fN]at b a;have d:=(aU.mp b.1).1;have f:=(aU.mp a.1).1;rw[List.Nodup,List.pairwise_iff_getElem]at hn;have k:(ks.map (·.nm))[i]'(by rw[bc];show d)=x.1.nm:=by
   rw[List.getElem_map];have:=b.1;rw[aV d]at this;rw[eh this]
  have g:(ks.map (·.nm))[j]'(by rw[bc];show f)=y.1.nm:=by
   rw[List.getElem_map];have:=a.1;rw[aV f]at this;rw[eh this]
  have : i=j:=by
   rcases Nat.lt_trichotomy i j with c | c | c
   .show absurd (k.trans (h.symm.trans g.symm)) (hn i j _ _ c)
   .show c
   .show absurd (g.trans (h.trans k.symm)) (hn j i _ _ c)
  subst this;have:=b.2.symm.trans a.2;show vl y.2=vl x.2;rw[eh this]
def Eg(ks:List PD)(es:List (GD × List Str))(ss:List (Int × Int))(pl:Str->Int × Int):Prop:=(∀(i:Nat)(p:PD)(s:Int × Int),ks[i]?=some p->ss[i]?=some s->0<=vl s/\vl s<=vl p.mo)/\∀ e∈es,sm (ya ks ss) e.2<=vl (roomF pl e.1)
def prodI:List Int->Int
 | []=>1
 | f::r=>f*prodI r
theorem xO(f:Int):∀ fs:List Int,prodI (fs++[f])=prodI fs*f
 | []=>by simp[prodI]
 | g::fs=>by rw[gO];simp only[prodI,xO f fs];rw[gu]
structure qy(b:Int)(fs:List Int):Prop where
 b1:1<=b
 f1:∀ f∈fs,1<=f
 pr:prodI fs=b
theorem BU:∀{fs:List Int},(∀ f∈fs,1<=f)->1<=prodI fs
 | [],_=>by simp[prodI]
 | f::fs,h=>by
  have h1:=h f (by simp);have h2:=BU (fs:=fs) λg hg=>h g (by simp[hg]);have:=Int.mul_pos (show 0<f by ac_nf) (show 0<prodI fs by ac_nf);simp only[prodI];ac_nf
theorem GO:∀(as bs:List Int),prodI (as++bs)=prodI as*prodI bs
 | [],bs=>by simp[prodI]
 | a::as,bs=>by rw[gO];simp only[prodI,GO as bs];rw[gu]
variable{a b:Int}
theorem Fm(ha:1<=a)(hb:1<=b):a<=a*b/\b<=a*b:=by
 have d:=Int.mul_le_mul_of_nonneg_left hb (show 0<=a by ac_nf);have c:=Int.mul_le_mul_of_nonneg_right ha (show 0<=b by ac_nf);constructor <;> ac_nf
theorem qy.take{fs:List Int}(h:qy b fs)(i:Nat):1<=prodI (fs.take i)/\prodI (fs.take i)<=b:=by
 have c:=BU (fs:=fs.take i) λf a=>h.f1 f (gU a);have d:=BU (fs:=fs.drop i) λf a=>h.f1 f (List.mem_of_mem_drop a);have e:=GO (fs.take i) (fs.drop i);rw[kA,h.pr]at e;have:=Fm c d;ac_nf
theorem qy.mem{f:Int}{fs:List Int}(h:qy b fs)(hf:f∈fs):f<=b:=by
 let(i,a):=dA hf;have c:=(aU.mp a).1;have t:=h.take (i+1);rw[dX,a]at t;have e:=xO f (fs.take i);have:=Fm (h.take i).1 (h.f1 f hf);simp only[Option.toList_some]at t;ac_nf
theorem oV(h:Mth.Sz n b)(h0:0<=a)(h1:a<=b):Mth.Sz n a:=fj (by ac_nf:a.natAbs<=b.natAbs) h
theorem qy.nil:qy 1 []:=⟨⋯,by simp,rfl⟩
theorem qy.snoc{f:Int}{fs:List Int}(h:qy b fs)(hf:1<=f):qy (b*f) (fs++[f]):=⟨by
 have:=Int.mul_pos (show 0<b by have:=h.b1;ac_nf) (show 0<f by ac_nf);ac_nf,λg a=>by
 rcases dk.mp a with a | a
 .show h.f1 g a
 .rw[bf.mp a];show hf,by rw[xO,h.pr]⟩
structure mB(n:Int × Int)(q:Int)(t:Int × Int):Prop where
 b1:1<=t.2
 g1:Mth.g t.1 t.2=1
 dv:t.2∣n.2
 cr:t.1*n.2=n.1*q*t.2
 ab:t.1.natAbs<=n.1.natAbs*q.natAbs
variable{n:Int × Int}
theorem mB.nil(h:1<=n.2)(g:Mth.g n.1 n.2=1):mB n 1 n:=⟨h,g,Int.dvd_refl _,by rw[iW],by simp⟩
variable{q:Int}
theorem mB.step{t:Int × Int}{f:Int}(h:mB n q t)(hf:1<=f):mB n (q*f) (t.1*f.fdiv (Mth.g t.2 f),t.2.fdiv (Mth.g t.2 f)):=by
 have v:0<Mth.g t.2 f:=Mth.g_pos ∅;have j:=Mth.uN t.2 f;have e:=Mth.uS t.2 f;have i:=Mth.pR j ∅;have p:=Mth.pR e ∅;have l:=Mth.yQ (b:=t.2) (d:=f) rfl ∅;have u:=Mth.xP j ∅ h.b1;have m:=Mth.O0 e ∅;have k:t.2.fdiv (Mth.g t.2 f)∣t.2:=⟨_,i.symm⟩;have o:fJ t.1 (t.2.fdiv (Mth.g t.2 f))=1:=Mth.qm (Mth.tY (Mth.qm (Mth.yW h.g1)) k);have a:=h.cr;have c:=h.ab;generalize t.2.fdiv (Mth.g t.2 f)=r at *;generalize f.fdiv (Mth.g t.2 f)=f' at *;generalize Mth.g t.2 f=s at *;show(u,Mth.Hf (Mth.qm (Mth.vP (Mth.qm o) l)),jR k h.dv,?_,?_)
 .show t.1*f'*n.2=n.1*(q*f)*r;have : t.1*f'*n.2=(t.1*n.2)*f':=by rw[gu,gL f', <- gu]
  rw[this,a, <- i, <- p];simp only[gu,gL,km]
 .show(t.1*f').natAbs<=n.1.natAbs*(q*f).natAbs;rw[gq,gq, <- Nat.mul_assoc];show Nat.mul_le_mul c m
theorem mB.all(h:1<=n.2)(hd:b.fmod n.2=0):mB n b (n.1*b.fdiv n.2,1):=by
 have a:n.2∣b:=by
  rw[hI _ ∅]at hd;show Int.dvd_of_emod_eq_zero hd
 have e:=Mth.pR a ∅;have c:=Mth.O0 a h;show(fW _,by unfold Mth.g;simp,Int.one_dvd _,?_,?_)
 .show n.1*b.fdiv n.2*n.2=n.1*b*1;rw[gu,e,iW]
 .show(n.1*b.fdiv n.2).natAbs<=_;rw[gq];show Nat.mul_le_mul_left _ c
theorem mB.vl{t:Int × Int}(h:mB n q t)(hn:1<=n.2):vl t=vl n*(q:Rat):=by
 have g:=mj hn;have f:=mj h.b1;have e:(t.1:Rat)*(n.2:Rat)=(n.1:Rat)*(q:Rat)*(t.2:Rat):=by exact_mod_cast h.cr
 unfold L2.vl;generalize(t.1:Rat)=a at *;generalize(t.2:Rat)=b at *;generalize(n.1:Rat)=c at *;generalize(n.2:Rat)=d at *;generalize(q:Rat)=q at *;grind
theorem mB.fb{t:Int × Int}(h:mB n q t)(hn:FB A B n)(hq:Mth.Sz C q):FB (A+C) B t:=by
 show(?_,?_,h.b1,h.g1)
 .show fj h.ab ?_;have:=hn.s1.mul hq;unfold Mth.Sz at this;rw[gq]at this;show this
 .show fj ?_ hn.s2;have:=jz.mpr h.dv;show Nat.le_of_dvd (by have:=hn.b1;ac_nf) this
def smF:List (Int × Int)->Rat
 | []=>0
 | a::r=>vl a+smF r
theorem BR(n:Int × Int):∀ a,smF (a++[n])=smF a+vl n
 | []=>by simp only[kL,smF];grind
 | m::a=>by
  rw[gO];simp only[smF,BR n a];grind
theorem scaled{x y q:Rat}(h:0<q):x*q<=y*q↔x<=y:=by
 constructor
 .intro a;show jH.mp λz=>?_;have:=lI z h;show jH.mpr a this
 .intro a;show fk a (gz h)
def notStar:Expr->Bool
 | .Starred _ _=>false
 | _=>true
variable{e:Expr}
theorem o8{env:Env}(h:notStar e=true):eQ (e::es) env=(false,eval e env)::eQ es env:=by
 cases e <;> first | rfl | (simp[notStar]at h)
variable{te:TE}
theorem Pm{t:TA}(ha:PE X e te)(hr:PA X es t)(hs:autoParam (notStar e=true) Au):PA X (e::es) (qY te t):=Lf ha hr (o8 hs)
section
variable{x:V}{a c:Addr}{K:aW}
def pS(K:aW)(H:Hp)(s:Int × Int)(x:V):Prop:=fO K H x s.1 s.2
theorem pS.sameT{s:Int × Int}(T:dH H H')(h:pS K H s x):pS K H' s x:=fO.sameT T h
def vx(K:aW)(H:Hp)(b:Int)(e:PD × (Int × Int))(x:V):Prop:=∃ t,mB e.2 b t/\fO K H x t.1 t.2
theorem vx.sameT{e:PD × (Int × Int)}(T:dH H H'):vx K H b e x->vx K H' b e x:=λζ=>by let(t,c,a):=ζ;show(t,c,a.sameT T)
end
theorem E7:∀{ls:List PD}{ss:List (Int × Int)},ss.length=ls.length->(ls.zip ss).map (·.1.nm)=ls.map (·.nm)
 | [],ss,_=>by simp
 | p::ls,[],h=>by simp at h
 | p::ls,s::ss,h=>by
  rw[List.zip_cons_cons,dw,dw,E7 (by simpa using h)]
theorem Bw:∀{ls:List PD}{p q:PD},(ls.map (·.nm)).Nodup->p∈ls->q∈ls->p.nm=q.nm->p=q
 | [],_,_,_,hp,_,_=>by cases hp
 | a::ls,p,q,hn,hp,hq,e=>by
  rw[dw,gy]at hn;rcases eP.mp hp with h1 | h1 <;> rcases eP.mp hq with h2 | h2
  .rw[h1,h2]
  .subst h1;show absurd (e ▸ di.mpr ⟨q,h2,rfl⟩) hn.1
  .subst h2;show absurd (e ▸ di.mpr ⟨p,h1,rfl⟩) hn.1
  .show Bw hn.2 h1 h2 e
theorem Gk:∀{xs:List V}{us:List aX},xs.length=us.length->(∀(i:Nat) x u,xs[i]?=some x->us[i]?=some u->RelV x u)->Vals xs us
 | [],[],_,_=>.nil
 | [],_::_,h,_=>by simp at h
 | _::_,[],h,_=>by simp at h
 | x::xs,u::us,h,k=>.cons (k 0 x u rfl rfl) (Gk (by simpa using h) λi x u h1 h2=>k (i+1) x u (by simpa using h1) (by simpa using h2))
def Kn(xs:List V)(H:Hp)(Q:VK):Prop:=∃(d:Addr)(kvs:List (gD × V))(ss:List Str),xs=[.ref d]/\H d=some (.dK kvs)/\kvs.map (·.1)=ss.map aZ/\∀ l,H l=none->Q (.ref l) (upd H l (.lst (ss.map V.str)))
theorem Na(hc:X.calm=true):lH X (.type "list") Kn:=by
 intro D s σ H Z us Q I r h;let(d,kvs,l,rfl,e,n,q):=h;let(u,rfl,L):=vals1 r;cases L;let(R,P,j,g,E):=mN I.hok e;let(ep,F):=E.dictAt;have lk:l.length=kvs.length:=by simpa using(congrArg List.length n).symm
 have J:j.length=kvs.length:=g.length.symm;have f:j.map (·.1)=kvs.map (·.1):=by
  clear E F n lk J R q e;induction g with
  | nil=>rfl
  | cons p _ ih=>
   rw[dw,dw,ih,p.1]
 show W.kdl_call (W.kdl_dict (knd:=mi X.prog X.w) (d:=d) (kvs:=j) (ep:=ep) P) (I.ok.hd hc) F ∅ λK U a S k T c=>?_;have B:Vals (l.map V.str) a.toList:=Gk (by have p:=c.1;have M:a.toList.length=a.size:=iA;rw[bc,M,p];ac_nf) λi x v G B=>by
  rw[bg]at G;let(z,A,rfl):=dM.mp G;let(C,Y,N,O):=c.2 i v (by rw[<- iI];show B);have m:(j.map (·.1))[i]?=some C:=by rw[bg,N];rfl
  rw[f,n,bg,A]at m;have m:aZ z=C:=eh m;subst m;rcases qR (show keyIs (aZ z) v=true from O)with⟨b,hb,_⟩ | ⟨y,t,hy,rfl⟩
  .cases hb
  .cases hy;show(t,rfl)
 show(.ref _,_,I.laid (t':=U) (o:=.lst (l.map V.str)) k (dh _) (show jh X.prog X.w _ K _ (.lst (l.map V.str))from⟨by rw[bc];ac_nf,a.toList,S,B,by rw[kJ];show T⟩),rfl,q _ (I.hok.fresh (dh _)))
section
variable{prog:fH}{A:fZ}{E:aX->da->Prop}{w:fA}{s:da}
end
def ext(M:Str->Option Str)(f:Str):Str:=(M f).getD f
section
variable{M:Str->Option Str}{a b:Str}{f g:Str}
end
theorem FQ(kvs:List (gD × V))(k:gD)(v:V):(putK kvs k v).map (·.1)=if(gR kvs k).isSome=true then kvs.map (·.1)else kvs.map (·.1)++[k]:=by
 unfold putK;rw[uI];split
 .rw[ie];show jN λa _=>?_;show(if a.1=k then(a.1,v)else a).1=a.1;split <;> rfl
 .rw[dy];rfl
theorem FR{k:gD}:(gR kvs k).isSome=true↔k∈kvs.map (·.1):=by
 rw[<- uI,List.any_eq_true];constructor
 .rintro⟨b,c,a⟩;show di.mpr ⟨b,c,by simpa using a⟩
 .intro h;let(b,c,a):=di.mp h;show(b,c,by simpa using a)
section
variable{K:aW}
def cut(p:Addr)(H:Hp):Hp:=λb=>if b=p then none else H b
variable{p:Addr}
theorem pC{b:Addr}(h:b≠p):cut p H b=H b:=if_neg h
theorem xK:dC (cut p H) H:=λb u h=>by
 unfold cut at h;split at h
 .cases h
 .show h
theorem dC.cut(S:dC H H'):dC (cut p H) (cut p H'):=λb u h=>by
 have e:b≠p:=λz=>by rw[z]at h;unfold L2.cut at h;rw[if_pos rfl]at h;cases h
 rw[pC e]at h ⊢;show S _ _ h
theorem Bm:cut p (upd H p o)=cut p H:=by
 funext b
 by_cases c:b=p
 .rw[c];unfold cut;rw[if_pos rfl,if_pos rfl]
 .rw[pC c,pC c,fF c]
variable{ys:List V}
theorem gZ.cut{a:Addr}(hp:H p=some (.lst ys))(h:gZ K H a xs):gZ K (cut p H) a xs:=by
 rcases h with(h | ⟨o,h⟩) | h
 .show .inl (.inl (by rw[pC (λz=>by rw[z,hp]at h;cases h)];show h))
 .show .inl (.inr ⟨o,by rw[pC (λz=>by rw[z,hp]at h;cases h)];show h⟩)
 .show .inr h
theorem fO.cut(hp:H p=some (.lst ys))(h:fO K H v a b):fO K (cut p H) v a b:=by
 let(q,e,h):=h;show(q,e,h.cut hp)
end
variable{a b:Str->Rat}
theorem sm_le:∀{l:List Str},(∀ q∈l,a q<=b q)->sm a l<=sm b l
 | [],_=>hO
 | n::l,h=>by
  have h1:=h n (by simp);have h2:=sm_le (l:=l) λq hq=>h q (by simp[hq]);simp only[sm];grind
theorem sm_lt:∀{l:List Str}{n:Str},(∀ q∈l,a q<=b q)->n∈l->a n<b n->sm a l<sm b l
 | [],_,_,hn,_=>by cases hn
 | m::l,n,h,hn,lt=>by
  have h1:=h m (by simp);have h2:=sm_le (l:=l) λq hq=>h q (by simp[hq]);simp only[sm];rcases eP.mp hn with e | hn
  .subst e;grind
  .have:=sm_lt (λq hq=>h q (by simp[hq])) hn lt;grind
theorem qF:∀{l:List Str},(∀ q∈l,a q=b q)->sm a l=sm b l
 | [],_=>rfl
 | n::l,h=>by simp only[sm,h n (by simp),qF (l:=l) λq hq=>h q (by simp[hq])]
theorem uJ:∀{l:List Str},(∀ q∈l,a q=0)->sm a l=0
 | [],_=>rfl
 | n::l,h=>by
  simp only[sm,h n (by simp),uJ (l:=l) λq hq=>h q (by simp[hq])];grind
theorem sm_nn:∀{l:List Str},(∀ q∈l,0<=a q)->0<=sm a l
 | [],_=>hO
 | n::l,h=>by
  have h1:=h n (by simp);have h2:=sm_nn (l:=l) λq hq=>h q (by simp[hq]);simp only[sm];grind
theorem uC(c:Rat):∀(l:List Str),sm (λn=>a n+c*b n) l=sm a l+c*sm b l
 | []=>by simp only[sm];grind
 | n::l=>by simp only[sm,uC c l];grind
variable{n:Str}
theorem Ke{l:List Str}(h:∀ q∈l,0<=a q)(hn:n∈l)(lt:0<a n):0<sm a l:=by
 have:=sm_lt (a:=λ_=>0) (b:=a) h hn lt;rw[uJ (a:=λ_=>0) λ_ _=>rfl]at this;show this
theorem FM(f : α->Rat):∀{l:List α},l≠[]->∃ a∈l, ∀ b∈l,f a<=f b
 | [],h=>absurd rfl h
 | [a],_=>⟨a,by simp,λb hb=>by rw[bf.mp hb];show hO⟩
 | a::b::l,_=>by
  let(m,hm,h):=FM f (l:=b::l) (by simp);by_cases c:f a<=f m
  .show(a,by simp,λx hx=>?_);rcases eP.mp hx with rfl | hx
   .show hO
   .show er c (h x hx)
  .show(m,dZ _ hm,λx hx=>?_);rcases eP.mp hx with rfl | hx
   .show gz (Rat.not_le.mp c)
   .show h x hx
structure Gp where
 R:Rat
 way:List Str
structure ph(N:List Str)(w M:Str->Rat)(gs:List Gp)(lv:Str->Rat):Prop where
 lo:∀ n∈N,0<=lv n
 hi:∀ n∈N,lv n<=M n
 fit:∀ g∈gs,sm (λn=>lv n*w n) g.way<=g.R
 stop:∀ n∈N,lv n=M n\/∃ g∈gs,n∈g.way/\sm (λn=>lv n*w n) g.way=g.R/\∀ q∈g.way,lv q<=lv n
section
variable{N:List Str}{M f':Str->Rat}{gs:List Gp}{w:Str->Rat}{f:Str->Rat}
theorem ph.less(hw:∀ n∈N,0<w n)(hs:∀ g∈gs, ∀ n∈g.way,n∈N)(h:ph N w M gs f)(hi:∀ n∈N,f' n<=M n)(fit:∀ g∈gs,sm (λn=>f' n*w n) g.way<=g.R){n:Str}(hn:n∈N)(lt:f n<f' n):∃ q∈N,f' q<f q/\f q<=f n:=by
 rcases h.stop n hn with e | ⟨g,hg,hm,hR,hmax⟩
 .have:=hi n hn;grind
 .have j:=fit g hg;by_cases c:∃ q∈g.way,f' q<f q
  .let(q,d,i):=c;show(q,hs g hg q d,i,hmax q d)
  .have all:∀ q∈g.way,f q*w q<=f' q*w q:=λq d=>by
    have:=jH.mp λz=>c ⟨q,d,z⟩;show fk this (gz (hw q (hs g hg q d)))
   have:=sm_lt (a:=λn=>f n*w n) (b:=λn=>f' n*w n) all hm (lI lt (hw n hn));grind
theorem ph.uniq(hw:∀ n∈N,0<w n)(hs:∀ g∈gs, ∀ n∈g.way,n∈N)(h:ph N w M gs f)(k:ph N w M gs f'):∀ n∈N,f n=f' n:=by
 intro m r;show gY λs=>?_;let(n,i,a):=FM (λn=>if f n<=f' n then f n else f' n) (l:=N.filter λn=>decide (f n≠f' n)) (by
  intro z;have : m∈N.filter λn=>decide (f n≠f' n):=fQ.mpr ⟨r,by simpa using s⟩;rw[z]at this;cases this)
 have b:=fQ.mp i;have j:f n≠f' n:=by simpa using b.2
 by_cases c:f n<=f' n
 .have d:f n<f' n:=by grind
  let(q,e,o,p):=h.less hw hs k.hi k.fit b.1 d;have:=a q (fQ.mpr ⟨e,by simp;grind⟩);rw[if_pos c,if_neg (by grind)]at this;grind
 .have d:f' n<f n:=by grind
  let(q,e,o,p):=k.less hw hs h.hi h.fit b.1 d;have:=a q (fQ.mpr ⟨e,by simp;grind⟩);rw[if_neg c,if_pos (by grind)]at this;grind
end
def mY(lvs:List (Str × (Int × Int)))(n:Str):Rat:=((lvs.find? λx=>decide (x.1=n)).map λx=>vl x.2).getD 0
def used(lvs:List (Str × (Int × Int)))(w:Str->Rat)(n:Str):Rat:=mY lvs n*w n
def left(lvs:List (Str × (Int × Int)))(w:Str->Rat)(n:Str):Rat:=if n∈lvs.map (·.1)then 0 else w n
section
variable{lvs:List (Str × (Int × Int))}{L:Int × Int}{ns:List Str}{m:Str}{w:Str->Rat}
theorem uM(h:n∉lvs.map (·.1)):mY lvs n=0:=by
 unfold mY;rw[gF.mpr λx a=>by
  have : x.1≠n:=λz=>h (di.mpr ⟨x,a,z⟩);simpa using this]
 rfl
theorem uE(hn:(lvs.map (·.1)).Nodup){x:Str × (Int × Int)}(hx:x∈lvs):mY lvs x.1=vl x.2:=by
 induction lvs with
 | nil=>cases hx
 | cons y r ih=>
  rw[dw,gy]at hn;unfold mY;rw[fR];rcases eP.mp hx with e | hx
  .subst e;simp
  .have : y.1≠x.1:=λz=>hn.1 (z ▸ di.mpr ⟨x,hx,rfl⟩);rw[decide_eq_false this];show ih hn.2 hx
theorem yG(h:n∈lvs.map (·.1)):mY (lvs++ns.map λm=>(m,L)) n=mY lvs n:=by
 unfold mY;rw[List.find?_append];cases e:lvs.find? λx=>decide (x.1=n)with
 | none=>
  let(x,b,a):=di.mp h;have:=gF.mp e x b;simp[a]at this
 | some y=>rfl
theorem Bg(h:n∉lvs.map (·.1))(hn:n∈ns):mY (lvs++ns.map λm=>(m,L)) n=vl L:=by
 have a:lvs.find? (λx=>decide (x.1=n))=none:=gF.mpr λx b=>by
  have : x.1≠n:=λz=>h (di.mpr ⟨x,b,z⟩);simpa using this
 unfold mY;rw[List.find?_append,a,Option.none_or];cases e:(ns.map λm=>(m,L)).find? λx=>decide (x.1=n)with
 | none=>
  have:=gF.mp e (n,L) (di.mpr ⟨n,hn,rfl⟩);simp at this
 | some y=>
  have:=hU e;let(m,_,rfl):=di.mp this;rfl
theorem rS:(lvs++ns.map λm=>(m,L)).map (·.1)=lvs.map (·.1)++ns:=by
 rw[dy,ie]
 congr 1
 show(jN λ_ _=>rfl).trans (List.map_id _)
def dlt(w:Str->Rat)(ns:List Str)(n:Str):Rat:=if n∈ns then w n else 0
theorem BM(hd:∀ n∈ns,n∉lvs.map (·.1))(n:Str):used (lvs++ns.map λm=>(m,L)) w n=used lvs w n+vl L*dlt w ns n:=by
 unfold used dlt;by_cases c:n∈lvs.map (·.1)
 .rw[yG c,if_neg λz=>hd n z c];grind
 .by_cases d:n∈ns
  .rw[Bg c d,uM c,if_pos d];grind
  .have : n∉(lvs++ns.map λm=>(m,L)).map (·.1):=by
    rw[rS];simp only[dk];showλz=>z.elim c d
   rw[uM this,uM c,if_neg d];grind
theorem B1(hd:∀ n∈ns,n∉lvs.map (·.1))(n:Str):left (lvs++ns.map λm=>(m,L)) w n=left lvs w n+(-1)*dlt w ns n:=by
 unfold left dlt;rw[rS];simp only[dk];by_cases c:n∈lvs.map (·.1)
 .rw[if_pos (.inl c),if_pos c,if_neg λz=>hd n z c];grind
 .by_cases d:n∈ns
  .rw[if_pos (.inr d),if_neg c,if_pos d];grind
  .rw[if_neg (λz=>z.elim c d),if_neg c,if_neg d];grind
end
structure mU(N:List Str)(w M:Str->Rat)(gs:List Gp)(lvs:List (Str × (Int × Int)))(c:Rat):Prop where
 nd:(lvs.map (·.1)).Nodup
 sub:∀ n∈lvs.map (·.1),n∈N
 c0:0<=c
 a:∀ x∈lvs,0<=vl x.2/\vl x.2<=c/\vl x.2<=M x.1
 b:∀ n∈N,n∉lvs.map (·.1)->c<=M n
 cc:∀ g∈gs,c*sm (left lvs w) g.way<=g.R-sm (used lvs w) g.way
 d:∀ x∈lvs,vl x.2=M x.1\/∃ g∈gs,x.1∈g.way/\(∀ q∈g.way,q∈lvs.map (·.1))/\g.R-sm (used lvs w) g.way=0/\∀ q∈g.way,mY lvs q<=vl x.2
section
variable{N ns:List Str}{M:Str->Rat}{gs:List Gp}{lvs:List (Str × (Int × Int))}{c:Rat}{L:Int × Int}{w:Str->Rat}
theorem xG(hw:∀ n∈N,0<w n){l:List Str}(hs:∀ n∈l,n∈N):∀ q∈l,0<=left lvs w q:=λq a=>by
 unfold left;split
 .show hO
 .show gz (hw q (hs q a))
theorem mU.start(hM:∀ n∈N,0<=M n)(hR:∀ g∈gs,0<=g.R):mU N w M gs [] 0 where
 nd:=.nil
 sub:=λn c=>by cases c
 c0:=hO
 a:=λx f=>by cases f
 b:=λn c _=>hM n c
 cc:=λg h=>by
  have e:sm (used [] w) g.way=0:=uJ λq _=>by
   unfold used;rw[uM (by simp)];grind
  have:=hR g h;rw[e];grind
 d:=λx f=>by cases f
theorem mU.round(h:mU N w M gs lvs c)(hw:∀ n∈N,0<w n)(hs:∀ g∈gs, ∀ n∈g.way,n∈N)
  (hnd:ns.Nodup) (hL1:∀ n∈N,n∉lvs.map (·.1)->vl L<=M n) (hL2:∀ g∈gs,0<sm (left lvs w) g.way->vl L*sm (left lvs w) g.way<=g.R-sm (used lvs w) g.way)
  (hns:∀ n,n∈ns↔n∈N/\n∉lvs.map (·.1)/\(M n=vl L\/∃ g∈gs,n∈g.way/\0<sm (left lvs w) g.way/\vl L*sm (left lvs w) g.way=g.R-sm (used lvs w) g.way)) (hc:c<=vl L) :
  mU N w M gs (lvs++ns.map λn=>(n,L)) (vl L):=by
 have o:∀ n∈ns,n∉lvs.map (·.1):=λn f=>((hns n).mp f).2.1;have B:∀ n∈ns,n∈N:=λn f=>((hns n).mp f).1;have v:∀ l:List Str,sm (used (lvs++ns.map λn=>(n,L)) w) l=sm (used lvs w) l+vl L*sm (dlt w ns) l:=λl=>by
  rw[<- uC];show qF λq _=>BM o q
 have G:∀ l:List Str,sm (left (lvs++ns.map λn=>(n,L)) w) l=sm (left lvs w) l+(-1)*sm (dlt w ns) l:=λl=>by
  rw[<- uC];show qF λq _=>B1 o q
 have t:=λ(g:Gp)(i:g∈gs)=>sm_nn (xG (lvs:=lvs) hw (hs g i));have s:∀ g∈gs, ¬ 0<sm (left lvs w) g.way->sm (left lvs w) g.way=0/\∀ q∈g.way,q∈lvs.map (·.1):=λg i z=>by
  have E:sm (left lvs w) g.way=0:=by have:=t g i;grind
  show(E,λq b=>gY λy=>z ?_);show Ke (xG hw (hs g i)) b ?_;unfold left;rw[if_neg y];show hw q (hs g i q b)
 have key:∀ g∈gs,vl L*sm (left lvs w) g.way<=g.R-sm (used lvs w) g.way:=λg i=>by
  by_cases p:0<sm (left lvs w) g.way
  .show hL2 g i p
  .have:=h.cc g i;rw[(s g i p).1]at this ⊢;grind
 show(?_,?_,?_,?_,?_,?_,?_)
 .rw[rS];show fD.mpr ⟨h.nd,hnd,λx j y D z=>o y D (z ▸ j)⟩
 .intro n f;rw[rS]at f;rcases dk.mp f with f | f
  .show h.sub n f
  .show B n f
 .show er h.c0 hc
 .intro x j;rcases dk.mp j with j | j
  .have:=h.a x j;show(this.1,er this.2.1 hc,this.2.2)
  .let(n,f,rfl):=di.mp j;show(er h.c0 hc,hO,hL1 n (B n f) (o n f))
 .intro n f k;rw[rS]at k;show hL1 n f λz=>k (dk.mpr (.inl z))
 .intro g i;rw[v,G];have:=key g i;grind
 .intro x j;rcases dk.mp j with j | j
  .rcases h.d x j with e | ⟨g,i,u,r,C,h4⟩
   .show .inl e
   .show .inr ⟨g,i,u,λq b=>?_,?_,λq b=>?_⟩
    .rw[rS];show dk.mpr (.inl (r q b))
    .rw[v,uJ (a:=dlt w ns) λq b=>if_neg λz=>o q z (r q b)];grind
    .rw[yG (r q b)];show h4 q b
  .let(n,f,rfl):=di.mp j;obtain⟨H,F,e | ⟨g,i,u,r,C⟩⟩:=(hns n).mp f
   .show .inl e.symm
   .have m:∀ q∈g.way,q∉lvs.map (·.1)->q∈ns:=λq b A=>(hns q).mpr ⟨hs g i q b,A, .inr ⟨g,i,b,r,C⟩⟩;show .inr ⟨g,i,u,λq b=>?_,?_,λq b=>?_⟩
    .rw[rS];by_cases y:q∈lvs.map (·.1)
     .show dk.mpr (.inl y)
     .show dk.mpr (.inr (m q b y))
    .have e:sm (dlt w ns) g.way=sm (left lvs w) g.way:=qF λq b=>by
      unfold dlt left;by_cases y:q∈lvs.map (·.1)
      .rw[if_neg λz=>o q z y,if_pos y]
      .rw[if_pos (m q b y),if_neg y]
     rw[v,e];grind
    .by_cases y:q∈lvs.map (·.1)
     .rw[yG y];let(x,j,rfl):=di.mp y;rw[uE h.nd j];show er (h.a x j).2.1 hc
     .rw[Bg y (m q b y)];show hO
theorem mU.le(h:mU N w M gs lvs c)(hL:(∃ n∈N,n∉lvs.map (·.1)/\M n=vl L)\/∃ g∈gs,0<sm (left lvs w) g.way/\vl L*sm (left lvs w) g.way=g.R-sm (used lvs w) g.way):c<=vl L:=by
 rcases hL with⟨n,hn,hS,e⟩ | ⟨g,hg,p,e⟩
 .rw[<- e];show h.b n hn hS
 .have:=h.cc g hg;rw[<- e]at this;show(scaled p).mp this
theorem mU.fair(h:mU N w M gs lvs c)(hw:∀ n∈N,0<w n)(hs:∀ g∈gs, ∀ n∈g.way,n∈N)(hall:∀ n∈N,n∈lvs.map (·.1)):ph N w M gs (mY lvs):=by
 have i:∀ n∈N, ∃ x∈lvs,x.1=n/\mY lvs n=vl x.2:=λn f=>by
  let(x,b,e):=di.mp (hall n f);have e:x.1=n:=e;show(x,b,e,by rw[<- e];show uE h.nd b)
 show(λn f=>?_,λn f=>?_,λg k=>?_,λn f=>?_)
 .let(x,b,_,e):=i n f;rw[e];show(h.a x b).1
 .let(x,b,j,e):=i n f;rw[e, <- j];show(h.a x b).2.2
 .have:=h.cc g k;rw[uJ (a:=left lvs w) λq l=>if_pos (hall q (hs g k q l))]at this;show sm (used lvs w) g.way<=_;grind
 .let(x,b,j,e):=i n f;rcases h.d x b with q | ⟨g,k,h1,_,h3,h4⟩
  .show .inl (by rw[e,q,j])
  .show .inr ⟨g,k,j ▸ h1,?_,λq l=>?_⟩
   .show sm (used lvs w) g.way=_;grind
   .rw[e];show h4 q l
end
def Dv(D:Int)(r:Rat):Prop:=∃ k:Int,r*(D:Rat)=(k:Rat)
section
variable{E:Int}{r:Rat}{D:Int}{s:Rat}
theorem Dv.int(k:Int):Dv D (k:Rat):=⟨k*D,by push_cast;rfl⟩
theorem Dv.add(h:Dv D r)(k:Dv D s):Dv D (r+s):=by
 let(a,c):=h;let(b,d):=k;show(a+b,by push_cast;grind)
theorem Dv.sub(h:Dv D r)(k:Dv D s):Dv D (r-s):=by
 let(a,c):=h;let(b,d):=k;show(a-b,by push_cast;grind)
theorem Dv.mul(h:Dv D r)(k:Int):Dv D (r*(k:Rat)):=by
 let(a,b):=h;show(a*k,by push_cast;grind)
theorem Dv.more(h:Dv D r)(k:Int):Dv (D*k) r:=by
 let(a,b):=h;show(a*k,by push_cast;grind)
theorem Dv.over{k:Int}(hk:1<=k)(h:Dv D (r*(k:Rat))):Dv (D*k) r:=by
 let(a,b):=h;show(a,by push_cast;grind)
theorem Dv.den{t:Int × Int}(h:Dv D (vl t))(ht:1<=t.2)(hg:Mth.g t.1 t.2=1):t.2∣D:=by
 let(a,c):=h;have f:=mj ht;have e:(t.1:Rat)*D=a*t.2:=by
  unfold vl at c;have : (t.1:Rat)=(t.1:Rat)/t.2*t.2:=by rw[fC f]
  rw[this];grind
 have e:t.1*D=a*t.2:=by exact_mod_cast e
 show Mth.Hb (a:=t.1) (b:=t.2) (d:=D) (Mth.yW hg) ⟨a,?_⟩;rw[e,gL]
theorem Dv.fb{t:Int × Int}{m n:Nat}{Q:Int}(h:Dv D (vl t))(ht:1<=t.2)(hg:Mth.g t.1 t.2=1)(hD:1<=D)(sD:Mth.Sz n D)(h0:0<=vl t)(h1:vl t<=(Q:Rat))(sQ:Mth.Sz m Q):FB (m+n) n t:=by
 have i:=h.den ht hg;have j:t.2<=D:=Int.le_of_dvd ∅ i;have b:Mth.Sz n t.2:=fj (by ac_nf:t.2.natAbs<=D.natAbs) sD;have f:=mj ht;have a:(0:Rat)<(t.2:Rat):=by exact_mod_cast (show 0<t.2 by ac_nf)
 have e:(t.1:Rat)=vl t*t.2:=by unfold vl;rw[fC f]
 have d:(0:Rat)<=(t.1:Rat):=by rw[e];show iu h0 (gz a)
 have c:(t.1:Rat)<=(Q:Rat)*t.2:=by rw[e];show fk h1 (gz a)
 have d:0<=t.1:=by exact_mod_cast d
 have c:t.1<=Q*t.2:=by exact_mod_cast c
 show(fj (?_:t.1.natAbs<=(Q*t.2).natAbs) (sQ.mul b),b,ht,hg);ac_nf
end
theorem KC(rel:KV kvs vs):vs.map (·.1)=kvs.map (·.1):=by
 unfold KV at rel;induction rel with
 | nil=>rfl
 | cons h1 _ ih=>rw[dw,dw,ih,h1.1]
theorem KF{w:fA}{v:aX}(h:(mi P w).is (aZ z) v=true):∃ t,v=.str z t:=by
 rcases qR (show keyIs (aZ z) v=true from h)with⟨b,hb,_⟩ | ⟨y,t,hy,rfl⟩
 .cases hb
 .cases hy;show(t,rfl)
def uZ(d:Addr)(od:Obj)(kvs:List (gD × V))(ss:List Str):It :=
 ⟨λi H=>H d=some (.frz od (.dK kvs))/\i<ss.length,λi H x H'=>H'=H/\(ss.map V.str)[i]?=some x,λi H=>H d=some (.frz od (.dK kvs))/\ss.length<=i⟩
theorem Mh{w:fA}{K:aW}(rel:KV kvs vs)(hk:kvs.map (·.1)=ss.map aZ)(hd:∀ h:Heap,h.get? d=some od->h.DictAt (mi P w) d vs ep) :
  Turn P w K tg (uZ d od kvs ss) [it] it (λi h=>h.IsKeyIter it d i vs.length ep) where
 mem:=by simp
 obj:=λi h a b j=>by
  obtain rfl:b=it:=by simpa using j
  let(o,e,c,z):=a;show(o,e,λv q=>by rw[z]at q;cases q)
 keep:=λi h x a k=>a.at λo e=>k it (by simp) o e
 item:=by
  intro X A G C O i f s σ H E I u a F;subst A G C;let(l,L):=F;let(B,N,T,M,J,D):=u it (by simp);have g:=(I.hok d _ l).1;have S:=rel.length;have lk:kvs.length=ss.length:=by simpa using congrArg List.length hk
  obtain⟨⟨k,U⟩,m⟩:∃ p,vs[i]?=some p:=⟨_,aV (show i<vs.length by ac_nf)⟩;have y:(vs.map (·.1))[i]?=some k:=by rw[bg,m];rfl
  rw[KC rel,hk,bg,aV L]at y;have y:aZ ss[i]=k:=eh y;subst y;show wpAny_pyNext_dict_item a (hd _ g) m λkey x r n Q=>?_;let(t,rfl):=KF r;have I1:Inv X f σ H { s with heap:=x }:=I.turned (t':=s.toks) (λb o j e=>(Q.2 b j).trans e) B N M J D;let(o,e,c,z):=id n;show(_,rfl,nI (s:={ s with heap:=x }) e c z ⋯ ⟨.str ss[i],H,I1,⟨t,rfl⟩,⟨rfl,by rw[bg,aV L];rfl⟩,n,λb j=>(u b j).1⟩)
 done:=by
  intro X A G C O i f s σ H E I u a F;subst A G C;let(l,L):=F;let(B,N,T,M,J,D):=u it (by simp);have g:=(I.hok d _ l).1;have S:=rel.length;have lk:kvs.length=ss.length:=by simpa using congrArg List.length hk
  show wpAny_pyNext_dict_end (I.ok.hd O) a (hd _ g) (eN ∅) λx R=>⟨rfl,I.turned (t':=s.toks) (λb o j e=>R b o j e) B N M J D⟩
 self:=λ_ _ _ _ _ a h=>wpAny_pyIter_keyiter a h
def pZ(td:TE):TI:=λσ H R=>td σ H λx H1=>∃(d:Addr)(kvs:List (gD × V))(ss:List Str),x=.ref d/\H1 d=some (.dK kvs)/\kvs.map (·.1)=ss.map aZ/\∀ od,R (uZ d od kvs ss) (upd H1 d (.frz od (.dK kvs)))
variable{o:Expr}
theorem yz{td:TE}(ho:PE X o td):PI X tg o (pZ td):=by
 intro a s σ H R I h;show iF (ho a s σ H _ I h) λv i ζ=>?_;let(y,C,I1,p,d,kvs,A,t,e,l,u):=ζ;subst t;obtain rfl:v=eK d:=p;let(B,x,vs,g,m):=mN I1.hok e;let(ep,k):=m.dictAt;let(j,r,c,rest):=id k;show wpAny_pyIter_dict (knd:=mi X.prog X.w) (d:=d) (kvs:=vs) (ep:=ep) x k ?_;have n:∀ b o,i.heap.get? b=some o->(i.heap.push { cls:=.type "dict_keyiterator",data:=.fields #[.ref d, .int 0 0, .int vs.length 0, .int ep 0] }).get? b=some o:=λb o z=>df _ z;have I2:=(I1.freeze e c).kept (t':=i.toks) n;show(_,[_],_,_,_,rfl,I2,Mh (vs:=vs) (ep:=ep) g l (λh q=>⟨j,r,q,rest⟩),⟨_,dP _ rfl,rfl,rfl⟩,λb f=>?_,u j);obtain rfl:=bf.mp f;show I1.fpOk (dh _) ((I1.freeze e c).hok.fresh (dh _))
def EF(ts:TS):TS:=λD σ H=>∃ d kvs,H d=some (.dK kvs)/\ts { nx:=λσ' H'=>∃ od kvs',H' d=some (.frz od (.dK kvs'))/\D.nx σ' (upd H' d (.dK kvs')),rt:=λ_ _=>False } σ H
variable{st:Stmt}{ts:TS}
theorem K9(h:PS X st ts):PS X st (EF ts):=by
 intro b s σ H D I ⟨d,j,g,q⟩;show gB (h b s σ H _ I q) (λf l z=>?_) λ_ _ z=>z;cases f with
 | next=>
  let(σ',c,I1,k,e,i,a):=z;show(σ',_,I.thaw g I1 i,a)
 | brk=>let(σ',c,I1,a):=z;show a.elim
 | cont=>let(σ',c,I1,a):=z;show a.elim
 | ret v=>let(y,σ',c,I1,r,a):=z;show a.elim
theorem ps_no:PS X st (λ_ _ _=>False):=λ_ _ _ _ _ _ h=>h.elim
def tD(td:TE):TE:=λσ H Q=>td σ H λx H1=>∃(d:Addr)(kvs:List (gD × V))(ns:List Int),x=.ref d/\H1 d=some (.dK kvs)/\kvs.map (·.2)=ns.map V.int/\Q (.int ns.sum) H1
theorem Fn(ns:List Int):∀ k,k<=ns.length->preSum (λi=>ns.getD i 0) k=(ns.take k).sum
 | 0,_=>by simp[preSum]
 | k+1,h=>by
  rw[take_sum_succ ns k ∅, <- Fn ns k ∅];rfl
theorem Lc{td:TE}(hc:X.calm=true)(hx:x="sum")(hg:Gl X x)(hm:X.mg x=none)(hv:fo x=some (.builtin "sum"))(ho:PE X o td)
  (hb:autoParam (iL o "values" X.env (eval o X.env)=eval o X.env) Au) (hn:autoParam ((apos.endLine == cpos.line)=true) Au) :
  PE X (.Call (.Name x p1) [.Call (.Attribute o "values" apos) [] [] cpos] [] pos) (tD td):=by
 intro c s σ H Q I h;have O:x≠"__name__":=by rw[hx];decide
 have E:(x == ("__debug__" : Str))=false:=by rw[hx];decide
 show gK (sM I hg hm hv ?_ O E);show PyProof.Rows.callWith_builtin1 ?_ rfl rfl;show ei _ _ (spliced ((false,eval (.Call (.Attribute o "values" apos) [] [] cpos) X.env)::jq pos (eQ [] X.env))) _ _ s;show gS ?_;show kr hb hn (iF (ho c s σ H _ I h) λv n ζ=>?_);let(y,U,I1,J,d,kvs,a,M,e,f,N):=ζ;subst M;obtain rfl:v=eK d:=J;let(t,L,P):=vC I1 (.inl ⟨kvs, .inl e⟩);let(hz,_,g,m,B):=mN I1.hok e;show("dict","dict.values",iq,ic,PySem.F.type_dict_values,t,L,gH rfl (kP ?_));show jQ ic t PySem.F.entry_dict_values (kW _) (meets_dict_values (mi X.prog X.w) d P) ⟨⟨g,B⟩,?_⟩;show iQ ?_;let(ep,p):=B.dictAt;have D:X.A.in1.handled=none:=by have:=I.ok.hd hc;simp[this]
 have C:d<n.heap.objs.size:=p.lt_size;have q:(n.heap.push { cls:=.type "dict_values",data:=.fields #[.ref d] }).objs.size=n.heap.objs.size+1:=je ..;show call_sum_walkG (wpAny_pyIter_values (knd:=mi X.prog X.w) (v:=n.heap.objs.size) (d:=d) (kvs:=g) (ep:=ep) ⟨_,dP _ rfl,rfl,rfl⟩ (p.push _) ?_);have V:=m.length;have ln:a.length=kvs.length:=by simpa using(congrArg List.length f).symm
 show(_,_,_,_,_,_,λi=>a.getD i 0,rfl,Walks.dictValues (knd:=mi X.prog X.w) D _ d (by rw[q];show dI (kl C)) g ep,⟨⟨_,dP _ rfl,rfl,rfl⟩,(p.push _).push _⟩,λb l=>?_,λi u G=>?_,λW T t' k=>?_)
 .simp only[eP,iw,or_false]at l;show b<(Heap.push _ _).objs.size;rw[je];rcases l with rfl | rfl
  .show ik _
  .rw[q];show kl (kl C)
 .let(Y,r):=G;have K:=BA m;have S:(g.map (·.2))[i]?=some u:=by rw[bg,r];rfl
  have Z:i<kvs.length:=by
   have:=(aU.mp r).1;ac_nf
  let(u',j,R):=K.get (i:=i) (x:=.int (a.getD i 0)) (by rw[f,bg,aV (show i<a.length by ac_nf)];simp[gh,aV (show i<a.length by ac_nf)]);rw[S]at j;cases j;show R
 .rw[show g.length=a.length by ac_nf,Fn a _ (dh _),de (dh _)];show(.int _,U,I1.kept (t':=T) (λb o z=>k b o (by simp only[eP,iw,or_false];have:=dE z;rw[q];show dI (kl this)) (df _ (df _ z))),⟨_,rfl⟩,N)
section
variable{tl:TE}{tt:TT}{Q:VK}{k:Nat}{cs:List (Nat × Str)}{g:TG}{td:TE}
theorem IQ:tD td σ H Q=td σ H λx H1=>∃(d:Addr)(kvs:List (gD × V))(ns:List Int),x=.ref d/\H1 d=some (.dK kvs)/\kvs.map (·.2)=ns.map V.int/\Q (.int ns.sum) H1:=rfl
theorem Jt:uB k cs (pZ td) g tt te σ H Q=td σ H λx H1=>∃(d1:Addr)(kvs1:List (gD × V))(ss:List Str),x=.ref d1/\H1 d1=some (.dK kvs1)/\kvs1.map (·.1)=ss.map aZ/\∀ od,rA (uZ d1 od kvs1 ss) k cs g tt te σ Q (upd H1 d1 (.frz od (.dK kvs1))):=rfl
theorem Js:qX (uB k cs (pZ td) g tt te) σ H Q=∃ d kvs,H d=some (.dK kvs)/\td σ H λx H1=>∃(d1:Addr)(kvs1:List (gD × V))(ss:List Str),x=.ref d1/\H1 d1=some (.dK kvs1)/\kvs1.map (·.1)=ss.map aZ/\∀ od,rA (uZ d1 od kvs1 ss) k cs g tt te σ (λv H'=>∃ od kvs',H' d=some (.frz od (.dK kvs'))/\Q v (upd H' d (.dK kvs'))) (upd H1 d1 (.frz od (.dK kvs1))):=rfl
theorem rA.keys(Pv:Nat->List V->Hp->Prop)(h0:Pv 0 [] H1)(hl:∀ i ys H',i<=ss.length->Pv i ys H'->H' d=some (.frz od (.dK kvs))/\ys.length<=sizeLine)
  (hs:∀ i z ys H2,ss[i]?=some z->Pv i ys H2->g (.str z) (dF k none++mw cs σ) H2 λσ4 H4=>tt σ4 H4 λb H5=>if b=true then te σ4 H5 λy H6=>Pv (i+1) (ys++[y]) H6 else Pv (i+1) ys H5) (hd:∀ ys H2,Pv ss.length ys H2->∀ p,H2 p=none->Q (.ref p) (upd H2 p (.lst ys))) :
  rA (uZ d od kvs ss) k cs g tt te σ Q H1:=by
 show(λi m ys H'=>Pv i ys H'/\i<=ss.length/\m=ss.length-i,⟨_,h0,dG _,rfl⟩,?_);rintro i m ys H2 ⟨f,s,rfl⟩;let(j,n):=hl i ys H2 s f;show(n,?_);by_cases c:i<ss.length
 .show .inr ⟨⟨j,c⟩,?_⟩;rintro x u ⟨rfl,l⟩;rw[bg]at l;let(z,r,rfl):=dM.mp l;have w:∀(h:List V)(H5:Hp),Pv (i+1) h H5=∃ m',m'<ss.length-i/\Pv (i+1) h H5/\i+1<=ss.length/\m'=ss.length-(i+1):=λh H5=>
   propext ⟨λq=>⟨_,jf c (ik i),q,c,rfl⟩,λζ=>by let(_,_,q,_):=ζ;show q⟩
  have t:(λ(y:V)(H6:Hp)=>Pv (i+1) (ys++[y]) H6)=λy H6=>∃ m',m'<ss.length-i/\Pv (i+1) (ys++[y]) H6/\i+1<=ss.length/\m'=ss.length-(i+1):=by
   funext y H6
   show w _ _
  have e:(λ(σ4:St)(H4:Hp)=>tt σ4 H4 λb H5=>if b=true then te σ4 H5 λy H6=>Pv (i+1) (ys++[y]) H6 else Pv (i+1) ys H5)=λσ4 H4=>tt σ4 H4 λb H5=>if b=true then te σ4 H5 λy H6=>∃ m',m'<ss.length-i/\Pv (i+1) (ys++[y]) H6/\i+1<=ss.length/\m'=ss.length-(i+1)else∃ m',m'<ss.length-i/\Pv (i+1) ys H5/\i+1<=ss.length/\m'=ss.length-(i+1):=by
   funext σ4 H4
   congr 1
   funext b H5
   by_cases a:b=true
   .rw[if_pos a,if_pos a, <- t]
   .rw[if_neg a,if_neg a];show w ys H5
  have:=hs i z ys _ r f;rw[e]at this;show this
 .have o:i=ss.length:=by ac_nf
  subst o;show .inl ⟨⟨j,dh _⟩,hd ys H2 f⟩
theorem IM{En:Ends}:EF ts En σ H=∃ d kvs,H d=some (.dK kvs)/\ts { nx:=λσ' H'=>∃ od kvs',H' d=some (.frz od (.dK kvs'))/\En.nx σ' (upd H' d (.dK kvs')),rt:=λ_ _=>False } σ H:=rfl
theorem gE.f{a:Addr}{k:gD}(e:H a=some (.frz od (.dK kvs))):gE H a (kV k) (gR kvs k):=.inl ⟨kvs,k, .inr ⟨od,e⟩,rfl,rfl⟩
end
def lE(a c:Int × Int):Int × Int:=(Mth.top (a.1*c.1) (a.2*c.2),Mth.bot (a.1*c.1) (a.2*c.2))
def mD(a c:Int × Int):Int × Int:=(Mth.top (a.1*c.2) (a.2*c.1),Mth.bot (a.1*c.2) (a.2*c.1))
def nT(a c:Int × Int):Int × Int:=(Mth.top (a.1*c.2-c.1*a.2) (a.2*c.2),Mth.bot (a.1*c.2-c.1*a.2) (a.2*c.2))
structure Lo(a:Int × Int):Prop where
 b1:1<=a.2
 g1:Mth.g a.1 a.2=1
variable{a:Int × Int}
theorem FB.lo(h:FB A B a):Lo a:=⟨h.b1,h.g1⟩
variable{c:Int × Int}
theorem Lo.inj(h:Lo a)(k:Lo c)(e:vl a=vl c):a=c:=E9 h.b1 k.b1 h.g1 k.g1 e
theorem uF{t b:Int}(hb:1<=b):Lo (Mth.top t b,Mth.bot t b):=⟨Mth.IC ∅,Mth.g_low ∅⟩
theorem nE{x y:Int}(hx:1<=x)(hy:1<=y):1<=x*y:=by
 have:=Int.mul_pos (show 0<x by ac_nf) (show 0<y by ac_nf);ac_nf
theorem A9(ha:1<=a.2)(hc:1<=c.2):vl (lE a c)=vl a*vl c:=by
 unfold lE;rw[xB (nE ha hc)];have d:=mj ha;have b:=mj hc;unfold vl;push_cast;generalize(a.1:Rat)=x at *;generalize(a.2:Rat)=y at *;generalize(c.1:Rat)=z at *;generalize(c.2:Rat)=t at *;grind
theorem EC(ha:1<=a.2)(hc:1<=c.1)(hd:1<=c.2):vl (mD a c)=vl a/vl c:=by
 unfold mD;rw[xB (nE ha hc)];have e:=mj ha;have b:=mj hc;have d:=mj hd;unfold vl;push_cast;generalize(a.1:Rat)=x at *;generalize(a.2:Rat)=y at *;generalize(c.1:Rat)=z at *;generalize(c.2:Rat)=t at *;grind
theorem E8(ha:1<=a.2)(hc:1<=c.2):vl (nT a c)=vl a-vl c:=by
 unfold nT;rw[xB (nE ha hc)];have d:=mj ha;have b:=mj hc;unfold vl;push_cast;generalize(a.1:Rat)=x at *;generalize(a.2:Rat)=y at *;generalize(c.1:Rat)=z at *;generalize(c.2:Rat)=t at *;grind
theorem yF(ha:1<=a.2)(hc:1<=c.2):Lo (lE a c):=uF (nE ha hc)
theorem KO(ha:1<=a.2)(hc:1<=c.1):Lo (mD a c):=uF (nE ha hc)
theorem Lw(ha:1<=a.2)(hc:1<=c.2):Lo (nT a c):=uF (nE ha hc)
theorem xC(k:Int):vl (k,1)=(k:Rat):=by
 unfold vl;have : ((1:Int):Rat)=1:=rfl;grind
theorem rB:vl (0,1)=0:=xC 0
structure iU where
 nm:Str
 rest:Int × Int
 ws:List (Str × Int)
 load:Int
 last:Int × Int
def lM(ws:List (Str × Int))(n:Str):Option Int:=(ws.find? λx=>decide (x.1=n)).map (·.2)
def iU.settle(e:iU)(n:Str)(L:Int × Int):iU:=match lM e.ws n with
 | none=>e
 | some k=>{ e with rest:=nT e.rest (lE L (k,1)),load:=e.load-k,last:=L }
variable{ws:List (Str × Int)}
theorem Bz:lM ws n=none↔n∉ws.map (·.1):=by
 unfold lM;rw[Option.map_eq_none_iff,gF];constructor
 .intro h z;let(x,a,e):=di.mp z;have:=h x a;simp[e]at this
 .intro h x a;have : x.1≠n:=λz=>h (di.mpr ⟨x,a,z⟩);simpa using this
theorem Fp{k:Int}(h:lM ws n=some k):(n,k)∈ws:=by
 unfold lM at h;let(x,b,e):=dM.mp h;have c:=hU b;have d:=kS b;have a:x.1=n:=by simpa using d
 let(y,z):=x;have e:z=k:=e;have a:y=n:=a;subst e;subst a;show c
structure mP(w:Str->Rat)(g:Gp)(lvs:List (Str × (Int × Int)))(e:iU):Prop where
 pm:(e.ws.map (·.1)).Perm g.way
 nd:(e.ws.map (·.1)).Nodup
 wt:∀ x∈e.ws,w x.1=(x.2:Rat)/\1<=x.2
 rest:vl e.rest=g.R-sm (used lvs w) g.way
 load:(e.load:Rat)=sm (left lvs w) g.way
 low:Lo e.rest
 llow:Lo e.last
 l1:∀ n∈g.way,n∈lvs.map (·.1)->mY lvs n<=vl e.last
 l2:(∃ n∈g.way,n∈lvs.map (·.1))->∃ n∈g.way,n∈lvs.map (·.1)/\mY lvs n=vl e.last
theorem EM{w:Str->Rat}{m:Str}:∀{l:List Str},l.Nodup->sm (dlt w [m]) l=if m∈l then w m else 0
 | [],_=>by simp[sm]
 | n::l,h=>by
  rw[gy]at h;simp only[sm,EM h.2];unfold dlt;by_cases c:n=m
  .subst c;rw[if_neg h.1];simp;grind
  .have c':m≠n:=λz=>c z.symm;simp only[bf,eP,c,c',false_or,if_false];grind
section
variable{lvs:List (Str × (Int × Int))}{e:iU}{L:Int × Int}{w:Str->Rat}{g:Gp}{m:Str}
theorem mP.settle(h:mP w g lvs e)(hnd:(lvs.map (·.1)).Nodup)(hm:m∉lvs.map (·.1))(hL:Lo L)(hle:∀ x∈lvs,vl x.2<=vl L):mP w g (lvs++[(m,L)]) (e.settle m L):=by
 have t:∀ n∈[m],n∉lvs.map (·.1):=λn d=>by rw[bf.mp d];show hm
 have p:g.way.Nodup:=h.pm.nodup_iff.mp h.nd;have o:sm (used (lvs++[(m,L)]) w) g.way=sm (used lvs w) g.way+vl L*sm (dlt w [m]) g.way:=by
  rw[<- uC];show qF λq _=>BM (ns:=[m]) t q
 have l:sm (left (lvs++[(m,L)]) w) g.way=sm (left lvs w) g.way+(-1)*sm (dlt w [m]) g.way:=by
  rw[<- uC];show qF λq _=>B1 (ns:=[m]) t q
 have nms:(lvs++[(m,L)]).map (·.1)=lvs.map (·.1)++[m]:=rS (ns:=[m]);have i:∀ n∈lvs.map (·.1),mY (lvs++[(m,L)]) n=mY lvs n:=λn d=>yG (ns:=[m]) d;have j:mY (lvs++[(m,L)]) m=vl L:=Bg (ns:=[m]) hm (by simp);rw[EM p]at o l;unfold iU.settle;cases hw:lM e.ws m with
 | none=>
  have s:m∉g.way:=λz=>(Bz.mp hw) (h.pm.mem_iff.mpr z);rw[if_neg s]at o l;show(h.pm,h.nd,h.wt,?_,?_,h.low,h.llow,λn d b=>?_,λ⟨n,d,b⟩=>?_)
  .rw[o,h.rest];grind
  .rw[l,h.load];grind
  .rw[nms]at b;rcases dk.mp b with b | b
   .rw[i n b];show h.l1 n d b
   .rw[bf.mp b]at d;show absurd d s
  .rw[nms]at b;rcases dk.mp b with b | b
   .let(q,C,v,D):=h.l2 ⟨n,d,b⟩;show(q,C,by rw[nms];show dk.mpr (.inl v),by rw[i q v];show D)
   .rw[bf.mp b]at d;show absurd d s
 | some k=>
  have f:=Fp hw;have u:m∈g.way:=h.pm.mem_iff.mp (di.mpr ⟨_,f,rfl⟩);have B:=h.wt _ f;have r:w m=(k:Rat):=B.1;rw[if_pos u,r]at o l;have A:=yF (a:=L) (c:=(k,1)) hL.b1 (fW 1);show(h.pm,h.nd,h.wt,?_,?_,Lw h.low.b1 A.b1,hL,λn d b=>?_,λ_=>⟨m,u,by rw[nms];simp,j⟩)
  .show vl (nT e.rest (lE L (k,1)))=_;rw[E8 h.low.b1 A.b1,A9 hL.b1 (fW 1),xC,o,h.rest];grind
  .show((e.load-k:Int):Rat)=_;rw[l, <- h.load];push_cast;grind
  .rw[nms]at b;rcases dk.mp b with b | b
   .rw[i n b];let(x,y,rfl):=di.mp b;rw[uE hnd y];show hle x y
   .rw[bf.mp b,j];show hO
end
structure oC(N:List Str)(w:Str->Rat)(gs:List Gp)(lvs:List (Str × (Int × Int)))(L:Int × Int):Prop where
 nd:(lvs.map (·.1)).Nodup
 sub:∀ n∈lvs.map (·.1),n∈N
 a:∀ x∈lvs,0<=vl x.2/\vl x.2<=vl L
 L0:0<=vl L
 cc:∀ g∈gs,vl L*sm (left lvs w) g.way<=g.R-sm (used lvs w) g.way
section
variable{N:List Str}{gs:List Gp}{lvs:List (Str × (Int × Int))}{L:Int × Int}{w:Str->Rat}{m:Str}
theorem oC.step(h:oC N w gs lvs L)(hg:∀ g∈gs,g.way.Nodup)(hm:m∈N)(hn:m∉lvs.map (·.1)):oC N w gs (lvs++[(m,L)]) L:=by
 have e:∀ n∈[m],n∉lvs.map (·.1):=λn b=>by rw[bf.mp b];show hn
 have nms:(lvs++[(m,L)]).map (·.1)=lvs.map (·.1)++[m]:=rS (ns:=[m]);show(?_,λn b=>?_,λx c=>?_,h.L0,λg d=>?_)
 .rw[nms];show fD.mpr ⟨h.nd,by simp,λx c y i z=>hn (by rw[bf.mp i]at z;rw[<- z];show c)⟩
 .rw[nms]at b;rcases dk.mp b with q | q
  .show h.sub n q
  .rw[bf.mp q];show hm
 .rcases dk.mp c with c | c
  .show h.a x c
  .rw[bf.mp c];show(h.L0,hO)
 .have j:sm (used (lvs++[(m,L)]) w) g.way=sm (used lvs w) g.way+vl L*sm (dlt w [m]) g.way:=by
   rw[<- uC];show qF λq _=>BM (ns:=[m]) e q
  have f:sm (left (lvs++[(m,L)]) w) g.way=sm (left lvs w) g.way+(-1)*sm (dlt w [m]) g.way:=by
   rw[<- uC];show qF λq _=>B1 (ns:=[m]) e q
  have:=h.cc g d;rw[j,f];grind
theorem oC.range(h:oC N w gs lvs L)(hw:∀ n∈N,0<w n)(hs:∀ g∈gs, ∀ n∈g.way,n∈N){g:Gp}(hg:g∈gs):0<=g.R-sm (used lvs w) g.way/\g.R-sm (used lvs w) g.way<=g.R:=by
 have i:=h.cc g hg;have d:=sm_nn (xG (lvs:=lvs) hw (hs g hg));have j:=iu h.L0 d;have f:0<=sm (used lvs w) g.way:=sm_nn λq e=>by
  unfold used;show iu ?_ (gz (hw q (hs g hg q e)));by_cases c:q∈lvs.map (·.1)
  .let(x,b,rfl):=di.mp c;rw[uE h.nd b];show(h.a x b).1
  .rw[uM c];show hO
 grind
end
theorem Dv.sm{D:Int}{a:Str->Rat}:∀{l:List Str},(∀ q∈l,Dv D (a q))->Dv D (L2.sm a l)
 | [],_=>Dv.int 0
 | n::l,h=>(h n (by simp)).add (Dv.sm (l:=l) λq hq=>h q (by simp[hq]))
variable{lvs:List (Str × (Int × Int))}
theorem Fx{D:Int}{b:Rat}{w:Str->Rat}{g:Gp}(hR:Dv D (g.R/b))(hw:∀ n∈g.way, ∃ k:Int,w n=(k:Rat))(hl:∀ x∈lvs,Dv D (vl x.2/b))(hnd:(lvs.map (·.1)).Nodup):Dv D ((g.R-sm (used lvs w) g.way)/b):=by
 have e:(g.R-sm (used lvs w) g.way)/b=g.R/b-sm (λn=>mY lvs n/b*w n) g.way:=by
  have : sm (used lvs w) g.way/b=sm (λn=>mY lvs n/b*w n) g.way:=by
   generalize g.way=l;induction l with
   | nil=>simp only[sm];grind
   | cons n l ih=>
    simp only[sm, <- ih];unfold used;grind
  rw[<- this];grind
 rw[e];show hR.sub (Dv.sm λq f=>?_);let(k,d):=hw q f;rw[d];show Dv.mul ?_ k;by_cases c:q∈lvs.map (·.1)
 .let(x,a,rfl):=di.mp c;rw[uE hnd a];show hl x a
 .rw[uM c];have : (0:Rat)/b=((0:Int):Rat):=by
   show(0:Rat)/b=0;grind
  rw[this];show Dv.int 0
variable{b:Int}
theorem Dv.up{D:Int}{r:Rat}(hb:1<=b)(h:Dv D (r/(b:Rat))):Dv D r:=by
 have:=h.mul b
 rwa [fC (mj hb)]at this
def oR(ws:List (Str × Int)):List (gD × V):=ws.map λp=>(aZ p.1, .int p.2)
theorem BB(n:Str):∀ ws:List (Str × Int),gR (oR ws) (aZ n)=(lM ws n).map V.int
 | []=>rfl
 | x::ws=>by
  have ih:=BB n ws;unfold oR lM at ih ⊢;rw[dw,fR];by_cases c:x.1=n
  .rw[pO (by rw[c]),decide_eq_true c];rfl
  .rw[qi (λz=>c (by injection z)),decide_eq_false c];show ih
theorem Ly(ws:List (Str × Int)):(oR ws).map (·.1)=(ws.map (·.1)).map aZ:=by
 unfold oR;rw[ie,ie];rfl
theorem Lx(ws:List (Str × Int)):(oR ws).map (·.2)=(ws.map (·.2)).map V.int:=by
 unfold oR;rw[ie,ie];rfl
theorem F1:∀(ps acc:List (Str × V)),((acc++ps).map (·.1)).Nodup->ps.foldl (λl p=>putK l (aZ p.1) p.2) (acc.map λp=>((aZ p.1:gD),p.2))=(acc++ps).map λp=>((aZ p.1:gD),p.2)
 | [],acc,_=>by simp
 | p::ps,acc,h=>by
  have ea:acc++p::ps=(acc++[p])++ps:=by simp
  rw[iB];have nn:gR (acc.map λp=>((aZ p.1:gD),p.2)) (aZ p.1)=none:=by
   cases e:gR (acc.map λp=>((aZ p.1:gD),p.2)) (aZ p.1)with
   | none=>rfl
   | some v=>
    have:=FR.mp (show(gR (acc.map λp=>((aZ p.1:gD),p.2)) (aZ p.1)).isSome=true by rw[e];rfl);rw[ie]at this;let(q,hq,eq):=di.mp this;have eq:(aZ q.1:gD)=aZ p.1:=eq;have eq:q.1=p.1:=by injection eq
    rw[dy,dw,fD]at h;show absurd rfl (h.2.2 p.1 (di.mpr ⟨q,hq,eq⟩) p.1 (by simp))
  rw[Ml p.2 nn];have : (acc.map λp=>((aZ p.1:gD),p.2))++[(aZ p.1,p.2)]=(acc++[p]).map λp=>((aZ p.1:gD),p.2):=by simp
  rw[this,F1 ps (acc++[p]) (by rw[<- ea];show h),ea]
theorem MU{ps:List (Str × V)}(h:(ps.map (·.1)).Nodup):rq ps=ps.map λp=>((aZ p.1:gD),p.2):=by
 unfold rq;show(F1 ps [] (by simpa using h)).trans (by rw[kL])
structure mF(n:Int × Int)(q:Int)(t:Int × Int):Prop where
 lo:Lo t
 cr:t.1*(n.2*q)=n.1*t.2
 le1:t.1.natAbs<=n.1.natAbs
 le2:t.2.natAbs<=n.2.natAbs*q.natAbs
variable{n:Int × Int}
theorem mF.nil(h:Lo n):mF n 1 n:=⟨h,by rw[iW],dh _,by simp⟩
theorem mF.step{t:Int × Int}{f:Int}(h:mF n q t)(hf:1<=f):mF n (q*f) (t.1.fdiv (Mth.g t.1 f),t.2*f.fdiv (Mth.g t.1 f)):=by
 have w:0<Mth.g t.1 f:=Mth.g_pos ∅;have k:=Mth.uN t.1 f;have a:=Mth.uS t.1 f;have j:=Mth.pR k ∅;have u:=Mth.pR a ∅;have m:=Mth.yQ (b:=t.1) (d:=f) rfl ∅;have p:=Mth.xP a ∅ hf;have c:=Mth.O0 k ∅;have e:=Mth.O0 a ∅;have v:t.1.fdiv (Mth.g t.1 f)∣t.1:=⟨_,j.symm⟩;have o:fJ (t.1.fdiv (Mth.g t.1 f)) t.2=1:=Mth.tY (Mth.yW h.lo.g1) v;have i:=h.cr;have l:=h.lo.b1;generalize t.1.fdiv (Mth.g t.1 f)=r at *;generalize f.fdiv (Mth.g t.1 f)=f' at *;generalize Mth.g t.1 f=s at *;show(⟨nE l p,Mth.Hf (Mth.vP o m)⟩,?_,?_,?_)
 .show r*(n.2*(q*f))=n.1*(t.2*f');have : r*(n.2*(q*f))=(t.1*(n.2*q))*f':=by
   rw[<- j, <- u];simp only[gu,gL,km]
  rw[this,i,gu]
 .show fG c h.le1
 .show(t.2*f').natAbs<=n.2.natAbs*(q*f).natAbs;rw[gq,gq, <- Nat.mul_assoc];show Nat.mul_le_mul h.le2 e
theorem mF.vl{t:Int × Int}(h:mF n q t)(hn:1<=n.2)(hq:1<=q):vl t=vl n/(q:Rat):=by
 have i:=mj hn;have f:=mj h.lo.b1;have g:=mj hq;have e:(t.1:Rat)*((n.2:Rat)*(q:Rat))=(n.1:Rat)*(t.2:Rat):=by exact_mod_cast h.cr
 unfold L2.vl;generalize(t.1:Rat)=a at *;generalize(t.2:Rat)=b at *;generalize(n.1:Rat)=c at *;generalize(n.2:Rat)=d at *;generalize(q:Rat)=q at *;grind
def q5(ms:List (Str × (Int × Int)))(lds:List iU)(S:List Str):List ((Int × Int) × List Str) :=
 (ms.filter λm=>decide (m.1∉S)).map (λm=>(m.2,[m.1]))++(lds.filter λe=>decide (0<e.load)).map λe=>(mD e.rest (e.load,1),(e.ws.map (·.1)).filter λn=>decide (n∉S))
def p9(K:aW)(H:Hp)(s:(Int × Int) × List Str)(x:V):Prop:=∃ t v l,x=.ref t/\gZ K H t [v, .ref l]/\fO K H v s.1.1 s.1.2/\H l=some (.lst (s.2.map V.str))
variable{x:V}
theorem p9.same{K:aW}{s:(Int × Int) × List Str}(S:dC H H'):p9 K H s x->p9 K H' s x:=by rintro⟨t,v,l,a,b,d,c⟩;show(t,v,l,a,b.same S,d.same S,S _ _ c)
def pB(K:aW)(H:Hp)(a:Str × (Int × Int))(x:V):Prop:=fO K H x a.2.1 a.2.2
theorem pB.sameT{K:aW}{a:Str × (Int × Int)}(S:dH H H')(h:pB K H a x):pB K H' a x:=fO.sameT S h
def oM(d:Addr)(kv:List (gD × V))(H:Hp):Hp:=upd H d (.dK kv)
section
variable{a:Addr}{kv kw:List (gD × V)}{k:gD}
theorem Ft(h:H d=some (.dK kv)):oM d kv (upd H d (.frz od (.dK kv)))=H:=by
 funext b
 unfold oM;by_cases c:b=d
 .subst c;rw[jo,h]
 .rw[fF c,fF c]
theorem BO(S:dC H H'):dC (oM d kv H) (oM d kv H'):=λb u h=>by
 unfold oM at h ⊢;by_cases c:b=d
 .subst c;rw[jo]at h ⊢;show h
 .rw[fF c]at h ⊢;show S _ _ h
theorem Fs(hd:H d=some (.frz od (.dK kv)))(ha:oM d kv H a=some (.dK kw)):gE H a (kV k) (gR kw k):=by
 unfold oM at ha;by_cases c:a=d
 .subst c;rw[jo]at ha;cases ha;show gE.f hd
 .rw[fF c]at ha;show gE.k ha
theorem BP(hd:H d=some (.frz od (.dK kv)))(ha:H a=none):oM d kv H a=none:=by
 unfold oM;rw[fF (λz=>by rw[z,hd]at ha;cases ha)];show ha
end
theorem p9.cut{K:aW}{s:(Int × Int) × List Str}{p:Addr}(h:p9 K (cut p H) s x):p9 K H s x:=h.same xK
structure rO(ls:List PD)(es:List (GD × List Str))(pl:Str->Int × Int):Prop where
 l12:ls.length<=12
 l7:es.length<=7
 l14:ls.length+es.length<=16
 nd:(ls.map (·.nm)).Nodup
 gn:∀ e∈es, ∀ u∈es.map (·.1),u.nm=e.1.nm->u=e.1
 pok:∀ p∈ls,sI p
 pb:∀ p∈ls,(1<=p.sz.2/\Mth.Sz 60 p.sz.2)/\FB 200 12 p.mo
 wt:∀ p∈ls,Mth.Sz 21 p.wt
 tok:∀ e∈es,sC e.1.td
 gb:∀ e∈es,(1<=e.1.lo.2/\Mth.Sz 60 e.1.lo.2)/\1<=e.1.hi.2/\Mth.Sz 60 e.1.hi.2
 rb:∀ e∈es,FB 200 12 (roomF pl e.1)
 plb:∀ f,FB 302 161 (pl f)
 pls:∀ p∈ls,vl (pl p.en)=vl (pl p.st)+vl p.sz
 way:∀ e∈es, ∀ w:List Pr,kZ ls e.1.st w e.1.en->(w.map (·.1)).Nodup->e.2.Perm (w.map (·.1))
structure vw(b:Int)(ls:List PD)(pl:Str->Int × Int)(e:GD × List Str)(l:iU):Prop where
 nm:l.nm=e.1.nm
 rest:vl l.rest=vl (roomF pl e.1)*(b:Rat)
 fb:FB 2200 12 l.rest
 pm:(l.ws.map (·.1)).Perm e.2
 nd:(l.ws.map (·.1)).Nodup
 wt:∀ x∈l.ws, ∃ p∈ls,p.nm=x.1/\p.wt=x.2
 load:l.load=(l.ws.map (·.2)).sum
 last:l.last=(0,1)
structure yk(b:Int)(p:PD)(m:Str × (Int × Int)):Prop where
 nm:m.1=p.nm
 vl:L2.vl m.2=L2.vl p.mo*(b:Rat)/(p.wt:Rat)
 fb:FB 2200 33 m.2
variable{kv:List (gD × V)}
theorem yr{a:Addr}{u:HO}(hd:H d=some (.frz od (.dK kv)))(ha:H a=some u)(hu:∀ o w,u≠.frz o w):oM d kv H a=some u:=by
 unfold oM;rw[fF (λz=>by rw[z,hd]at ha;cases ha;show hu _ _ rfl)];show ha
theorem F9:∀{ls:List (Str × β)}{p q:Str × β},(ls.map (·.1)).Nodup->p∈ls->q∈ls->p.1=q.1->p=q
 | [],_,_,_,hp,_,_=>by cases hp
 | a::ls,p,q,hn,hp,hq,e=>by
  rw[dw,gy]at hn;rcases eP.mp hp with h1 | h1 <;> rcases eP.mp hq with h2 | h2
  .rw[h1,h2]
  .subst h1;show absurd (e ▸ di.mpr ⟨q,h2,rfl⟩) hn.1
  .subst h2;show absurd (e ▸ di.mpr ⟨p,h1,rfl⟩) hn.1
  .show F9 hn.2 h1 h2 e
theorem BG.keysS{P:(Str × (Int × Int))->V->Prop}{as:List (Str × (Int × Int))}(h:BG (·.1) P as kvs):kvs.map (·.1)=(as.map (·.1)).map aZ:=by
 rw[h.1,ie];rfl
structure RC(b Q:Int)(N:List Str)(w M:Str->Rat)(gs:List Gp)(ms:List (Str × (Int × Int))):Prop where
 b1:1<=b
 nm:ms.map (·.1)=N
 nd:N.Nodup
 l12:N.length<=12
 wt:∀ n∈N, ∃ k:Int,w n=(k:Rat)/\1<=k/\Mth.Sz 21 k
 ml:∀ m∈ms,vl m.2=M m.1/\FB 2200 33 m.2/\0<=M m.1
 gw:∀ g∈gs,(∀ n∈g.way,n∈N)/\g.way.Nodup/\0<=g.R/\g.R<=(Q:Rat)
 mq:∀ n∈N,M n<=(Q:Rat)
 sQ:Mth.Sz 2200 Q
def qD(w:Str->Rat)(lvs:List (Str × (Int × Int)))(gs:List Gp)(lds:List iU):Prop:=lds.length=gs.length/\∀(i:Nat) g e,gs[i]?=some g->lds[i]?=some e->mP w g lvs e
structure RB(b:Int)(N:List Str)(w M:Str->Rat)(gs:List Gp)(k:Nat)(lvs:List (Str × (Int × Int)))(D:Int):Prop where
 D1:1<=D
 sD:Mth.Sz (230+25*k) D
 dl:∀ x∈lvs,Dv D (vl x.2/(b:Rat))
 dr:∀ g∈gs,Dv D (g.R/(b:Rat))
 dm:∀ n∈N,Dv D (M n/(b:Rat)*w n)
structure oN(b:Int)(N:List Str)(w M:Str->Rat)(gs:List Gp)(lvs:List (Str × (Int × Int)))(lds:List iU):Prop where
 inv:∃ L,mU N w M gs lvs (vl L)
 ok:qD w lvs gs lds
 bt:∃ D,RB b N w M gs lvs.length lvs D
 lo:∀ x∈lvs,Lo x.2
structure sH(b:Int)(N:List Str)(w M:Str->Rat)(gs:List Gp)(L:Int × Int)(D:Int)(k:Nat)(lvs:List (Str × (Int × Int)))(lds:List iU):Prop where
 inv:oC N w gs lvs L
 ok:qD w lvs gs lds
 bt:RB b N w M gs k lvs D
 k12:k<=12
 dL:Dv D (vl L/(b:Rat))
 fL:FB 3000 1000 L
section
variable{Q:Int}{N ns:List Str}{M:Str->Rat}{gs:List Gp}{ms:List (Str × (Int × Int))}{lds:List iU}{L:Int × Int}{w:Str->Rat}{D:Int}{k:Nat}
theorem qD.fwd(h:qD w lvs gs lds){g:Gp}(hg:g∈gs):∃ e∈lds,mP w g lvs e:=by
 let(i,b):=dA hg;have c:=(aU.mp b).1;have a:i<lds.length:=by rw[h.1];show c
 show(lds[i],ij a,h.2 i g _ b (aV a))
theorem qD.bwd(h:qD w lvs gs lds){e:iU}(he:e∈lds):∃ g∈gs,mP w g lvs e:=by
 let(i,b):=dA he;have c:=(aU.mp b).1;have a:i<gs.length:=by rw[<- h.1];show c
 show(gs[i],ij a,h.2 i _ e (aV a) b)
theorem RC.wpos(hc:RC b Q N w M gs ms):∀ n∈N,0<w n:=λn a=>by
 let(k,c,d,_):=hc.wt n a;rw[c];exact_mod_cast (show 0<k by ac_nf)
theorem mU.s(h:mU N w M gs lvs (vl L)):oC N w gs lvs L:=⟨h.nd,h.sub,λx b=>⟨(h.a x b).1,(h.a x b).2.1⟩,h.c0,h.cc⟩
theorem Bq(hc:RC b Q N w M gs ms)(hi:oC N w gs lvs L)(hb:RB b N w M gs k lvs D)(k12:k<=13){g:Gp}(hg:g∈gs){e:iU}(he:mP w g lvs e):FB 2800 600 e.rest:=by
 have a:=hi.range hc.wpos (λg hg=>(hc.gw g hg).1) hg;have c:=hc.gw g hg;have d:=(Fx (hb.dr g hg) (λn f=>by let(k,h,_):=hc.wt n (c.1 n f);show(k,h)) hb.dl hi.nd).up hc.b1;rw[<- he.rest]at d a;show d.fb (m:=2200) (n:=600) he.low.b1 he.low.g1 hb.D1 (hb.sD.mono ∅) a.1 (er a.2 c.2.2.2) hc.sQ
theorem A4{a:Str->Rat}{B:Int}(hB:0<=B):∀{l:List Str}{n:Nat},(∀ q∈l,a q<=(B:Rat))->l.length<=n->sm a l<=((B*n:Int):Rat)
 | [],n,_,_=>by
  have : 0<=B*(n:Int):=Int.mul_nonneg hB ∅;simp only[sm];exact_mod_cast this
 | q::l,0,_,h=>by simp at h
 | q::l,n+1,h,hl=>by
  have h1:=h q (by simp);have h2:=A4 hB (l:=l) (n:=n) (λr hr=>h r (by simp[hr])) (by simpa using hl);have e:((B*((n+1:Nat):Int):Int):Rat)=(B:Rat)+((B*(n:Int):Int):Rat):=by
   have : B*((n+1:Nat):Int)=B+B*(n:Int):=by push_cast;rw[Int.mul_add,iW,Int.add_comm]
   rw[this];push_cast;rfl
  simp only[sm];rw[e];grind
theorem Fq(hc:RC b Q N w M gs ms){g:Gp}(hg:g∈gs):g.way.length<=12:=fG (sub_len _ _ (hc.gw g hg).2.1 (hc.gw g hg).1) hc.l12
theorem Bh(hc:RC b Q N w M gs ms){g:Gp}(hg:g∈gs){e:iU}(he:mP w g lvs e):0<=e.load/\Mth.Sz 25 e.load:=by
 have d:=hc.gw g hg;have a:=sm_nn (xG (lvs:=lvs) hc.wpos d.1);obtain⟨B,l⟩:∃ B:Int,B=2097152:=⟨_,rfl⟩;have B0:0<=B:=by ac_nf
 have c:sm (left lvs w) g.way<=((B*(12:Nat):Int):Rat):=A4 B0 (λq j=>by
  let(k,h,f,i):=hc.wt q (d.1 q j);have : k<=B:=by unfold Mth.Sz at i;ac_nf
  have : (k:Rat)<=(B:Rat):=by exact_mod_cast this
  unfold left;split
  .exact_mod_cast B0
  .rw[h];show this) (Fq hc hg)
 rw[<- he.load]at a c;have a:0<=e.load:=by exact_mod_cast a
 have c:e.load<=B*(12:Nat):=gJ.mp c;show(a,?_);unfold Mth.Sz;ac_nf
theorem tW{s:(Int × Int) × List Str}:s∈q5 ms lds S↔(∃ m∈ms,m.1∉S/\s=(m.2,[m.1]))\/∃ e∈lds,0<e.load/\s=(mD e.rest (e.load,1),(e.ws.map (·.1)).filter λn=>decide (n∉S)):=by
 unfold q5;rw[dk,di,di];constructor
 .rintro(⟨m,b,rfl⟩ | ⟨e,a,rfl⟩)
  .have:=fQ.mp b;show .inl ⟨m,this.1,by simpa using this.2,rfl⟩
  .have:=fQ.mp a;show .inr ⟨e,this.1,by simpa using this.2,rfl⟩
 .rintro(⟨m,b,h,rfl⟩ | ⟨e,a,h,rfl⟩)
  .show .inl ⟨m,fQ.mpr ⟨b,by simpa using h⟩,rfl⟩
  .show .inr ⟨e,fQ.mpr ⟨a,by simpa using h⟩,rfl⟩
theorem oN.len(hc:RC b Q N w M gs ms)(h:oN b N w M gs lvs lds):lvs.length<=N.length:=by
 let(L,a):=h.inv;have:=sub_len _ _ a.nd a.sub;simpa using this
theorem oN.all(hc:RC b Q N w M gs ms)(h:oN b N w M gs lvs lds)(hl:N.length<=lvs.length):∀ n∈N,n∈lvs.map (·.1):=by
 let(L,c):=h.inv;intro n d;show gY λz=>?_;have:=sub_len (n::lvs.map (·.1)) N (gy.mpr ⟨z,c.nd⟩) (λq a=>by
  rcases eP.mp a with e | a
  .rw[e];show d
  .show c.sub q a)
 simp at this;ac_nf
theorem oN.lids(hc:RC b Q N w M gs ms)(h:oN b N w M gs lvs lds):∀ e∈lds,FB 3000 1000 e.rest/\Mth.Sz 64 e.load/\e.ws.length<=12:=by
 intro e j;let(L,i):=h.inv;let(D,d):=h.bt;let(g,a,c):=h.ok.bwd j;have f:=Bq hc i.s d (by have:=h.len hc;have:=hc.l12;ac_nf) a c;show(⟨f.s1.mono ⋯,f.s2.mono ⋯,f.b1,f.g1⟩,(Bh hc a c).2.mono ⋯,?_);have:=c.pm.length_eq;rw[bc]at this;rw[this];show Fq hc a
theorem oN.some(hc:RC b Q N w M gs ms)(h:oN b N w M gs lvs lds)(hl:lvs.length<N.length):q5 ms lds (lvs.map (·.1))≠[]:=by
 intro z;have : ∀ n∈N,n∈lvs.map (·.1):=λn a=>by
  rw[<- hc.nm]at a;let(m,c,rfl):=di.mp a;show gY λy=>?_;have : ((m.2,[m.1]):(Int × Int) × List Str)∈q5 ms lds (lvs.map (·.1)):=tW.mpr (.inl ⟨m,c,y,rfl⟩);rw[z]at this;cases this
 have:=sub_len N (lvs.map (·.1)) hc.nd (λq d=>this q d);simp at this;ac_nf
theorem oN.stops(hc:RC b Q N w M gs ms)(h:oN b N w M gs lvs lds):∀ s∈q5 ms lds (lvs.map (·.1)),FB 3000 1000 s.1/\∀ n∈s.2,n∈N/\n∉lvs.map (·.1):=by
 intro s k;rcases tW.mp k with⟨m,hm,hS,rfl⟩ | ⟨e,he,hl,rfl⟩
 .have f:=(hc.ml m hm).2.1;show(⟨f.s1.mono ⋯,f.s2.mono ⋯,f.b1,f.g1⟩,λn a=>?_);rw[bf.mp a];show(hc.nm ▸ di.mpr ⟨m,hm,rfl⟩,hS)
 .let(L,j):=h.inv;let(D,i):=h.bt;let(g,c,d):=h.ok.bwd he;have f:=Bq hc j.s i (by have:=h.len hc;have:=hc.l12;ac_nf) c d;have z:=Bh hc c d;show(?_,λn a=>?_)
  .show FB.low (nE f.b1 ∅) ?_ ?_
   .show Mth.Sz 3000 (e.rest.1*1);rw[iW];show f.s1.mono ⋯
   .show(f.s2.mul z.2).mono ⋯
  .have:=fQ.mp a;show((hc.gw g c).1 n (d.pm.mem_iff.mp this.1),by simpa using this.2)
theorem oN.first(hc:RC b Q N w M gs ms)(h:oN b N w M gs lvs lds)(hlt:lvs.length<N.length)(hL:L∈(q5 ms lds (lvs.map (·.1))).map (·.1))(hmin:∀ s∈q5 ms lds (lvs.map (·.1)),vl L<=vl s.1)(hnd:ns.Nodup)(hns:∀ n,n∈ns↔∃ s∈q5 ms lds (lvs.map (·.1)),s.1=L/\n∈s.2) :
  ns≠[]/\(∀ n∈ns,n∈N/\n∉lvs.map (·.1))/\mU N w M gs (lvs++ns.map λn=>(n,L)) (vl L)/\∃ D,sH b N w M gs L D (lvs.length+1) lvs lds:=by
 let(L0,A):=h.inv;let(D,B):=h.bt;have W:=h.stops hc;let(s0,F,u):=di.mp hL;have U:FB 3000 1000 L:=u ▸ (W s0 F).1;have wp:=hc.wpos;have gN:=λ(g:Gp)(c:g∈gs)=>(hc.gw g c).1;have T:∀ n∈N,n∉lvs.map (·.1)->vl L<=M n:=λn f r=>by
  rw[<- hc.nm]at f;let(m,i,rfl):=di.mp f;have:=hmin _ (tW.mpr (.inl ⟨m,i,r,rfl⟩));rw[<- (hc.ml m i).1];show this
 have K:∀ e g,g∈gs->mP w g lvs e->0<e.load->vl (mD e.rest (e.load,1))*sm (left lvs w) g.way=g.R-sm (used lvs w) g.way:=λe g c d j=>by
  rw[EC d.low.b1 (by show 1<=e.load;ac_nf) (fW 1),xC, <- d.load, <- d.rest];show fC (mj ∅)
 have G:∀ g∈gs,0<sm (left lvs w) g.way->vl L*sm (left lvs w) g.way<=g.R-sm (used lvs w) g.way:=λg c l=>by
  let(e,E,d):=h.ok.fwd c;have j:0<e.load:=by rw[<- d.load]at l;exact_mod_cast l
  have:=hmin _ (tW.mpr (.inr ⟨e,E,j,rfl⟩));rw[<- K e g c d j];show fk this (gz l)
 have key:∀ n,n∈ns↔n∈N/\n∉lvs.map (·.1)/\(M n=vl L\/∃ g∈gs,n∈g.way/\0<sm (left lvs w) g.way/\vl L*sm (left lvs w) g.way=g.R-sm (used lvs w) g.way):=λn=>by
  rw[hns n];constructor
  .rintro⟨s,J,Y,S⟩;have H:=(W s J).2 n S;show(H.1,H.2,?_);rcases tW.mp J with⟨m,i,r,rfl⟩ | ⟨e,E,j,rfl⟩
   .left
    rw[bf.mp S, <- Y];show(hc.ml m i).1.symm
   .right
    let(g,c,d):=h.ok.bwd E;show(g,c,d.pm.mem_iff.mp (fQ.mp S).1,?_,?_)
    .rw[<- d.load];exact_mod_cast j
    .rw[<- Y];show K e g c d j
  .rintro⟨f,r,e | ⟨g,c,hw,l,e⟩⟩
   .rw[<- hc.nm]at f;let(m,i,rfl):=di.mp f;show(_,tW.mpr (.inl ⟨m,i,r,rfl⟩),(hc.ml m i).2.1.lo.inj U.lo ((hc.ml m i).1.trans e),by simp)
   .let(o,E,d):=h.ok.fwd c;have j:0<o.load:=by rw[<- d.load]at l;exact_mod_cast l
    have i:((mD o.rest (o.load,1),(o.ws.map (·.1)).filter λn=>decide (n∉lvs.map (·.1))):(Int × Int) × List Str)∈q5 ms lds (lvs.map (·.1)):=tW.mpr (.inr ⟨o,E,j,rfl⟩);show(_,i,(W _ i).1.lo.inj U.lo ?_,fQ.mpr ⟨d.pm.mem_iff.mpr hw,by simpa using r⟩);have:=K o g c d j;rw[<- e]at this;have p':sm (left lvs w) g.way≠0:=λz=>by rw[z]at l;show absurd l ⋯
    show vl (mD o.rest (o.load,1))=vl L;grind
 have t:(∃ n∈N,n∉lvs.map (·.1)/\M n=vl L)\/∃ g∈gs,0<sm (left lvs w) g.way/\vl L*sm (left lvs w) g.way=g.R-sm (used lvs w) g.way/\∃ e:iU,mP w g lvs e/\0<e.load/\L=mD e.rest (e.load,1):=by
  rcases tW.mp F with⟨m,i,r,rfl⟩ | ⟨e,E,j,rfl⟩
  .show .inl ⟨m.1,hc.nm ▸ di.mpr ⟨m,i,rfl⟩,r,by rw[<- u];show(hc.ml m i).1.symm⟩
  .let(g,c,d):=h.ok.bwd E;show .inr ⟨g,c,?_,by rw[<- u];show K e g c d j,e,d,j,u.symm⟩;rw[<- d.load];exact_mod_cast j
 have C:vl L0<=vl L:=A.le (t.imp id λζ=>by let(g,c,V,P,_):=ζ;show(g,c,V,P));have ne:ns≠[]:=λz=>by
  rcases t with⟨n,f,r,e⟩ | ⟨g,c,l,e,_⟩
  .have:=(key n).mpr ⟨f,r, .inl e⟩;rw[z]at this;cases this
  .have : ∃ n∈g.way,n∉lvs.map (·.1):=gY λy=>by
    rw[uJ (a:=left lvs w) λq hq=>if_pos (gY λv=>y ⟨q,hq,v⟩)]at l;show absurd l ⋯
   let(n,f,r):=this;have:=(key n).mpr ⟨gN g c n f,r, .inr ⟨g,c,f,l,e⟩⟩;rw[z]at this;cases this
 show(ne,λn f=>⟨((key n).mp f).1,((key n).mp f).2.1⟩,A.round wp gN hnd T G key C,?_);have si:oC N w gs lvs L:=by
  show(A.nd,A.sub,λx O=>⟨(A.a x O).1,er (A.a x O).2.1 C⟩,er A.c0 C,λg c=>?_);by_cases p:0<sm (left lvs w) g.way
  .show G g c p
  .have e0:sm (left lvs w) g.way=0:=by have:=sm_nn (xG (lvs:=lvs) wp (gN g c));grind
   have:=A.cc g c;rw[e0]at this ⊢;grind
 obtain⟨k,X,ks,I⟩:∃ k:Int,1<=k/\Mth.Sz 25 k/\Dv D (vl L/(b:Rat)*(k:Rat)):=by
  rcases t with⟨n,f,r,e⟩ | ⟨g,c,l,e,o,d,j,eL⟩
  .let(k,I,V,P):=hc.wt n f;show(k,V,P.mono ⋯,?_);have:=B.dm n f;rw[e,I]at this;show this
  .show(o.load,∅,(Bh hc c d).2,?_);have Z:=Fx (B.dr g c) (λn f=>by let(k,I,_):=hc.wt n (gN g c n f);show(k,I)) B.dl A.nd;rw[<- e, <- d.load]at Z;have : vl L/(b:Rat)*(o.load:Rat)=vl L*(o.load:Rat)/(b:Rat):=by grind
   rw[this];show Z
 show(D*k,si,h.ok,⟨nE B.D1 X,?_,λx O=>(B.dl x O).more k,λg c=>(B.dr g c).more k,λn f=>(B.dm n f).more k⟩,by have:=hc.l12;ac_nf,I.over X,U);have:=B.sD.mul ks;rw[show 230+25*(lvs.length+1)=230+25*lvs.length+25 by ac_nf];show this
theorem sH.rest(hc:RC b Q N w M gs ms)(h:sH b N w M gs L D k lvs lds):∀ e∈lds,FB 3000 1000 e.rest/\∀ x∈e.ws,Mth.Sz 64 x.2:=by
 intro e l;let(g,d,a):=h.ok.bwd l;have f:=Bq hc h.inv h.bt (by have:=h.k12;ac_nf) d a;show(⟨f.s1.mono ⋯,f.s2.mono ⋯,f.b1,f.g1⟩,λx i=>?_);have c:x.1∈N:=(hc.gw g d).1 _ (a.pm.mem_iff.mp (di.mpr ⟨x,i,rfl⟩));let(k,j,_,m):=hc.wt _ c;have:=(a.wt x i).1;rw[j]at this;have : k=x.2:=by exact_mod_cast this
 rw[<- this];show m.mono ⋯
theorem sH.step(hc:RC b Q N w M gs ms)(h:sH b N w M gs L D k lvs lds){n:Str}(hn:n∈N)(hS:n∉lvs.map (·.1)):sH b N w M gs L D k (lvs++[(n,L)]) (lds.map λe=>e.settle n L):=by
 show(h.inv.step (λg f=>(hc.gw g f).2.1) hn hS,⟨by rw[bc];show h.ok.1,λi g e f j=>?_⟩,⟨h.bt.D1,h.bt.sD,λx c=>?_,h.bt.dr,h.bt.dm⟩,h.k12,h.dL,h.fL)
 .rw[bg]at j;let(l,d,rfl):=dM.mp j;show(h.ok.2 i g l f d).settle h.inv.nd hS h.fL.lo λx c=>(h.inv.a x c).2
 .rcases dk.mp c with c | c
  .show h.bt.dl x c
  .rw[bf.mp c];show h.dL
theorem sH.next(hc:RC b Q N w M gs ms)(h:sH b N w M gs L D k (lvs++ns.map λn=>(n,L)) lds)(hi:mU N w M gs (lvs++ns.map λn=>(n,L)) (vl L))(hlo:∀ x∈lvs,Lo x.2)(hk:k<=lvs.length+ns.length):oN b N w M gs (lvs++ns.map λn=>(n,L)) lds:=by
 show(⟨L,hi⟩,h.ok,⟨D,h.bt.D1,h.bt.sD.mono (by simp;ac_nf),h.bt.dl,h.bt.dr,h.bt.dm⟩,λx a=>?_);rcases dk.mp a with a | a
 .show hlo x a
 .let(n,_,rfl):=di.mp a;show h.fL.lo
end
theorem fh.put{P P' : α->V->Prop}:∀{as:List α}{xs:List V}{j:Nat}{a' : α}{x:V},fh P as xs->xs[j]?=some x->P' a' x->(∀(i:Nat) a y,i≠j->as[i]?=some a->xs[i]?=some y->P a y->P' a y)->fh P' (as.set j a') xs
 | [],xs,j,a',x,h,hx,_,_=>by
  have h:xs=[]:=h;subst h;cases hx
 | a::as,xs,0,a',x,h,hx,p,m=>by
  let(y,r,rfl,h1,h2):=h;have hx:y=x:=by simpa using hx
  subst hx;show(y,r,rfl,p,?_);have go:∀{as:List α}{r:List V},fh P as r->(∀(i:Nat) a y,as[i]?=some a->r[i]?=some y->P a y->P' a y)->fh P' as r:=by
   intro as;induction as with
   | nil=>intro r h _;show h
   | cons b bs ih=>
    intro r h m;let(z,t,rfl,h1,h2):=h;show(z,t,rfl,m 0 b z rfl rfl h1,ih h2 λi a y ha hy=>m (i+1) a y (by simpa using ha) (by simpa using hy))
  show go h2 λi a y ha hy=>m (i+1) a y ∅ (by simpa using ha) (by simpa using hy)
 | a::as,xs,j+1,a',x,h,hx,p,m=>by
  let(y,r,rfl,h1,h2):=h;show(y,r,rfl,m 0 a y ∅ rfl rfl h1,fh.put h2 (by simpa using hx) p λi a y ne ha hy=>m (i+1) a y ∅ (by simpa using ha) (by simpa using hy))
theorem KJ{f : α->α}{ls:List α}{j:Nat}:((ls.take j).map f++ls.drop j)[j]?=ls[j]?:=by
 by_cases c:j<=ls.length
 .have e:((ls.take j).map f).length=j:=by rw[bc,eS];ac_nf
  rw[iH ∅,e,List.getElem?_drop];simp
 .have e:((ls.take j).map f++ls.drop j).length<=j:=by simp;ac_nf
  rw[eN e,eN ∅]
theorem F8{f : α->α}:∀{ls:List α}{j:Nat}{e : α},ls[j]?=some e->((ls.take j).map f++ls.drop j).set j (f e)=(ls.take (j+1)).map f++ls.drop (j+1)
 | [],j,e,h=>by simp at h
 | a::ls,0,e,h=>by
  have h:a=e:=by simpa using h
  subst h;simp
 | a::ls,j+1,e,h=>by
  have:=F8 (f:=f) (ls:=ls) (j:=j) (e:=e) (by simpa using h);simp only[List.take_succ_cons,dw,List.drop_succ_cons,gO,List.set_cons_succ,this]
theorem Md{ns:List α}{i:Nat}{n : α}(h:ns.Nodup)(hn:ns[i]?=some n):n∉ns.take i:=by
 intro z;rw[<- kA i ns,fD]at h;show h.2.2 n z n (aY (i:=0) ?_) rfl;rw[List.getElem?_drop];show hn
variable{n:Str}{L:Int × Int}
theorem LP{e:iU}:(e.settle n L).nm=e.nm:=by
 unfold iU.settle;split <;> rfl
theorem Nc{ls:List iU}:(ls.map λe=>e.settle n L).map (·.nm)=ls.map (·.nm):=by
 rw[ie];show jN λe _=>LP
structure nB where
 nm:Str
 sl:Int × Int
 sp:Option Str
def my(ls:List PD)(n:Str):Rat:=((ls.find? λp=>decide (p.nm=n)).map λp=>(p.wt:Rat)).getD 0
def pq(ls:List PD)(n:Str):Rat:=((ls.find? λp=>decide (p.nm=n)).map λp=>vl p.mo/(p.wt:Rat)).getD 0
def ye(es:List (GD × List Str))(pl:Str->Int × Int):List Gp:=es.map λe=>⟨vl (roomF pl e.1),e.2⟩
def rK(b:Int)(es:List (GD × List Str))(pl:Str->Int × Int):List Gp:=es.map λe=>⟨vl (roomF pl e.1)*(b:Rat),e.2⟩
def pk(w f:Str->Rat)(pl:Str->Int × Int)(n:Str)(e:GD × List Str):Bool:=decide (n∈e.2)&&(decide (sm (λq=>f q*w q) e.2=vl (roomF pl e.1))&&decide (∀ q∈e.2,f q<=f n))
structure qe(ls:List PD)(es:List (GD × List Str))(pl:Str->Int × Int)(f:Str->Rat)(p:PD)(r:nB):Prop where
 nm:r.nm=p.nm
 lo:Lo r.sl
 val:vl r.sl=f p.nm*(p.wt:Rat)
 sp:(r.sl=p.mo/\r.sp=none)\/(r.sl≠p.mo/\∃ e,es.find? (pk (my ls) f pl p.nm)=some e/\r.sp=some e.1.nm)
structure Eh(ls:List PD)(es:List (GD × List Str))(pl:Str->Int × Int)(f:Str->Rat)(D:Int):Prop where
 sub:∀ e∈es,(∀ n∈e.2,n∈ls.map (·.nm))/\e.2.Nodup
 fair:ph (ls.map (·.nm)) (my ls) (pq ls) (ye es pl) f
 D1:1<=D
 sD:Mth.Sz 600 D
 dv:∀ n∈ls.map (·.nm),Dv D (f n)
structure sF(ls:List PD)(es:List (GD × List Str))(pl:Str->Int × Int)(rs:List nB):Prop where
 len:rs.length=ls.length
 ex:∃ f D,Eh ls es pl f D/\∀(i:Nat) p r,ls[i]?=some p->rs[i]?=some r->qe ls es pl f p r
theorem Bj:∀{ls:List PD}{p:PD},(ls.map (·.nm)).Nodup->p∈ls->ls.find? (λq=>decide (q.nm=p.nm))=some p
 | [],_,_,h=>by cases h
 | a::ls,p,hn,h=>by
  rw[dw,gy]at hn;rw[fR];rcases eP.mp h with e | h
  .subst e;simp
  .have : a.nm≠p.nm:=λz=>hn.1 (z ▸ di.mpr ⟨p,h,rfl⟩);rw[decide_eq_false this];show Bj hn.2 h
section
variable{es:List (GD × List Str)}{f':Str->Rat}{rs rs':List nB}{pl:Str->Int × Int}{f:Str->Rat}
theorem uA(hn:(ls.map (·.nm)).Nodup)(hp:p∈ls):my ls p.nm=(p.wt:Rat):=by
 unfold my;rw[Bj hn hp];rfl
theorem uD(hn:(ls.map (·.nm)).Nodup)(hp:p∈ls):pq ls p.nm=vl p.mo/(p.wt:Rat):=by
 unfold pq;rw[Bj hn hp];rfl
theorem Ls(hn:(ls.map (·.nm)).Nodup)(hk:∀ p∈ls,1<=p.wt):∀ n∈ls.map (·.nm),0<my ls n:=λn h=>by
 let(p,a,rfl):=di.mp h;rw[uA hn a];have:=hk p a;exact_mod_cast (show 0<p.wt by ac_nf)
theorem yJ{g:Gp}(h:g∈ye es pl):∃ e∈es,g=⟨vl (roomF pl e.1),e.2⟩:=by
 let(e,a,rfl):=di.mp h;show(e,a,rfl)
theorem sF.uniq(hn:(ls.map (·.nm)).Nodup)(hk:∀ p∈ls,1<=p.wt)(h:sF ls es pl rs)(k:sF ls es pl rs'):rs=rs':=by
 let(T,f,D,F,R):=h;let(U,o,D',F',M):=k;have N:=Ls hn hk;have P:∀ g∈ye es pl, ∀ n∈g.way,n∈ls.map (·.nm):=λg I=>by
  let(e,O,rfl):=yJ I;show(F.sub e O).1
 have e:=F.fair.uniq N P F'.fair;show iS λi=>?_;by_cases c:i<ls.length
 .have L:i<rs.length:=by ac_nf
  have H:i<rs'.length:=by ac_nf
  have v:=aV c;have z:=aV L;have w:=aV H;have r:=R i _ _ v z;have s:=M i _ _ v w;rw[z,w];generalize ls[i]=p at *;generalize rs[i]=a at *;generalize rs'[i]=b at *;have u:p∈ls:=aY v;have l:p.nm∈ls.map (·.nm):=di.mpr ⟨p,u,rfl⟩;have d:a.sl=b.sl:=r.lo.inj s.lo (by rw[r.val,s.val,e _ l]);have E:es.find? (pk (my ls) f pl p.nm)=es.find? (pk (my ls) o pl p.nm):=by
   have J:∀{t:List (GD × List Str)},(∀ x∈t,x∈es)->t.find? (pk (my ls) f pl p.nm)=t.find? (pk (my ls) o pl p.nm):=by
    intro t;induction t with
    | nil=>intro _;rfl
    | cons x t ih=>
     intro A;have : pk (my ls) f pl p.nm x=pk (my ls) o pl p.nm x:=by
      have m:=(F.sub x (A x (by simp))).1;have K:sm (λq=>f q*my ls q) x.2=sm (λq=>o q*my ls q) x.2:=qF λq j=>by rw[e q (m q j)]
      have C:(∀ q∈x.2,f q<=f p.nm)↔∀ q∈x.2,o q<=o p.nm:=by
       constructor
       .intro h q j;rw[<- e q (m q j), <- e _ l];show h q j
       .intro h q j;rw[e q (m q j),e _ l];show h q j
      unfold pk;rw[K,decide_eq_decide.mpr C]
     rw[fR,fR,this,ih λy G=>A y (by simp[G])]
   show J λ_ h=>h
  have B:a.sp=b.sp:=by
   rcases r.sp with⟨x1,x2⟩ | ⟨x1,e1,x2,x3⟩ <;> rcases s.sp with⟨y1,y2⟩ | ⟨y1,e2,y2,y3⟩
   .rw[x2,y2]
   .show absurd (d ▸ x1) y1
   .show absurd (d ▸ y1) x1
   .rw[E,y2]at x2;cases x2;rw[x3,y3]
  have nm:a.nm=b.nm:=r.nm.trans s.nm.symm;let(V,Y,X):=a;let(W,S,Q):=b;simp only at nm d B;rw[nm,d,B]
 .rw[eN ∅,eN ∅]
end
theorem Er:∀(fs:List (Int × Int))(k:Nat),(∀ a∈fs,1<=a.2/\Mth.Sz 12 a.2)->fs.length<=k->∃ D:Int,1<=D/\Mth.Sz (12*k+1) D/\∀ a∈fs,Dv D (vl a)
 | [],k,_,_=>⟨1,⋯,by unfold Mth.Sz;show Nat.one_lt_two_pow ∅,λa ha=>by cases ha⟩
 | a::fs,0,_,h=>by simp at h
 | a::fs,k+1,h,hl=>by
  let(D,h1,h2,h3):=Er fs k (λx hx=>h x (by simp[hx])) (by simpa using hl);let(a1,a2):=h a (by simp);show(D*a.2,nE h1 a1,?_,λx hx=>?_)
  .have:=h2.mul a2;rw[show 12*(k+1)+1=12*k+1+12 by ac_nf];show this
  .rcases eP.mp hx with e | hx
   .subst e;show Dv.over a1 ?_;have : vl x*(x.2:Rat)=(x.1:Rat):=by
     unfold vl;show fC (mj a1)
    rw[this];show Dv.int _
   .show(h3 x hx).more _
theorem vO(h:1<=a.2)(h0:0<=a.1):vl a<=(a.1:Rat):=by
 unfold vl;have p:(0:Rat)<(a.2:Rat):=by exact_mod_cast (show 0<a.2 by ac_nf)
 have e:(a.1:Rat)/(a.2:Rat)*(a.2:Rat)=(a.1:Rat):=fC (mj h);have q:(a.1:Rat)<=(a.1:Rat)*(a.2:Rat):=by
  have : a.1<=a.1*a.2:=by
   have:=Int.mul_le_mul_of_nonneg_left h h0;ac_nf
  exact_mod_cast this
 rw[<- scaled p,e];show q
theorem nS(h:1<=a.2):0<=vl a↔0<=a.1:=by
 unfold vl;have p:(0:Rat)<(a.2:Rat):=by exact_mod_cast (show 0<a.2 by ac_nf)
 have e:(a.1:Rat)/(a.2:Rat)*(a.2:Rat)=(a.1:Rat):=fC (mj h);rw[<- scaled p,e,Rat.zero_mul];exact_mod_cast Iff.rfl
theorem Fc:∀(ws:List (Str × Int))(w:Str->Rat),(∀ x∈ws,w x.1=(x.2:Rat))->(((ws.map (·.2)).sum:Int):Rat)=sm w (ws.map (·.1))
 | [],_,_=>rfl
 | x::ws,w,h=>by
  have ih:=Fc ws w λy hy=>h y (by simp[hy]);simp only[dw,List.sum_cons,sm,h x (by simp), <- ih];push_cast;rfl
section
variable{es:List (GD × List Str)}{lds:List iU}{ms:List (Str × (Int × Int))}{q0:Int}{pl:Str->Int × Int}{e:GD × List Str}
theorem vw.way{l:iU}(h:vw b ls pl e l):(∀ n∈e.2,n∈ls.map (·.nm))/\e.2.Nodup:=by
 show(λn a=>?_,h.pm.nodup_iff.mp h.nd);let(x,c,rfl):=di.mp (h.pm.mem_iff.mpr a);let(p,d,e,_):=h.wt x c;show di.mpr ⟨p,d,e⟩
theorem ER(hl:lds.length=es.length)(hls:∀(i:Nat) e l,es[i]?=some e->lds[i]?=some l->vw b ls pl e l):∀ e∈es,(∀ n∈e.2,n∈ls.map (·.nm))/\e.2.Nodup:=λe c=>by
 let(i,a):=dA c;have d:=(aU.mp a).1;show(hls i e _ a (aV ∅)).way
theorem LF(b1:1<=b)(sb:Mth.Sz 2000 b)(hc:rO ls es pl)(hr:∀ e∈es,0<=vl (roomF pl e.1))(hl:lds.length=es.length)(hls:∀(i:Nat) e l,es[i]?=some e->lds[i]?=some l->vw b ls pl e l)(hm:ms.length=ls.length)(hms:∀(i:Nat) p m,ls[i]?=some p->ms[i]?=some m->yk b p m):∃ q0,RC b q0 (ls.map (·.nm)) (my ls) (λn=>pq ls n*(b:Rat)) (rK b es pl) ms/\oN b (ls.map (·.nm)) (my ls) (λn=>pq ls n*(b:Rat)) (rK b es pl) [] lds:=by
 have L:=ER hl hls;have z:(0:Rat)<(b:Rat):=by exact_mod_cast (show 0<b by ac_nf)
 have Z:=mj b1;have H:∀ m∈ms, ∃ p∈ls,yk b p m:=λm s=>by
  let(i,O):=dA s;have Y:=(aU.mp O).1;show(ls[i]'∅,ij _,hms i _ m (aV ∅) O)
 obtain⟨B,U,V,G⟩:∃ B:Int,Mth.Sz 200 B/\0<=B/\∀ x,Mth.Sz 200 x->x<=B:=⟨2 ^ 200-1,by unfold Mth.Sz;decide,⋯,λx k=>by unfold Mth.Sz at k;ac_nf⟩;have A:∀ g∈rK b es pl, ∃ e∈es,g=⟨vl (roomF pl e.1)*(b:Rat),e.2⟩:=λg A=>by
  let(e,f,rfl):=di.mp A;show(e,f,rfl)
 have C:∀ p∈ls,1<=p.wt:=λp d=>(hc.pok p d).w;have v:∀ p∈ls,0<=vl p.mo:=λp d=>(nS (hc.pb p d).2.b1).mpr (hc.pok p d).m0;have M0:∀ p∈ls,0<=pq ls p.nm/\pq ls p.nm<=vl p.mo:=λp d=>by
  rw[uD hc.nd d];have M:=C p d;have N:(0:Rat)<(p.wt:Rat):=by exact_mod_cast (show 0<p.wt by ac_nf)
  have e:vl p.mo/(p.wt:Rat)*(p.wt:Rat)=vl p.mo:=fC (mj M);have J:=v p d;constructor
  .rw[<- scaled N,e,Rat.zero_mul];show J
  .rw[<- scaled N,e];have : (1:Rat)<=(p.wt:Rat):=by exact_mod_cast M
   have:=Rat.mul_le_mul_of_nonneg_left this J;rw[Rat.mul_one]at this;show this
 have top:∀ a:Int × Int,FB 200 12 a->0<=vl a->vl a<=(B:Rat):=λa E T=>by
  show er (vO E.b1 ((nS E.b1).mp T)) ?_;exact_mod_cast G _ E.s1
 have u:((B*b:Int):Rat)=(B:Rat)*(b:Rat):=by push_cast;rfl
 have K:RC b (B*b) (ls.map (·.nm)) (my ls) (λn=>pq ls n*(b:Rat)) (rK b es pl) ms:=by
  show(b1,?_,hc.nd,by rw[bc];show hc.l12,λn r=>?_,λm s=>?_,λg j=>?_,λn r=>?_,(U.mul sb))
  .show iS λi=>?_;rw[bg,bg];by_cases c:i<ls.length
   .rw[aV c,aV (by ac_nf:i<ms.length)];show congrArg some (hms i _ _ (aV c) (aV ∅)).nm
   .rw[eN ∅,eN ∅];rfl
  .let(p,d,rfl):=di.mp r;show(p.wt,uA hc.nd d,C p d,hc.wt p d)
  .let(p,d,h):=H m s;show(?_,h.fb,?_)
   .rw[h.vl,h.nm,uD hc.nd d];grind
   .rw[h.nm];show iu (M0 p d).1 (gz z)
  .let(e,f,rfl):=A g j;show((L e f).1,(L e f).2,iu (hr e f) (gz z),?_);rw[u];show fk (top _ (hc.rb e f) (hr e f)) (gz z)
  .let(p,d,rfl):=di.mp r;rw[u];show fk (er (M0 p d).2 (top _ (hc.pb p d).2 (v p d))) (gz z)
 show(_,K,⟨(0,1),?_⟩,⟨by unfold rK;rw[bc];show hl,λi g l o F=>?_⟩,?_,λx k=>by cases k)
 .rw[rB];show mU.start (λn r=>?_) (λg j=>(K.gw g j).2.2.1);let(p,d,rfl):=di.mp r;show iu (M0 p d).1 (gz z)
 .unfold rK at o;rw[bg]at o;let(e,f,rfl):=dM.mp o;have h:=hls i e l f F;have t:∀ x∈l.ws,my ls x.1=(x.2:Rat)/\1<=x.2:=λx k=>by
   let(p,d,R,S):=h.wt x k;rw[<- R, <- S];show(uA hc.nd d,C p d)
  have W:sm (used [] (my ls)) e.2=0:=uJ λq _=>by
   unfold used;rw[uM (by simp),Rat.zero_mul]
  show(h.pm,h.nd,t,?_,?_,h.fb.lo,?_,(λn _ I=>by cases I),λζ=>by let(n,_,I):=ζ;cases I)
  .rw[h.rest];show _=_-sm (used [] (my ls)) e.2;rw[W];grind
  .rw[h.load,Fc l.ws (my ls) λx k=>(t x k).1,xF h.pm];show qF λq _=>by unfold left;rw[if_neg (by simp)]
  .rw[h.last];show(fW 1,by unfold Mth.g;simp)
 .let(D,D1,Q,P):=Er (ls.map (·.mo)++es.map λe=>roomF pl e.1) 16 (λa y=>by
   rcases dk.mp y with y | y
   .let(p,d,rfl):=di.mp y;show((hc.pb p d).2.b1,(hc.pb p d).2.s2)
   .let(e,f,rfl):=di.mp y;show((hc.rb e f).b1,(hc.rb e f).s2)) (by rw[dR,bc,bc];show hc.l14)
  show(D,D1,Q.mono (by simp),λx k=>(by cases k),λg j=>?_,λn r=>?_)
  .let(e,f,rfl):=A g j;show Dv D (vl (roomF pl e.1)*(b:Rat)/(b:Rat));rw[show vl (roomF pl e.1)*(b:Rat)/(b:Rat)=vl (roomF pl e.1) by grind];show P _ (dk.mpr (.inr (di.mpr ⟨e,f,rfl⟩)))
  .let(p,d,rfl):=di.mp r;rw[uD hc.nd d,uA hc.nd d];have X:=mj (C p d);rw[show vl p.mo/(p.wt:Rat)*(b:Rat)/(b:Rat)*(p.wt:Rat)=vl p.mo by grind];show P _ (dk.mpr (.inl (di.mpr ⟨p,d,rfl⟩)))
end
theorem GF{γ:Type}{P : α->Bool}{R : β->Bool}{f : α->γ}{g : β->γ}:∀{as:List α}{bs:List β},as.length=bs.length->(∀(i:Nat) a b,as[i]?=some a->bs[i]?=some b->P a=R b/\f a=g b)->(as.find? P).map f=(bs.find? R).map g
 | [],[],_,_=>rfl
 | [],b::bs,h,_=>by simp at h
 | a::as,[],h,_=>by simp at h
 | a::as,b::bs,h,k=>by
  let(h1,h2):=k 0 a b rfl rfl;have ih:=GF (as:=as) (bs:=bs) (by simpa using h) λi x y hx hy=>k (i+1) x y (by simpa using hx) (by simpa using hy);rw[fR,fR,h1];cases R b with
  | true=>show congrArg some h2
  | false=>show ih
theorem A5{lv w:Str->Rat}{c:Rat}:∀(l:List Str),sm (λn=>lv n/c*w n) l=sm (λn=>lv n*w n) l/c
 | []=>by simp only[sm];grind
 | n::l=>by
  simp only[sm,A5 l];grind
section
variable{es:List (GD × List Str)}{lds:List iU}{ms:List (Str × (Int × Int))}{q0:Int}{pl:Str->Int × Int}
abbrev uv(b q0:Int)(ls:List PD)(es:List (GD × List Str))(pl:Str->Int × Int)(ms:List (Str × (Int × Int))):Prop:=RC b q0 (ls.map (·.nm)) (my ls) (λn=>pq ls n*(b:Rat)) (rK b es pl) ms
abbrev tS(b:Int)(ls:List PD)(es:List (GD × List Str))(pl:Str->Int × Int)(lvs:List (Str × (Int × Int)))(lds:List iU):Prop:=oN b (ls.map (·.nm)) (my ls) (λn=>pq ls n*(b:Rat)) (rK b es pl) lvs lds
def nO(b:Int)(lvs:List (Str × (Int × Int)))(n:Str):Rat:=mY lvs n/(b:Rat)
theorem Kh(rc:uv b q0 ls es pl ms)(rs:tS b ls es pl lvs lds)(hl:(ls.map (·.nm)).length<=lvs.length){n:Str}(hn:n∈ls.map (·.nm)):∃ x∈lvs,x.1=n/\mY lvs n=vl x.2:=by
 let(x,a,e):=di.mp (rs.all rc hl n hn);let(L,c):=rs.inv;have e:x.1=n:=e;show(x,a,e,e ▸ uE c.nd a)
theorem pV(rs:tS b ls es pl lvs lds){x:Str × (Int × Int)}(hx:x∈lvs):mY lvs x.1=vl x.2:=by
 let(L,a):=rs.inv;show uE a.nd hx
theorem wN(rc:uv b q0 ls es pl ms)(rs:tS b ls es pl lvs lds){x:Str × (Int × Int)}(hx:x∈lvs):FB 2800 600 x.2:=by
 let(L,d):=rs.inv;let(D,c):=rs.bt;have e:=d.a x hx;have g:=rc.mq x.1 (d.sub _ (di.mpr ⟨x,hx,rfl⟩));have f:=rs.lo x hx;have i:=rs.len rc;have h:=rc.l12;show((c.dl x hx).up rc.b1).fb (m:=2200) (n:=600) f.b1 f.g1 c.D1 (c.sD.mono ∅) e.1 (er e.2.2 g) rc.sQ
theorem Fg(hw:∀ e∈es,(∀ n∈e.2,n∈ls.map (·.nm))/\e.2.Nodup)(rc:uv b q0 ls es pl ms)(rs:tS b ls es pl lvs lds)(hl:(ls.map (·.nm)).length<=lvs.length):∃ D,Eh ls es pl (nO b lvs) D:=by
 let(L,s):=rs.inv;let(D,j):=rs.bt;have F:=s.fair rc.wpos (λg c=>(rc.gw g c).1) (rs.all rc hl);have f:(0:Rat)<(b:Rat):=by have:=rc.b1;exact_mod_cast (show 0<b by ac_nf)
 have m:=mj rc.b1;have e:∀ n,nO b lvs n*(b:Rat)=mY lvs n:=λn=>fC m;have t:=rs.len rc;have r:=rc.l12;have k:∀ l,sm (λn=>nO b lvs n*my ls n) l*(b:Rat)=sm (λn=>mY lvs n*my ls n) l:=λl=>by
  unfold nO;rw[A5,fC m]
 show(D,hw,⟨λn a=>?_,λn a=>?_,λg c=>?_,λn a=>?_⟩,j.D1,j.sD.mono ∅,λn a=>?_)
 .rw[<- scaled f,e,Rat.zero_mul];show F.lo n a
 .rw[<- scaled f,e];show F.hi n a
 .let(x,d,rfl):=yJ c;rw[<- scaled f,k];show F.fit ⟨vl (roomF pl x.1)*(b:Rat),x.2⟩ (di.mpr ⟨x,d,rfl⟩)
 .rcases F.stop n a with h | ⟨g,c,h1,i,h3⟩
  .left
   have:=e n;rw[h]at this;grind
  .right
   let(x,d,rfl):=di.mp c;show(⟨vl (roomF pl x.1),x.2⟩,di.mpr ⟨x,d,rfl⟩,h1,?_,λq o=>?_)
   .have i:sm (λn=>mY lvs n*my ls n) x.2=vl (roomF pl x.1)*(b:Rat):=i;rw[<- k]at i;show sm (λn=>nO b lvs n*my ls n) x.2=vl (roomF pl x.1);grind
   .rw[<- scaled f,e,e];show h3 q o
 .let(x,d,rfl,p):=Kh rc rs hl a;unfold nO;rw[p];show j.dl x d
theorem Kz(rc:uv b q0 ls es pl ms)(rs:tS b ls es pl lvs lds)(hl:(ls.map (·.nm)).length<=lvs.length){i:Nat}{e:GD × List Str}{l:iU}(he:es[i]?=some e)(hli:lds[i]?=some l){x:Str × (Int × Int)}(hx:x∈lvs):((lM l.ws x.1).isSome&&(decide (l.rest=(0,1))&&decide (l.last=x.2)))=pk (my ls) (nO b lvs) pl x.1 e:=by
 have a:=rs.ok.2 i ⟨vl (roomF pl e.1)*(b:Rat),e.2⟩ l (by unfold rK;rw[bg,he];rfl) hli;have r:(0:Rat)<(b:Rat):=by have:=rc.b1;exact_mod_cast (show 0<b by ac_nf)
 have s:=mj rc.b1;have d:∀ n,nO b lvs n*(b:Rat)=mY lvs n:=λn=>fC s;have t:∀ l,sm (λn=>nO b lvs n*my ls n) l*(b:Rat)=sm (λn=>mY lvs n*my ls n) l:=λl=>by
  unfold nO;rw[A5,fC s]
 have all:=rs.all rc hl;have gN:=(rc.gw ⟨vl (roomF pl e.1)*(b:Rat),e.2⟩ (by unfold rK;show di.mpr ⟨e,aY he,rfl⟩)).1;have o:=rs.lo x hx;have f:=pV rs hx;unfold pk;have A:(lM l.ws x.1).isSome=decide (x.1∈e.2):=by
  by_cases c:x.1∈e.2
  .rw[decide_eq_true c];cases h:lM l.ws x.1 with
   | none=>show absurd (a.pm.mem_iff.mpr c) (Bz.mp h)
   | some k=>rfl
  .rw[decide_eq_false c,Bz.mpr λz=>c (a.pm.mem_iff.mp z)];rfl
 have y:decide (l.rest=(0,1))=decide (sm (λq=>nO b lvs q*my ls q) e.2=vl (roomF pl e.1)):=by
  show decide_eq_decide.mpr ?_;have j:l.rest=(0,1)↔vl l.rest=0:=by
   rw[<- rB];show(λh=>by rw[h],λh=>a.low.inj ⟨fW 1,by unfold Mth.g;simp⟩ h)
  have m:vl l.rest=vl (roomF pl e.1)*(b:Rat)-sm (λn=>mY lvs n*my ls n) e.2:=a.rest;rw[j,m, <- t];constructor <;> intro h <;> grind
 rw[A,y];by_cases c:x.1∈e.2
 .have u:decide (l.last=x.2)=decide (∀ q∈e.2,nO b lvs q<=nO b lvs x.1):=by
   show decide_eq_decide.mpr ?_;have j:l.last=x.2↔vl l.last=mY lvs x.1:=by
    rw[f];show(λh=>by rw[h],λh=>a.llow.inj o h)
   rw[j];constructor
   .intro h q p;rw[<- scaled r,d,d, <- h];show a.l1 q p (all q (gN q p))
   .intro h;let(n,v,_,w):=a.l2 ⟨x.1,c,all _ (gN _ c)⟩;have m:=h n v;rw[<- scaled r,d,d,w]at m;have B:=a.l1 x.1 c (all _ (gN _ c));grind
  rw[u]
 .rw[decide_eq_false c];rfl
theorem K3(hw:∀ e∈es,(∀ n∈e.2,n∈ls.map (·.nm))/\e.2.Nodup)(rc:uv b q0 ls es pl ms)(rs:tS b ls es pl lvs lds)(hl:(ls.map (·.nm)).length<=lvs.length)(hn:lds.map (·.nm)=es.map (·.1.nm)){x:Str × (Int × Int)}(hx:x∈lvs)(hne:vl x.2≠pq ls x.1*(b:Rat)):∃ l e,lds.find? (λl=>(lM l.ws x.1).isSome&&(decide (l.rest=(0,1))&&decide (l.last=x.2)))=some l/\es.find? (pk (my ls) (nO b lvs) pl x.1)=some e/\l.nm=e.1.nm:=by
 have d:lds.length=es.length:=by simpa using congrArg List.length hn
 have m:=GF (P:=λl:iU=>(lM l.ws x.1).isSome&&(decide (l.rest=(0,1))&&decide (l.last=x.2))) (R:=pk (my ls) (nO b lvs) pl x.1) (f:=λl:iU=>l.nm) (g:=λe:GD × List Str=>e.1.nm) d λi l e a c=>⟨Kz rc rs hl c a hx,by
  have:=congrArg (·[i]?) hn;simp only[bg,a,c]at this;show eh this⟩
 let(D,F):=Fg hw rc rs hl;let(L,o):=rs.inv;have j:=o.sub _ (di.mpr ⟨x,hx,rfl⟩);have p:=mj rc.b1;have q:∃ e∈es,pk (my ls) (nO b lvs) pl x.1 e=true:=by
  rcases F.fair.stop x.1 j with h | ⟨g,hg,a,c,h3⟩
  .show absurd ?_ hne;rw[<- h, <- pV rs hx];show(fC p).symm
  .let(e,k,rfl):=yJ hg;show(e,k,?_);unfold pk;rw[decide_eq_true a,decide_eq_true c,decide_eq_true h3];rfl
 cases hf:es.find? (pk (my ls) (nO b lvs) pl x.1)with
 | none=>
  let(e,k,h):=q;have:=gF.mp hf e k;show absurd h this
 | some e=>
  rw[hf]at m;let(l,a,c):=dM.mp m;show(l,e,a,rfl,c)
theorem K1(hc:rO ls es pl)(rc:uv b q0 ls es pl ms)(rs:tS b ls es pl lvs lds){p:PD}(hp:p∈ls){x:Str × (Int × Int)}(hx:x∈lvs)(e1:x.1=p.nm)(he:vl x.2=pq ls x.1*(b:Rat)):qe ls es pl (nO b lvs) p ⟨p.nm,p.mo,none⟩:=by
 have c:=mj rc.b1;have a:=mj (hc.pok p hp).w;show(rfl,(hc.pb p hp).2.lo,?_, .inl ⟨rfl,rfl⟩);show vl p.mo=_;unfold nO;rw[<- e1,pV rs hx,he,e1,uD hc.nd hp];grind
theorem K2(hc:rO ls es pl)(rc:uv b q0 ls es pl ms)(rs:tS b ls es pl lvs lds){p:PD}(hp:p∈ls){x:Str × (Int × Int)}(hx:x∈lvs)(e1:x.1=p.nm)(hne:vl x.2≠pq ls x.1*(b:Rat)){t:Int × Int}(ht:mF (lE x.2 (p.wt,1)) b t){e:GD × List Str}(hf:es.find? (pk (my ls) (nO b lvs) pl x.1)=some e):qe ls es pl (nO b lvs) p ⟨p.nm,t,some e.1.nm⟩:=by
 have i:=mj rc.b1;have j:=mj (hc.pok p hp).w;have g:=rs.lo x hx;have h:=yF (a:=x.2) (c:=(p.wt,1)) g.b1 (fW 1);have d:=ht.vl h.b1 rc.b1;rw[A9 g.b1 (fW 1),xC]at d;have f:vl t=nO b lvs p.nm*(p.wt:Rat):=by
  unfold nO;rw[<- e1,pV rs hx,d];grind
 show(rfl,ht.lo,f, .inr ⟨λz=>hne ?_,e,by rw[<- e1];show hf,rfl⟩);have z:t=p.mo:=z;rw[z]at d;rw[e1,uD hc.nd hp,d];grind
end
def r0(rs:List nB)(n:Str):Rat:=((rs.find? λr=>decide (r.nm=n)).map λr=>vl r.sl).getD 0
theorem ET:∀{rs:List nB}{r:nB},(rs.map (·.nm)).Nodup->r∈rs->r0 rs r.nm=vl r.sl
 | [],_,_,h=>by cases h
 | a::rs,r,hn,h=>by
  rw[dw,gy]at hn;unfold r0;rw[fR];rcases eP.mp h with e | h
  .subst e;simp
  .have : a.nm≠r.nm:=λz=>hn.1 (z ▸ di.mpr ⟨r,h,rfl⟩);rw[decide_eq_false this];show ET hn.2 h
structure JB(ks:List PD)(es:List (GD × List Str))(pf:Str->Int × Int)(rs:List nB):Prop where
 nm:rs.map (·.nm)=ks.map (·.nm)
 fb:∀ r∈rs,FB 800 600 r.sl
 bd:∀(i:Nat) p r,ks[i]?=some p->rs[i]?=some r->0<=vl r.sl/\vl r.sl<=vl p.mo/\((∀ e∈es,p.nm∉e.2)->r.sl=p.mo)
 fit:∀ e∈es,sm (r0 rs) e.2<=vl (roomF pf e.1)
 par:∀ e∈es, ∀(j:Nat)(u:Int × Int),Lo u->vl u=sm (r0 rs) (e.2.take j)->FB 800 600 u
variable{es:List (GD × List Str)}{rs:List nB}
theorem sF.k{pf:Str->Int × Int}(hc:rO ks es pf)(hm:∀ p∈ks,FB 100 6 p.mo)(h:sF ks es pf rs):JB ks es pf rs:=by
 let(hl,f,D,F,R):=h;have X:rs.map (·.nm)=ks.map (·.nm):=by
  show iS λi=>?_;rw[bg,bg];by_cases c:i<ks.length
  .rw[aV c,aV (by ac_nf:i<rs.length)];show congrArg some (R i _ _ (aV c) (aV ∅)).nm
  .rw[eN ∅,eN ∅];rfl
 have M:(rs.map (·.nm)).Nodup:=X ▸ hc.nd;have s:∀(i:Nat) p r,ks[i]?=some p->rs[i]?=some r->0<=vl r.sl/\vl r.sl<=vl p.mo:=λi p r o q=>by
  have d:=R i p r o q;have a:=aY o;have y:p.nm∈ks.map (·.nm):=di.mpr ⟨p,a,rfl⟩;have W:=(hc.pok p a).w;have wp:(0:Rat)<(p.wt:Rat):=by exact_mod_cast (show 0<p.wt by ac_nf)
  have U:=F.fair.lo _ y;have L:=F.fair.hi _ y;rw[uD hc.nd a]at L;have e:vl p.mo/(p.wt:Rat)*(p.wt:Rat)=vl p.mo:=fC (mj W);rw[d.val];show(iu U (gz wp),by rw[<- e];show fk L (gz wp))
 have v:∀ n∈ks.map (·.nm), ∃(i:Nat)(p:PD)(r:nB),ks[i]?=some p/\rs[i]?=some r/\p.nm=n/\r0 rs n=vl r.sl/\r0 rs n=f n*my ks n:=λn b=>by
  let(p,o,rfl):=di.mp b;let(i,C):=dA o;have li:=(aU.mp C).1;have q:=aV (by ac_nf:i<rs.length);have d:=R i p _ C q;have e:=ET M (aY q);rw[d.nm]at e;show(i,p,_,C,q,rfl,e,by rw[e,d.val,uA hc.nd o])
 have N:∀ n∈ks.map (·.nm),Dv D (r0 rs n):=λn b=>by
  let(i,p,r,o,q,e,G,H):=v n b;have a:=aY o;rw[H, <- e,uA hc.nd a];show(F.dv _ (e ▸ b)).mul _
 have nn:∀ n∈ks.map (·.nm),0<=r0 rs n:=λn b=>by
  let(i,p,r,o,q,e,G,H):=v n b;rw[G];show(s i p r o q).1
 have V:∀ l:List Str,(∀ n∈l,n∈ks.map (·.nm))->sm (r0 rs) l=sm (λn=>f n*my ks n) l:=λl P=>qF λn b=>by
  let(i,p,r,o,q,e,G,H):=v n (P n b);show H
 show(X,λr q=>?_,λi p r o q=>⟨(s i p r o q).1,(s i p r o q).2,λI=>?_⟩,λe z=>?_,λe z j u Y K=>?_)
 .let(i,C):=dA q;have li:=(aU.mp C).1;have o:=aV (by ac_nf:i<ks.length);have d:=R i _ r o C;have a:=aY o;have Z:=s i _ r o C;generalize ks[i]=p at *;have E:=hm p a;have:=(F.dv p.nm (di.mpr ⟨p,a,rfl⟩)).mul p.wt;rw[<- d.val]at this;have t:=this.fb (m:=100) (n:=600) d.lo.b1 d.lo.g1 F.D1 F.sD Z.1 (er Z.2 (vO E.b1 (hc.pok p a).m0)) E.s1;show(t.s1.mono ⋯,t.s2,t.b1,t.g1)
 .have d:=R i p r o q;have a:=aY o;have y:p.nm∈ks.map (·.nm):=di.mpr ⟨p,a,rfl⟩;have W:=(hc.pok p a).w;rcases F.fair.stop _ y with h | ⟨g,hg,h,_⟩
  .show d.lo.inj (hm p a).lo ?_;rw[d.val,h,uD hc.nd a];show fC (mj W)
  .let(e,z,rfl):=yJ hg;show absurd h (I e z)
 .rw[V e.2 (F.sub e z).1];show F.fair.fit ⟨vl (roomF pf e.1),e.2⟩ (di.mpr ⟨e,z,rfl⟩)
 .have A:∀ n∈e.2.take j,n∈ks.map (·.nm):=λn b=>(F.sub e z).1 n (gU b);obtain⟨B,hB,Q,T⟩:∃ B:Int,Mth.Sz 100 B/\0<=B/\∀ x,Mth.Sz 100 x->x<=B:=⟨2 ^ 100-1,by unfold Mth.Sz;decide,⋯,λx hx=>by unfold Mth.Sz at hx;ac_nf⟩;have O:(e.2.take j).length<=12:=by
   have U:=sub_len _ _ (F.sub e z).2 (F.sub e z).1;rw[bc]at U;have L:=hc.l12;rw[eS];ac_nf
  have dv:Dv D (vl u):=by
   rw[K];show Dv.sm λn b=>N n (A n b)
  have up:vl u<=((B*(12:Nat):Int):Rat):=by
   rw[K];show A4 Q (λn b=>?_) O;let(i,p,r,o,q,e',G,H):=v n (A n b);have a:=aY o;have E:=hm p a;rw[G];show er (er (s i p r o q).2 (vO E.b1 (hc.pok p a).m0)) ?_;exact_mod_cast T _ E.s1
  have S:0<=vl u:=by
   rw[K];show sm_nn λn b=>nn n (A n b)
  have J:Mth.Sz 4 ((12:Nat):Int):=.lit ⋯ ⋯;have t:=dv.fb (m:=100+4) (n:=600) Y.b1 Y.g1 F.D1 F.sD S up (hB.mul J);show(t.s1.mono ⋯,t.s2,t.b1,t.g1)
section
variable{a b c d B:TS}{D:Ends}
end
structure ro(R:St->Hp->Prop)(b:TS)(D:Ends):Prop where
 go:∀{σ : St}{H:Hp},b D σ H->R σ H
theorem GT{a b:TS}{D:Ends}(h:∀ R,ro R b D->a { D with nx:=R } σ H):gP a b D σ H:=h _ ⟨λz=>z⟩
section
variable{st:Nat}{f : α->Str}{l:List α}
end
section
variable{a c:Addr}{K:aW}
end
section
variable{n:Nat}{E:Int}{x u:jC}{e:GD × List Str}{K:aW}{pl:Str->jC}{s:Str->jC}{i:Nat}
def pA(K:aW)(H:Hp)(n:Nat)(d:Addr)(ls:List PD)(s:Str->jC):Prop:=∃ kv,H d=some (.dK kv)/\kv.length<=n/\∀ p∈ls, ∃ v,gR kv (aZ p.nm)=some v/\fO K H v (s p.nm).1 (s p.nm).2
theorem pA.same(S:dC H H'):pA K H n d ls s->pA K H' n d ls s:=λ⟨b,e,f,g⟩=>⟨b,S _ _ e,f,λp h=>by
 let(v,a,c):=g p h;show(v,a,c.same S)⟩
structure vX(ls:List PD)(es:List (GD × List Str))(pl:Str->jC)(E:Int):Prop where
 E1:1<=E
 sE:Mth.Sz 800 E
 nd:(ls.map (·.nm)).Nodup
 l8:ls.length<=10
 l6:es.length<=6
 wt:∀ p∈ls,1<=p.wt/\Mth.Sz 21 p.wt
 mo:∀ p∈ls,FB 100 6 p.mo/\0<=vl p.mo/\Dv E (vl p.mo)
 rm:∀ e∈es,FB 101 3 (roomF pl e.1)/\Dv E (vl (roomF pl e.1))
 nm:∀ e∈es,(∀ n∈e.2,n∈ls.map (·.nm))/\e.2.Nodup
structure ve(ls:List PD)(es:List (GD × List Str))(pl:Str->jC)(E:Int)(s:Str->jC):Prop where
 lo:∀ p∈ls,Lo (s p.nm)
 dv:∀ p∈ls,Dv E (vl (s p.nm))
 nn:∀ p∈ls,0<=vl (s p.nm)
 mo:∀ p∈ls,vl (s p.nm)<=vl p.mo
 ft:∀ e∈es,sm (λn=>vl (s n)) e.2<=vl (roomF pl e.1)
theorem rj{a:jC}(h:FB A B a)(h0:0<=vl a)(hA:A<=101):vl a<=((2 ^ 101:Int):Rat):=by
 have z:=(nS h.b1).mp h0;show er (vO h.b1 z) ?_;have : a.1.natAbs<2 ^ 101:=dO h.s1 (Nat.pow_le_pow_right ⋯ hA);have : a.1<=2 ^ 101:=by ac_nf
 exact_mod_cast this
theorem vX.fb(c:vX ls es pl E)(hx:Lo x)(dv:Dv E (vl x))(h0:0<=vl x)(h1:vl x<=((2 ^ 101:Int):Rat)):FB 910 800 x :=
 (dv.fb (m:=102) hx.b1 hx.g1 c.E1 c.sE h0 h1 (by unfold Mth.Sz;decide)).mono ⋯ ⋯
theorem ve.fb(c:vX ls es pl E)(f:ve ls es pl E s)(hp:p∈ls):FB 910 800 (s p.nm) :=
 c.fb (f.lo p hp) (f.dv p hp) (f.nn p hp) (er (f.mo p hp) (rj (c.mo p hp).1 (c.mo p hp).2.1 ⋯))
theorem E3(h:z∈ls.map (·.nm)):∃ p∈ls,p.nm=z:=by simpa using h
theorem dH.of_ne(ho:∀ b u,b≠d->H b=some u->H' b=some u)(e:H d=some (.dK kv)):dH H H':=λb u t h=>ho b u (λz=>by rw[z,e]at h;cases h;cases t) h
structure rZ(E Qb:Int)(ts:List jC):Prop where
 E1:1<=E
 sE:Mth.Sz 800 E
 q0:0<=Qb
 sQ:Mth.Sz 2200 Qb
 t:∀ t∈ts,FB 3200 900 t/\Dv E (vl t)/\0<=vl t/\vl t<=(Qb:Rat)
variable{Qb:Int}
theorem EN:∀{ts:List jC},(∀ t∈ts,Dv E (vl t)/\0<=vl t/\vl t<=(Qb:Rat))->Dv E (smF ts)/\0<=smF ts/\smF ts<=((ts.length:Int):Rat)*(Qb:Rat)
 | [],_=>⟨Dv.int 0,hO,by simp[smF]⟩
 | a::ts,h=>by
  let(h1,h2,h3):=EN (ts:=ts) λt ht=>h t (dZ _ ht);let(a1,a2,a3):=h a (by simp);simp only[smF];show(a1.add h1,by grind,?_);have : (((a::ts).length:Int):Rat)=((ts.length:Int):Rat)+1:=by simp
  rw[this];grind
variable{ts:List jC}
theorem rZ.fb(h:rZ E Qb ts)(l8:ts.length<=10){i:Nat}(lu:Lo u)(hu:vl u=smF (ts.take i)):FB 3100 800 u:=by
 let(a,b,c):=EN (ts:=ts.take i) λt d=>(h.t t (gU d)).2;rw[<- hu]at a b c;have l:(ts.take i).length<=10:=by rw[eS];ac_nf
 have g:(0:Rat)<=(Qb:Rat):=by exact_mod_cast h.q0
 have f:vl u<=((10*Qb:Int):Rat):=by
  show er c ?_;have e:(((ts.take i).length:Int):Rat)<=10:=by exact_mod_cast (by ac_nf:((ts.take i).length:Int)<=10)
  have:=fk e g;push_cast;show this
 have j:Mth.Sz (4+2200) (10*Qb):=Mth.Sz.mul (by unfold Mth.Sz;decide) h.sQ;show(a.fb (m:=4+2200) lu.b1 lu.g1 h.E1 h.sE b f j).mono ⋯ ⋯
theorem rZ.nil(E1:1<=E)(sE:Mth.Sz 800 E)(b1:1<=b)(sb:Mth.Sz A b)(hA:A<=2000):rZ E (2 ^ 101*b) [] :=
 ⟨E1,sE,Int.mul_nonneg ⋯ ∅,(Mth.Sz.mul (m:=102) (i:=2 ^ 101) (by unfold Mth.Sz;decide) sb).mono ∅,λt a=>by cases a⟩
theorem rZ.snoc{t s:jC}(h:rZ E (2 ^ 101*b) ts)(ft:FB A B t)(e:vl t=vl s*(b:Rat))(d:Dv E (vl s))(b1:1<=b)(h0:0<=vl s)(h1:vl s<=((2 ^ 101:Int):Rat))(hA:A<=3200)(hB:B<=900):rZ E (2 ^ 101*b) (ts++[t]):=by
 have c:(0:Rat)<=(b:Rat):=by exact_mod_cast (by ac_nf:(0:Int)<=b)
 show(h.E1,h.sE,h.q0,h.sQ,λf a=>?_);rcases dk.mp a with a | a
 .show h.t f a
 .rw[bf.mp a];show(ft.mono hA hB,?_,?_,?_)
  .rw[e];show d.mul b
  .rw[e];show iu h0 c
  .rw[e];have:=fk h1 c;push_cast at this ⊢;show this
theorem Kt{ss:List jC}(h:∀(i:Nat) (p:PD) (s:jC),ls[i]?=some p->ss[i]?=some s->0<=vl s/\vl s<=vl p.mo){y:PD × jC}(hy:y∈ls.zip ss):0<=vl y.2/\vl y.2<=vl y.1.mo:=by
 let(i,a):=dA hy;have:=fN.mp a;show h i _ _ this.1 this.2
theorem yn{Q:V->Prop}(h:pA K H n d ls s)(hp:p∈ls)(k:∀ v,fO K H v (s p.nm).1 (s p.nm).2->Q v):∃ d' v,V.ref d=.ref d'/\gE H d' (.str p.nm) (some v)/\Q v:=by
 let(f,c,g,e):=h;let(v,a,b):=e p hp;show(d,v,rfl,by rw[<- a];show gE.k (k:=aZ p.nm) c,k v b)
theorem Ba{Q:Hp->Prop}(h:pA K H n d (ls.take i) s)(hp:ls[i]?=some p)(fv:fO K H v (s p.nm).1 (s p.nm).2)(hn:n<=900)(k:∀ H',(∀ b u,b≠d->H b=some u->H' b=some u)->pA K H' (n+1) d (ls.take (i+1)) s->Q H'):∃ d' H',V.ref d=.ref d'/\jY H d' (.str p.nm) v H'/\Q H':=by
 let(o,e,j,r):=h;have w:(1000:Nat)<=sizeLine:=by decide
 show(d,_,rfl,jY.k (k:=aZ p.nm) e ∅,?_);generalize f:upd H d _=l;have g:dH H l:=dH.put f e rfl;show k l (λb u m h=>by rw[<- f,fF m];show h) ⟨_,jg f,by have:=uT o (aZ p.nm) v;ac_nf,λq a=>?_⟩;rw[yL];by_cases c:q.nm=p.nm
 .show(v,by rw[if_pos (by rw[c])],?_);rw[c];show fO.sameT g fv
 .rw[dX,hp]at a;rcases dk.mp a with a | a
  .let(t,e,j):=r q a;show(t,by rw[if_neg (λz=>c (aZ.inj z))];show e,fO.sameT g j)
  .show absurd (by rw[show q=p by simpa using a]) c
end
section
variable{n:Nat}{s':Str->jC}{E E':Int}{x u:jC}{K:aW}{i:Nat}{pl:Str->jC}{s:Str->jC}{f:Str->Rat}
theorem GN{a b:Rat}(h:a=b):a<=b:=h ▸ hO
theorem Bt{m:Nat}:∀ xs:List jC,(∀ x∈xs,1<=x.2/\Mth.Sz m x.2)->∃ P:Int,1<=P/\Mth.Sz (1+m*xs.length) P/\∀ x∈xs,Dv P (vl x)
 | [],_=>⟨1,fW 1,Mth.Sz.mono (m:=1) (by unfold Mth.Sz;decide) ∅,λx hx=>by cases hx⟩
 | a::xs,h=>by
  let(P,h1,h2,h3):=Bt xs λx hx=>h x (dZ _ hx);let(a1,a2):=h a (by simp);show(P*a.2,nE h1 a1,(h2.mul a2).mono (by rw[dQ,Nat.mul_add];ac_nf),λx hx=>?_);rcases eP.mp hx with rfl | hx
  .have : Dv x.2 (vl x):=⟨x.1,by unfold vl;show fC (mj a1)⟩;have:=this.more P;rw[gL]at this;show this
  .show(h3 x hx).more _
def rH(rs:List nB)(n:Str):jC:=((rs.find? λr=>decide (r.nm=n)).map (·.sl)).getD (0,1)
theorem EO:∀{rs:List nB}{r:nB},(rs.map (·.nm)).Nodup->r∈rs->rH rs r.nm=r.sl:=λ{rs} {r} hn hr=>by
 unfold rH;cases e:rs.find? λy=>decide (y.nm=r.nm)with
 | none=>
  have:=gF.mp e r hr;simp at this
 | some y=>
  have f:=hU e;have c:=kS e;have c:y.nm=r.nm:=by simpa using c
  have : y=r:=by
   let(i,b):=dA f;let(j,a):=dA hr;have d:=(aU.mp b).1;have e:=(jy (l:=rs.map (·.nm)) (i:=i) (j:=j) (by rw[bc];show d) hn).mp (by rw[bg,bg,b,a];show congrArg some c);rw[<- e,b]at a;show eh a
  rw[this];rfl
structure A0(ls:List PD)(es:List (GD × List Str))(pl:Str->jC)(rs:List nB)(s:Str->jC)(f:Str->Rat)(E:Int):Prop where
 row:∀(i:Nat) p r,ls[i]?=some p->rs[i]?=some r->r.nm=p.nm/\r.sl=s p.nm
 ctx:vX ls es pl E
 sE:Mth.Sz 786 E
 fea:ve ls es pl E s
 fair:ph (ls.map (·.nm)) (my ls) (pq ls) (ye es pl) f
 val:∀ p∈ls,vl (s p.nm)=f p.nm*(p.wt:Rat)
theorem sF.told(hc:rO ls es pl)(h8:ls.length<=10)(h6:es.length<=6)(hm:∀ p∈ls,FB 100 6 p.mo)(hr:∀ e∈es,FB 101 3 (roomF pl e.1))(h:sF ls es pl rs):∃ f E,A0 ls es pl rs (rH rs) f E:=by
 have n:=h.k hc hm;let(I,f,D,F,R):=h;have l:(rs.map (·.nm)).Nodup:=n.nm ▸ hc.nd;let(P,u,s,C):=Bt (m:=3) (es.map λe=>roomF pl e.1) λx t=>by
  let(e,g,rfl):=di.mp t;show((hr e g).b1,(hr e g).s2)
 let(G,y,o,B):=Bt (m:=6) (ls.map (·.mo)) λx t=>by
  let(p,a,rfl):=di.mp t;show((hm p a).b1,(hm p a).s2)
 rw[bc]at s o;have d:∀ p∈ls, ∃(i:Nat)(r:nB),ls[i]?=some p/\rs[i]?=some r/\rH rs p.nm=r.sl:=λp a=>by
  let(i,b):=dA a;have H:=(aU.mp b).1;have hr:=aV (by ac_nf:i<rs.length);have c:=R i p _ b hr;show(i,_,b,hr,by rw[<- c.nm];show EO l (aY hr))
 have j:∀ p∈ls,vl (rH rs p.nm)=f p.nm*(p.wt:Rat):=λp a=>by
  let(i,r,b,hr,e):=d p a;rw[e];show(R i p r b hr).val
 have z:D*(P*G)=P*(D*G):=km ..;have A:D*(P*G)=G*(D*P):=by rw[km,gL D G,km,gL P D]
 show(f,D*(P*G),λi p r b hr=>?_,⟨nE F.D1 (nE u y),?_,hc.nd,h8,h6,λp a=>⟨(hc.pok p a).w,hc.wt p a⟩,λp a=>⟨hm p a,(nS (hm p a).b1).mpr (hc.pok p a).m0,?_⟩,λe g=>⟨hr e g,?_⟩,F.sub⟩,?_,⟨λp a=>?_,λp a=>?_,λp a=>?_,λp a=>?_,λe g=>?_⟩,F.fair,j)
 .have c:=R i p r b hr;show(c.nm,by rw[<- c.nm];show(EO l (aY hr)).symm)
 .show(F.sD.mul (s.mul o)).mono ∅
 .rw[A];show(B _ (di.mpr ⟨p,a,rfl⟩)).more _
 .rw[z];show(C _ (di.mpr ⟨e,g,rfl⟩)).more _
 .show(F.sD.mul (s.mul o)).mono ∅
 .let(i,r,b,hr,e):=d p a;rw[e];show(R i p r b hr).lo
 .rw[j p a];show((F.dv _ (di.mpr ⟨p,a,rfl⟩)).mul _).more _
 .let(i,r,b,hr,e):=d p a;rw[e];show(n.bd i p r b hr).1
 .let(i,r,b,hr,e):=d p a;rw[e];show(n.bd i p r b hr).2.1
 .have:=F.fair.fit ⟨vl (roomF pl e.1),e.2⟩ (di.mpr ⟨e,g,rfl⟩);show er (GN (qF λq v=>?_)) this;let(p,a,rfl):=E3 ((F.sub e g).1 q v);rw[j p a,uA hc.nd a]
theorem ve.shp(c:vX ls es pl E)(h:ve ls es pl E s):Eg ls es (ls.map λp=>s p.nm) pl:=by
 show(λi p z a b=>?_,λe f=>?_)
 .rw[bg,a]at b;have a:=aY a;rw[<- eh b];show(h.nn p a,h.mo p a)
 .show er (GN (qF λq g=>?_)) (h.ft e f);let(p,a,rfl):=E3 ((c.nm e f).1 q g);let(i,d):=dA a;show EJ (x:=(p,s p.nm)) c.nd (aY (i:=i) (fN.mpr ⟨d,by rw[bg,d];rfl⟩))
theorem ve.fbs(c:vX ls es pl E)(h:ve ls es pl E s):∀ z∈ls.map (λp=>s p.nm),FB 910 800 z/\Dv E (vl z):=λz b=>by
 let(p,a,rfl):=di.mp b;show(h.fb c a,h.dv p a)
end
structure jB where
 src:Str
 tgt:Str
 cost:Int × Int
 wh:Int
 nm:Str
 fw:Bool
abbrev oh:=List (Str × Int)
abbrev nD:=List (Str × jB)
def lk:List (Str × α)->Str->Option α
 | [],_=>none
 | p::r,f=>if p.1=f then some p.2 else lk r f
def pu(l:List (Str × α))(f:Str)(a : α):List (Str × α):=if(l.any λp=>decide (p.1=f))=true then l.map (λp=>if p.1=f then(p.1,a)else p)else l++[(f,a)]
theorem Bb{f g:Str}{a : α}(h:f≠g):∀ l:List (Str × α),lk (l.map λp=>if p.1=f then(p.1,a)else p) g=lk l g
 | []=>rfl
 | p::r=>by
  rw[dw];unfold lk;by_cases c:p.1=f
  .rw[if_pos c];have : ¬ p.1=g:=λe=>h (c.symm.trans e);rw[if_neg this,if_neg this];show Bb h r
  .rw[if_neg c];by_cases d:p.1=g
   .rw[if_pos d,if_pos d]
   .rw[if_neg d,if_neg d];show Bb h r
theorem FP{f:Str}{a : α}:∀ l:List (Str × α),(l.any λp=>decide (p.1=f))=true->lk (l.map λp=>if p.1=f then(p.1,a)else p) f=some a
 | [],h=>by simp at h
 | p::r,h=>by
  rw[dw];unfold lk;by_cases c:p.1=f
  .rw[if_pos c,if_pos c]
  .rw[if_neg c,if_neg c];show FP r (by simpa[c]using h)
theorem E5{g:Str}{a : α}{f:Str}:∀ l:List (Str × α),lk (l++[(f,a)]) g=match lk l g with | some b=>some b | none=>if f=g then some a else none
 | []=>rfl
 | p::r=>by
  rw[gO];unfold lk;by_cases c:p.1=g
  .rw[if_pos c,if_pos c]
  .rw[if_neg c,if_neg c];show E5 r
theorem FO{f:Str}:∀ l:List (Str × α), ¬(l.any λp=>decide (p.1=f))=true->lk l f=none
 | [],_=>rfl
 | p::r,h=>by
  unfold lk;by_cases c:p.1=f
  .show absurd (by simp[c]) h
  .rw[if_neg c];show FO r λz=>h (by rw[jK,z,Bool.or_true])
theorem lQ{l:List (Str × α)}{f g:Str}{a : α}:lk (pu l f a) g=if f=g then some a else lk l g:=by
 unfold pu;by_cases c:(l.any λp=>decide (p.1=f))=true
 .rw[if_pos c];by_cases d:f=g
  .subst d;rw[if_pos rfl];show FP l c
  .rw[if_neg d];show Bb d l
 .rw[if_neg c,E5];by_cases d:f=g
  .subst d;rw[FO l c,if_pos rfl]
  .rw[if_neg d];cases lk l g <;> simp[d]
theorem rR{l:List (Str × α)}{f:Str}{a : α}:lk (pu l f a) f=some a:=by rw[lQ,if_pos rfl]
theorem nH{l:List (Str × α)}{f g:Str}{a : α}(h:f≠g):lk (pu l f a) g=lk l g:=by rw[lQ,if_neg h]
structure BF where
 S:oh
 P:nD
 ch:Option Str
def jI(S:oh)(s:jB):Option Int :=
 match lk S s.src with
 | none=>none
 | some a=>match lk S s.tgt with
  | none=>some (a+s.wh)
  | some b=>if a+s.wh<b then some (a+s.wh)else none
def rlx(t:BF)(s:jB):BF :=
 match jI t.S s with
 | none=>t
 | some a=>⟨pu t.S s.tgt a,pu t.P s.tgt s,some s.tgt⟩
def wB(ss:List jB)(t:BF):BF:=ss.foldl rlx { t with ch:=none }
inductive Wk(ss:List jB)(f0:Str):List jB->Str->Prop
 | nil:Wk ss f0 [] f0
 | snoc {l:List jB} {s:jB}:Wk ss f0 l s.src->s∈ss->Wk ss f0 (l++[s]) s.tgt
def pj(l:List jB):Int:=(l.map (·.wh)).sum
variable{l:List jB}
theorem tZ{s:jB}:pj (l++[s])=pj l+s.wh:=by simp[pj]
section
variable{ss:List jB}{f0:Str}{π:Str->Int}{fs:List Str}{t:BF}{s:jB}
def qB(π : Str->Int)(ss:List jB):Prop:=∀ s∈ss,π s.tgt<=π s.src+s.wh
structure BI(ss:List jB)(fs:List Str)(π : Str->Int)(S:oh)(P:nD):Prop where
 z:∀ f∈fs, ∃ b,lk S f=some b/\b<=0
 p0:∀ v b,lk S v=some b->lk P v=none->v∈fs/\b=0
 st:∀ v s,lk P v=some s->s∈ss/\s.tgt=v/\∃ a b,lk S s.src=some a/\lk S v=some b/\a+s.wh<=b
 wk:∀ v b,lk S v=some b->∃ f∈fs, ∃ l,Wk ss f l v/\pj l=b
 rk:∃ r:Str->Nat, ∀ v s,lk P v=some s->r s.src<r v
inductive sY(P:nD)(v:Str):Str->Prop
 | refl:sY P v v
 | step {x:Str} {s:jB}:lk P x=some s->sY P v s.src->sY P v x
variable{S:oh}{P:nD}
theorem sY.mono(hp:qB π ss)(h:BI ss fs π S P){v x:Str}(d:sY P v x):∀ a b,lk S v=some a->lk S x=some b->a-π v<=b-π x:=by
 induction d with
 | refl=>intro a b g f;rw[g]at f;cases f;ac_nf
 | step g _ ih=>
  intro a b j i;let(m,e,c,d,f,k,l):=h.st _ _ g;rw[k]at i;cases i;have:=ih a c j f;have:=hp _ m;rw[e]at this;ac_nf
theorem yP{c:Int}(h:jI S s=some c):∃ a,lk S s.src=some a/\c=a+s.wh/\∀ b,lk S s.tgt=some b->c<b:=by
 unfold jI at h;cases e:lk S s.src with
 | none=>rw[e]at h;cases h
 | some a=>
  rw[e]at h;show(a,rfl,?_);cases e2:lk S s.tgt with
  | none=>rw[e2]at h;cases h;show(rfl,λb d=>by cases d)
  | some b=>
   rw[e2]at h;dsimp only at h;split at h
   .cases h;rename_i c;show(rfl,λf d=>by cases d;show c)
   .cases h
theorem B4(h:jI S s=none):∀ a,lk S s.src=some a->∃ b,lk S s.tgt=some b/\b<=a+s.wh:=by
 intro a d;unfold jI at h;rw[d]at h;cases e2:lk S s.tgt with
 | none=>rw[e2]at h;cases h
 | some b=>
  rw[e2]at h;dsimp only at h;split at h
  .cases h
  .rename_i c;show(b,rfl,∅)
theorem BI.put(hp:qB π ss)(h:BI ss fs π S P)(hs:s∈ss){c:Int}(hg:jI S s=some c):BI ss fs π (pu S s.tgt c) (pu P s.tgt s):=by
 let(a,o,G,n):=yP hg;have K:=hp s hs;have y:¬ sY P s.tgt s.src:=λd=>by
  cases e:lk S s.tgt with
  | none=>
   have : ∀ x,sY P s.tgt x->lk S x=none:=λx E=>by
    induction E with
    | refl=>show e
    | step k _ ih=>
     let(_,_,c,d,i,_):=h.st _ _ k;rw[ih]at i;cases i
   rw[this _ d]at o;cases o
  | some b=>
   have k:=d.mono hp h b a e o;have i:=n b e;ac_nf
 have I:s.src≠s.tgt:=λe=>y (by rw[e];show .refl);have p:∀ v b,lk S v=some b->∃ j,lk (pu S s.tgt c) v=some j/\j<=b:=λv b A=>by
  by_cases e:s.tgt=v
  .subst e;show(c,rR,Int.le_of_lt (n b A))
  .show(b,by rw[nH e];show A,fW _)
 show(λf u=>?_,λv b g q=>?_,λv t g=>?_,λv b g=>?_,?_)
 .let(b,k,i):=h.z f u;let(j,B,C):=p f b k;show(j,B,∅)
 .by_cases e:s.tgt=v
  .subst e;rw[rR]at q;cases q
  .rw[nH e]at g q;show h.p0 v b g q
 .by_cases e:s.tgt=v
  .subst e;rw[rR]at g;cases g;show(hs,rfl,a,c,by rw[nH (gk I)];show o,rR,∅)
  .rw[nH e]at g;let(m,D,L,j,k,i,B):=h.st v t g;let(w,C,M):=p _ _ k;show(m,D,w,j,C,by rw[nH e];show i,∅)
 .by_cases e:s.tgt=v
  .subst e;rw[rR]at g;cases g;let(f,u,l,J,H):=h.wk _ _ o;show(f,u,l++[s], .snoc J hs,by rw[tZ,H,G])
  .rw[nH e]at g;show h.wk v b g
 .let(r,F):=h.rk;show(λx=>open Classical in if sY P s.tgt x then r x+r s.src+1 else r x,λv t g=>?_);dsimp only;by_cases e:s.tgt=v
  .subst e;rw[rR]at g;cases g;rw[if_neg y,if_pos .refl];ac_nf
  .rw[nH e]at g;have:=F v t g;by_cases d:sY P s.tgt t.src
   .rw[if_pos d,if_pos (.step g d)];ac_nf
   .rw[if_neg d];split
    .ac_nf
    .show this
end
section
variable{ss:List jB}{f0:Str}{π:Str->Int}{fs:List Str}{t:BF}{s:jB}
theorem BI.rlx(hp:qB π ss)(h:BI ss fs π t.S t.P)(hs:s∈ss):BI ss fs π (L2.rlx t s).S (L2.rlx t s).P:=by
 unfold L2.rlx;cases e:jI t.S s with
 | none=>show h
 | some c=>show h.put hp hs e
theorem BI.fold(hp:qB π ss):∀(l:List jB)(t:BF),BI ss fs π t.S t.P->(∀ s∈l,s∈ss)->BI ss fs π (l.foldl L2.rlx t).S (l.foldl L2.rlx t).P
 | [],_,h,_=>h
 | s::l,t,h,hs=>by
  rw[iB];show BI.fold hp l _ (h.rlx hp (hs s (by simp))) λx hx=>hs x (by simp[hx])
def oZ(S S':oh):Prop:=∀ v b,lk S v=some b->∃ b',lk S' v=some b'/\b'<=b
variable{S:oh}
theorem oZ.refl:oZ S S:=λv b h=>⟨b,h,fW _⟩
theorem oZ.trans{S' S'':oh}(h:oZ S S')(k:oZ S' S''):oZ S S'':=λv b a=>by
 let(c,e,g):=h v b a;let(d,f,i):=k v c e;show(d,f,∅)
theorem oZ.rlx:oZ t.S (L2.rlx t s).S:=by
 unfold L2.rlx;cases e:jI t.S s with
 | none=>show oZ.refl
 | some c=>
  let(a,_,_,d):=yP e;intro v b f;by_cases q:s.tgt=v
  .subst q;show(c,rR,Int.le_of_lt (d b f))
  .show(b,by show lk (pu t.S s.tgt c) v=_;rw[nH q];show f,fW _)
theorem oZ.fold:∀(l:List jB)(t:BF),oZ t.S (l.foldl L2.rlx t).S
 | [],_=>oZ.refl
 | s::l,t=>by
  rw[iB];show oZ.rlx.trans (oZ.fold l _)
theorem K6{a:Int}(h:lk t.S s.src=some a):∃ b,lk (rlx t s).S s.tgt=some b/\b<=a+s.wh:=by
 unfold rlx;cases e:jI t.S s with
 | none=>show B4 e a h
 | some c=>
  let(f,d,g,_):=yP e;rw[h]at d;cases d;show(c,rR,∅)
theorem Ga:∀(l:List jB)(t:BF)(s:jB)(a:Int),s∈l->lk t.S s.src=some a->∃ b,lk (l.foldl rlx t).S s.tgt=some b/\b<=a+s.wh
 | [],_,_,_,h,_=>by cases h
 | x::l,t,s,a,h,ha=>by
  rw[iB];rcases eP.mp h with e | h
  .subst e;let(b,h1,h2):=K6 ha;let(c,h3,h4):=oZ.fold l _ _ _ h1;show(c,h3,∅)
  .let(a',h1,h2):=oZ.rlx (s:=x) _ _ ha;let(b,h3,h4):=Ga l _ s a' h h1;show(b,h3,∅)
def itr(ss:List jB):Nat->BF->BF
 | 0,t=>t
 | n+1,t=>wB ss (itr ss n t)
def nk(fs:List Str):BF:=⟨fs.foldl (λS f=>pu S f 0) [],[],none⟩
theorem EA:∀(fs:List Str)(S:oh)(v:Str)(b:Int),lk (fs.foldl (λS f=>pu S f 0) S) v=some b↔(v∈fs/\b=0)\/(v∉fs/\lk S v=some b)
 | [],S,v,b=>by simp
 | f::fs,S,v,b=>by
  rw[iB,EA fs (pu S f 0) v b,lQ];by_cases c:v∈fs
  .simp[c]
  .by_cases d:f=v
   .subst d;simp[c];show eq_comm
   .have d':v≠f:=λe=>d e.symm;simp[c,d,d']
variable{v:Str}
theorem yq{fs:List Str}:lk (nk fs).S v=some b↔v∈fs/\b=0:=by
 unfold nk;rw[EA fs [] v b];simp[lk]
theorem BI.start:BI ss fs π (nk fs).S (nk fs).P where
 z:=λf a=>⟨0,yq.mpr ⟨a,rfl⟩,fW _⟩
 p0:=λv b h _=>yq.mp h
 st:=λv s h=>by cases h
 wk:=λv b h=>by
  let(c,d):=yq.mp h;show(v,c,[], .nil,d.symm)
 rk:=⟨λ_=>0,λv s h=>by cases h⟩
theorem BI.itr(hp:qB π ss):∀ n,BI ss fs π (L2.itr ss n (nk fs)).S (L2.itr ss n (nk fs)).P
 | 0=>BI.start
 | n+1=>BI.fold hp ss _ (BI.itr hp n) λ_ h=>h
theorem JW(hf:f0∈fs):∀(i:Nat)(l:List jB)(v:Str),Wk ss f0 l v->l.length<=i->∃ b,lk (itr ss i (nk fs)).S v=some b/\b<=pj l:=by
 intro i;induction i with
 | zero=>
  intro l v h a;cases h with
  | nil=>show(0,yq.mpr ⟨hf,rfl⟩,fW _)
  | snoc _ _=>simp at a
 | succ i ih=>
  intro l v h a;cases h with
  | nil=>
   let(b,d,f):=ih [] f0 .nil (by simp);let(c,e,g):=oZ.fold ss { itr ss i (nk fs)with ch:=none } _ _ d;show(c,e,∅)
  | @snoc l s h hs=>
   let(b,d,f):=ih l _ h (by simpa using a);let(c,e,g):=Ga ss { itr ss i (nk fs)with ch:=none } s b hs d;show(c,e,by rw[tZ];ac_nf)
theorem Wk.cut(hp:qB π ss){l:List jB}{u:Str}(h:Wk ss f0 l u):∀ x,x∈f0::l.map (·.tgt)->(f0::l.map (·.tgt)).Nodup->∃ p,Wk ss f0 p x/\pj p+(π u-π x)<=pj l/\(f0::p.map (·.tgt)).Nodup:=by
 induction h with
 | nil=>
  intro x a b;have : x=f0:=by simpa using a
  subst this;show([], .nil,∅,b)
 | @snoc l s h hs ih=>
  intro x a b;by_cases e:x=s.tgt
  .subst e;show(l++[s], .snoc h hs,∅,b)
  .have c:x∈f0::l.map (·.tgt):=by
    rw[dy, <- gO]at a;rcases dk.mp a with a | a
    .show a
    .show absurd (by simpa using a) e
   have d:(f0::l.map (·.tgt)).Nodup:=by
    rw[dy, <- gO]at b;show(fD.mp b).1
   let(p,f,i,g):=ih x c d;have:=hp s hs;show(p,f,by rw[tZ];ac_nf,g)
theorem Wk.simple(hp:qB π ss){l:List jB}{v:Str}(h:Wk ss f0 l v):∃ p,Wk ss f0 p v/\pj p<=pj l/\(f0::p.map (·.tgt)).Nodup:=by
 induction h with
 | nil=>show([], .nil,fW _,by simp)
 | @snoc l s h hs ih=>
  let(p,d,m,f):=ih;have:=hp s hs;by_cases c:s.tgt∈f0::p.map (·.tgt)
  .let(q,g,n,j):=d.cut hp _ c f;show(q,g,by rw[tZ];ac_nf,j)
  .show(p++[s], .snoc d hs,by rw[tZ,tZ];ac_nf,?_);rw[dy, <- gO];show fD.mpr ⟨f,by simp,λa k b i e=>c (by
    have q:b=s.tgt:=by simpa using i
    rw[<- q, <- e];show k)⟩
theorem Wk.mem(h:Wk ss f0 l v):∀ s∈l,s∈ss:=by
 induction h with
 | nil=>intro s h;cases h
 | snoc _ hs ih=>
  intro x a;rcases dk.mp a with a | a
  .show ih x a
  .rw[bf.mp a];show hs
theorem Wk.len(h:Wk ss f0 l v)(hn:(f0::l.map (·.tgt)).Nodup):l.length<=ss.length:=by
 have:=sub_len (l.map (·.tgt)) (ss.map (·.tgt)) (gy.mp hn).2 λx a=>by
  let(s,b,rfl):=di.mp a;show di.mpr ⟨s,h.mem s b,rfl⟩
 simpa using this
theorem L7(hp:qB π ss):∀ s∈ss,jI (itr ss ss.length (nk fs)).S s=none:=λs m=>by
 cases e:jI (itr ss ss.length (nk fs)).S s with
 | none=>rfl
 | some c=>
  let(a,k,q,d):=yP e;let(f,h,l,j,r):=(BI.itr hp ss.length (fs:=fs)).wk _ _ k;let(p,g,i,o):=(Wk.snoc j m).simple hp;let(b,n,t):=JW h _ p _ g (g.len o);have:=d b n;rw[tZ]at i;ac_nf
theorem Fv:∀(l:List jB)(t:BF),(l.foldl rlx t).ch=none->l.foldl rlx t=t/\∀ s∈l,jI t.S s=none
 | [],t,_=>⟨rfl,λs h=>by cases h⟩
 | x::l,t,h=>by
  rw[iB]at h ⊢;let(h1,h2):=Fv l _ h;rw[h1]at h;cases e:jI t.S x with
  | none=>
   have ex:rlx t x=t:=by unfold rlx;rw[e]
   rw[ex]at h1 h2 ⊢;show(h1,λs hs=>?_);rcases eP.mp hs with q | hs
   .subst q;show e
   .show h2 s hs
  | some c=>
   unfold rlx at h;rw[e]at h;cases h
theorem Fu:∀(l:List jB)(t:BF),(∀ s∈l,jI t.S s=none)->l.foldl rlx t=t
 | [],_,_=>rfl
 | x::l,t,h=>by
  have ex:rlx t x=t:=by unfold rlx;rw[h x (by simp)]
  rw[iB,ex];show Fu l t λs hs=>h s (by simp[hs])
def sr(ss:List jB):Nat->BF->BF
 | 0,t=>t
 | n+1,t=>if(wB ss t).ch=none then wB ss t else sr ss n (wB ss t)
structure BE(ss:List jB)(fs:List Str)(P:nD):Prop where
 ex:∃ S:oh, ∃ r:Str->Nat,(∀ f∈fs, ∃ b,lk S f=some b)/\(∀ v b,lk S v=some b->lk P v=none->v∈fs/\b=0)/\(∀ v s,lk P v=some s->s∈ss/\s.tgt=v/\r s.src<r v/\∃ a,lk S s.src=some a/\lk S v=some (a+s.wh))/\∀ s∈ss, ∀ a,lk S s.src=some a->∃ b,lk S s.tgt=some b/\b<=a+s.wh
theorem BE.of{n:Nat}(hp:qB π ss)(h:(itr ss (n+1) (nk fs)).ch=none):BE ss fs (itr ss (n+1) (nk fs)).P:=by
 have b:=BI.itr hp n (fs:=fs);let(u,i):=Fv ss { itr ss n (nk fs)with ch:=none } h;have e:itr ss (n+1) (nk fs)={ itr ss n (nk fs)with ch:=none }:=u;rw[e];generalize itr ss n (nk fs)=t at *;let(r,p):=b.rk;show(t.S,r,λf o=>⟨_,(b.z f o).choose_spec.1⟩,b.p0,λv s l=>?_,λs x a w=>B4 (i s x) a w);let(m,q,a,c,g,j,A):=b.st v s l;let(d,k,y):=B4 (i s m) a g;rw[q,j]at k;cases k;show(m,q,p v s l,a,g,by rw[j];congr 1;ac_nf)
end
theorem KN{n:Int}(h:1<=n):n∣b*n.fdiv (Mth.g b n):=by
 have i:=Mth.g_pos (a:=b) (b:=n) ∅;let(c,d):=Mth.uN b n;have e:=Mth.pR (Mth.uS b n) (by ac_nf:Mth.g b n≠0);show(c,?_);generalize hg:Mth.g b n=g at *;generalize n.fdiv g=f at *;rw[d, <- e];rw[Int.mul_right_comm,gL g f]
variable{ts:List TD}
theorem FH:∀ i,(Ch.all (ts.take i)).length<=2*i:=λi=>by
 induction i with
 | zero=>simp[Ch.all]
 | succ i ih=>
  rw[dX];cases ts[i]? with
  | none=>simp;ac_nf
  | some t=>
   have : (Ch.steps t).length<=2:=by unfold Ch.steps fwd bwd;cases t.hi <;> cases t.lo <;> simp
   simp only[Ch.all,List.flatMap_append,Option.toList_some,List.flatMap_cons,List.flatMap_nil,iM,dR]at ih ⊢;ac_nf
section
variable{R R' : α->V->Prop}
def DV(R : α->V->Prop):List (Str × α)->List (gD × V)->Prop
 | [],kv=>kv=[]
 | p::P,kv=>∃ v r,kv=(aZ p.1,v)::r/\R p.2 v/\DV R P r
theorem DV.len:∀{P:List (Str × α)}{kv:List (gD × V)},DV R P kv->kv.length=P.length
 | [],_,h=>by rw[h];rfl
 | p::P,_,⟨v,r,e,_,h⟩=>by rw[e,dQ,dQ,h.len]
theorem DV.keys:∀{P:List (Str × α)}{kv:List (gD × V)},DV R P kv->kv.map (·.1)=(P.map (·.1)).map aZ
 | [],_,h=>by rw[h];rfl
 | p::P,_,⟨v,r,e,_,h⟩=>by rw[e,dw,dw,dw,h.keys]
theorem DV.mono(m:∀ a v,R a v->R' a v):∀{P:List (Str × α)}{kv:List (gD × V)},DV R P kv->DV R' P kv
 | [],_,h=>h
 | p::P,_,⟨v,r,e,h1,h⟩=>⟨v,r,e,m _ _ h1,h.mono m⟩
theorem DV.no:∀{P:List (Str × α)}{kv:List (gD × V)},DV R P kv->lk P z=none->gR kv (aZ z)=none
 | [],_,h,_=>by rw[h];rfl
 | p::P,_,⟨v,r,e,_,h⟩,n=>by
  unfold lk at n;by_cases c:p.1=z
  .rw[if_pos c]at n;cases n
  .rw[if_neg c]at n;rw[e,qi (by simpa using c)];show h.no n
theorem DV.at{a : α}:∀{P:List (Str × α)}{kv:List (gD × V)},DV R P kv->lk P z=some a->∃ v,gR kv (aZ z)=some v/\R a v
 | [],_,_,n=>by cases n
 | p::P,_,⟨v,r,e,h1,h⟩,n=>by
  unfold lk at n;by_cases c:p.1=z
  .rw[if_pos c]at n;cases n;show(v,by rw[e];show pO (by simpa using c),h1)
  .rw[if_neg c]at n;rw[e,qi (by simpa using c)];show h.at n
theorem DV.any{f:Str}:∀{P:List (Str × α)}{kv:List (gD × V)},DV R P kv->(kv.any λq=>decide (q.1=aZ f))=(P.any λp=>decide (p.1=f))
 | [],_,h=>by rw[h];rfl
 | p::P,_,⟨v,r,e,_,h⟩=>by
  rw[e,jK,jK,h.any]
  congr 1
  simp
theorem DV.map{f:Str}{a : α}(ra:R a v):∀{P:List (Str × α)}{kv:List (gD × V)},DV R P kv->DV R (P.map λp=>if p.1=f then(p.1,a)else p) (kv.map λq=>if q.1=aZ f then(q.1,v)else q)
 | [],_,h=>by rw[h];show rfl
 | p::P,_,⟨w,r,e,h1,h⟩=>by
  rw[e,dw,dw];by_cases c:p.1=f
  .rw[if_pos c,if_pos (by simpa using c)];show(v,_,rfl,ra,h.map ra)
  .rw[if_neg c,if_neg (by simpa using c)];show(w,_,rfl,h1,h.map ra)
theorem DV.app{f:Str}{a : α}(ra:R a v):∀{P:List (Str × α)}{kv:List (gD × V)},DV R P kv->DV R (P++[(f,a)]) (kv++[(aZ f,v)])
 | [],_,h=>by rw[h];show(v,[],rfl,ra,rfl)
 | p::P,_,⟨w,r,e,h1,h⟩=>by
  rw[e];show(w,_,rfl,h1,h.app ra)
theorem DV.put{f:Str}{a : α}{P:List (Str × α)}(h:DV R P kv)(ra:R a v):DV R (pu P f a) (putK kv (aZ f) v):=by
 unfold pu putK;rw[h.any];split
 .show h.map ra
 .show h.app ra
end
theorem ym:∀{P:List (Str × α)},z∈P.map (·.1)->∃ a,lk P z=some a
 | [],h=>by cases h
 | p::P,h=>by
  unfold lk;by_cases c:p.1=z
  .show(_,if_pos c)
  .rw[if_neg c];show ym ?_;rcases eP.mp h with e | h
   .show absurd e.symm c
   .show h
theorem sN{l:List (Str × α)}{f:Str}{a : α}:(pu l f a).length<=l.length+1:=by
 unfold pu;split <;> simp
inductive rF(P:nD):Str->List jB->Prop
 | nil {v:Str}:lk P v=none->rF P v []
 | snoc {v:Str} {s:jB} {l:List jB}:lk P v=some s->rF P s.src l->rF P v (l++[s])
section
variable{ss:List jB}{P:nD}{fs:List Str}{v:Str}
theorem rF.uniq(h:rF P v l):∀{k:List jB},rF P v k->l=k:=by
 induction h with
 | nil h0=>
  intro k a;cases a with
  | nil _=>rfl
  | snoc h _=>rw[h0]at h;cases h
 | snoc h _ ih=>
  intro k a;cases a with
  | nil h0=>rw[h]at h0;cases h0
  | snoc h' hk'=>
   rw[h]at h';cases h';rw[ih hk']
theorem BE.chain(h:BE ss fs P):∃ S:oh,(∀ v,(∃ b,lk S v=some b)↔(v∈fs\/∃ s,lk P v=some s))/\(∀ v b,lk S v=some b->∃ l,rF P v l/\pj l=b/\∃ f∈fs,lk P f=none/\Wk ss f l v/\(f::l.map (·.tgt)).Nodup)/\∀ s∈ss, ∀ a,lk S s.src=some a->∃ b,lk S s.tgt=some b/\b<=a+s.wh:=by
 let(S,r,G,j,p,H):=h.ex;have key:∀ n v b,r v<=n->lk S v=some b->∃ l,rF P v l/\pj l=b/\∃ f∈fs,lk P f=none/\Wk ss f l v/\(f::l.map (·.tgt)).Nodup/\∀ x∈f::l.map (·.tgt),x=v\/r x<r v:=by
  intro n;induction n with
  | zero=>
   intro v b E g;cases e:lk P v with
   | none=>
    let(i,d):=j v b g e;show([], .nil e,d.symm,v,i,e, .nil,by simp,λx c=>.inl (by simpa using c))
   | some s=>
    have:=(p v s e).2.2.1;ac_nf
  | succ n ih=>
   intro v b E g;cases e:lk P v with
   | none=>
    let(i,d):=j v b g e;show([], .nil e,d.symm,v,i,e, .nil,by simp,λx c=>.inl (by simpa using c))
   | some s=>
    let(m,q,F,a,i,d):=p v s e;rw[g]at d;cases d;let(l,o,t,f,A,u,k,w,C):=ih s.src a ∅ i;subst q;have B:∀ x∈f::l.map (·.tgt),r x<r s.tgt:=λx c=>by
     rcases C x c with z | z
     .rw[z];show F
     .ac_nf
    show(l++[s], .snoc e o,by rw[tZ,t],f,A,u, .snoc k m,?_,λx c=>?_)
    .rw[dy, <- gO];show fD.mpr ⟨w,by simp,λx c y D z=>?_⟩;have q:y=s.tgt:=by simpa using D
     have:=B x c;rw[z,q]at this;ac_nf
    .rw[dy, <- gO]at c;rcases dk.mp c with c | c
     .show .inr (B x c)
     .show .inl (by simpa using c)
 show(S,λv=>⟨λ⟨b,g⟩=>?_,λI=>?_⟩,λv b g=>?_,H)
 .cases e:lk P v with
  | none=>show .inl (j v b g e).1
  | some s=>show .inr ⟨s,rfl⟩
 .rcases I with e | ⟨s,e⟩
  .show G v e
  .let(_,_,_,a,_,d):=p v s e;show(_,d)
 .let(l,o,t,f,A,u,k,w,_):=key (r v) v b (dh _) g;show(l,o,t,f,A,u,k,w)
end
variable{x:Str->Rat}
theorem MR{ss:List jB}(h:∀ s∈ss,x s.tgt<=x s.src+(s.wh:Rat)):qB (λf=>(x f).floor) ss:=λs b=>by
 have a:=Rat.floor_monotone (h s b);rw[Rat.floor_add_intCast]at a;show a
def vv(P:nD):Str->List jB->Prop
 | _,[]=>True
 | z,s::r=>s.src=z/\lk P s.tgt=some s/\vv P s.tgt r
def lnkE:Str->List jB->Str
 | z,[]=>z
 | _,s::r=>lnkE s.tgt r
theorem vv.add{P:nD}{s:jB}(h:vv P z l)(hs:lk P z=some s)(ht:s.tgt=z):vv P s.src (s::l):=⟨rfl,by rw[ht];show hs,by rw[ht];show h⟩
theorem L4{s:jB}(ht:s.tgt=z):lnkE s.src (s::l)=lnkE z l:=by
 show lnkE s.tgt l=_;rw[ht]
def zh(K:aW)(a:Addr)(n:Nat):It :=
 ⟨λi H=>i<n/\∃ xs x,fI K H a xs/\xs[n-1-i]?=some x,λi H x H'=>H'=H/\∀ xs,fI K H a xs->xs[n-1-i]?=some x,λi _=>i=n⟩
theorem LB{w:fA}{K:aW}(a it:Addr)(n:Nat):Turn P w K tg (zh K a n) [it] it (λi h=>h.IsRevIter it a ((n:Int)-1-(i:Int))) where
 mem:=by simp
 obj:=λi h f b j=>by
  have e:b=it:=by simpa using j
  subst e;let(o,e,c,d):=f;show(o,e,λv z=>by rw[d]at z;cases z)
 keep:=λi h r f k=>f.at λo e=>k it (by simp) o e
 item:=by
  intro X t C A L i g s σ H E I q f m;subst t C A;let(li,xs,x,J,M):=m;let(T,Z,p,hz):=I.list J;let(u,S,U):=Z.get M;let(y,G,Y,F,D,B):=q it (by simp);have V:(n:Int)-1-(i:Int)=((n-1-i:Nat):Int):=by ac_nf
  rw[V]at f;show wpAny_pyNext_rev_item f p.isList (x:=u) (by simpa using S) λr l N=>?_;have I1:Inv X g σ H { s with heap:=r }:=I.turned (t':=s.toks) (λb o j e=>(N.2 b j).trans e) y G F D B;have R:((n-1-i:Nat):Int)-1=(n:Int)-1-((i+1:Nat):Int):=by ac_nf
  rw[R]at l;let(o,e,c,d):=id l;show(u,rfl,nI (s:={ s with heap:=r }) e c d ⋯ ⟨x,H,I1,U,⟨rfl,λys Q=>by rw[I.list_inj Q J];show M⟩,l,λb j=>(q b j).1⟩)
 done:=by
  intro X t C A L i g s σ H E I q f m;subst t C A;have m:i=n:=m;subst m;let(y,G,Y,F,D,B):=q it (by simp);have e:(i:Int)-1-(i:Int) = -1:=by ac_nf
  rw[e]at f;show wpAny_pyNext_rev_end (I.ok.hd L) f λr O=>⟨rfl,I.turned (t':=s.toks) (λb o j e=>O b o j e) y G F D B⟩
 self:=λ_ _ _ _ _ f h=>wpAny_pyIter_revIter f h
def ri(K:aW)(tl:TE):TI:=λσ H R=>tl σ H λx H1=>∃ a xs,x=.ref a/\fI K H1 a xs/\R (zh K a xs.length) H1
theorem La{t:TE}{p2 pos2:Pos}{y:Str}(hy:y="reversed")(hg2:Gl X y)(hm2:X.mg y=none)(hv2:fo y=some (.type "reversed"))(ha:PE X e t)(he:autoParam (eQ [e] X.env=(false,eval e X.env)::eQ [] X.env) Au) :
  PI X tg (.Call (.Name y p2) [e] [] pos2) (ri X.K t):=by
 intro c s σ H R I h;have i:y≠"__name__":=by rw[hy];decide
 have n:(y == ("__debug__" : Str))=false:=by rw[hy];decide
 show gK (sM I hg2 hm2 hv2 ?_ i n);show gM ?_ he rfl;rw[he];show ei _ _ (spliced ((false,eval e X.env)::jq pos2 (eQ [] X.env))) _ _ s;show gS (iF (ha c s σ H _ I h) λu d ζ=>?_);let(x,v,I1,j,q):=ζ;show iQ ?_;let(a,g,rfl,k,q):=q;obtain rfl:u=eK a:=j;let(f,r,p,w):=I1.list k;show call_reversed_list p.isList ?_;show wpAny_pyIter_revIter ⟨_,dP _ rfl,rfl,rfl⟩ ?_;have z:=r.length;show(d.heap.objs.size,[d.heap.objs.size],_,_,v,rfl,I1.kept (t':=d.toks) λb o e=>df _ e,LB a _ g.length,?_,λb l=>?_,q)
 .show(_,dP _ rfl,rfl,?_);unfold revObj;have m:((f.toArray.size:Nat):Int)-1=(g.length:Int)-1-((0:Nat):Int):=by
   rw[eu];ac_nf
  rw[m]
 .have e:b=d.heap.objs.size:=by simpa using l
  subst e;show I1.fpOk (dh _) (I1.hok.fresh (dh _))
theorem Mn{K:aW}(hK:X.K=K){e:Expr}{t:TE}{p2 pos2:Pos}{y:Str}(hy:y="reversed")(hg2:Gl X y)(hm2:X.mg y=none)(hv2:fo y=some (.type "reversed"))(ha:PE X e t)(he:autoParam (eQ [e] X.env=(false,eval e X.env)::eQ [] X.env) Au) :
  PI X tg (.Call (.Name y p2) [e] [] pos2) (ri K t):=hK ▸ La hy hg2 hm2 hv2 ha he
section
variable{tl:TE}{K:aW}{td:TE}{g:TG}{D:Ends}
theorem Jf:oT (ri K tl) g tb D σ H=tl σ H λx H1=>∃ a xs,x=.ref a/\fI K H1 a xs/\ni (zh K a xs.length) g tb D σ H1:=rfl
theorem Je:oT (pZ td) g tb D σ H=td σ H λx H1=>∃(d:Addr)(kvs:List (gD × V))(ss:List Str),x=.ref d/\H1 d=some (.dK kvs)/\kvs.map (·.1)=ss.map aZ/\∀ od,ni (uZ d od kvs ss) g tb D σ (upd H1 d (.frz od (.dK kvs))):=rfl
theorem ni.rev{a:Addr}(Pv:Nat->St->Hp->Prop)(h0:Pv 0 σ H)(hl:∀ i σ H',Pv i σ H'->fI K H' a xs)
  (hs:∀ i x σ H,i<xs.length->xs[xs.length-1-i]?=some x->Pv i σ H->∀ N:St->Hp->Prop,(∀ σ' H',Pv (i+1) σ' H'->N σ' H')->g x σ H λσ2 H2=>tb { D with nx:=N,ct:=N,bk:=D.nx } σ2 H2) (hd:∀ σ H,Pv xs.length σ H->D.nx σ H):ni (zh K a xs.length) g tb D σ H:=by
 show(λi m σ H=>m=xs.length-i/\i<=xs.length/\Pv i σ H,⟨xs.length,by simp,dG _,h0⟩,?_);rintro i m σ H ⟨rfl,f,p⟩;by_cases b:i<xs.length
 .have d:=aV (by ac_nf:xs.length-1-i<xs.length);show .inr ⟨⟨b,xs,_,hl i σ H p,d⟩,Pv (i+1),λσ' H' c=>⟨xs.length-(i+1),∅,rfl,b,c⟩,λx H' y=>?_⟩;let(e,y):=y;subst e;show hs i x σ _ b (y xs (hl i σ _ p)) p _ λ_ _ h=>h
 .have e:i=xs.length:=by ac_nf
  subst e;show .inl ⟨rfl,hd σ H p⟩
theorem ni.keys(Pv:Nat->St->Hp->Prop)(h0:Pv 0 σ H)(hl:∀ i σ H',Pv i σ H'->H' d=some (.frz od (.dK kvs)))
  (hs:∀ i z σ H,ss[i]?=some z->Pv i σ H->∀ N:St->Hp->Prop,(∀ σ' H',Pv (i+1) σ' H'->N σ' H')->g (.str z) σ H λσ2 H2=>tb { D with nx:=N,ct:=N,bk:=D.nx } σ2 H2) (hd:∀ σ H,Pv ss.length σ H->D.nx σ H):ni (uZ d od kvs ss) g tb D σ H:=by
 show(λi m σ H=>m=ss.length-i/\i<=ss.length/\Pv i σ H,⟨ss.length,by simp,dG _,h0⟩,?_);rintro i m σ H ⟨rfl,c,p⟩;by_cases a:i<ss.length
 .show .inr ⟨⟨hl i σ H p,a⟩,Pv (i+1),λσ' H' b=>⟨ss.length-(i+1),∅,rfl,a,b⟩,λx H' y=>?_⟩;let(e,y):=y;subst e;rw[bg,aV a]at y;cases y;show hs i ss[i] σ _ (aV a) p _ λ_ _ h=>h
 .have e:i=ss.length:=by ac_nf
  subst e;show .inl ⟨⟨hl _ σ H p,dh _⟩,hd σ H p⟩
end
def bF(ns:List (Int × Int)):Int:=ns.foldl (λb n=>b*n.2.fdiv (Mth.g b n.2)) 1
theorem LJ{l:List (Int × Int)}{n:Int × Int}:bF (l++[n])=bF l*n.2.fdiv (Mth.g (bF l) n.2):=by
 unfold bF;rw[js];rfl
theorem Bc{a : α}:∀{P:List (Str × α)},lk P z=some a->z∈P.map (·.1)
 | [],h=>by cases h
 | p::P,h=>by
  unfold lk at h;by_cases c:p.1=z
  .rw[dw,c];show fM
  .rw[if_neg c]at h;rw[dw];show dZ _ (Bc h)
theorem rf{l:List (Str × α)}{f:Str}{a : α}(h:(l.map (·.1)).Nodup):((pu l f a).map (·.1)).Nodup:=by
 unfold pu;split
 .have e:∀ l:List (Str × α),(l.map λp=>if p.1=f then(p.1,a)else p).map (·.1)=l.map (·.1):=λl=>by
   rw[ie];show jN λp _=>?_;show(if p.1=f then(p.1,a)else p).1=p.1;split <;> rfl
  rw[e];show h
 .rename_i c;rw[dy];show fD.mpr ⟨h,by simp,λx d y b e=>?_⟩;have b:y=f:=by simpa using b
  let(p,g,rfl):=di.mp d;show c (List.any_eq_true.mpr ⟨p,g,by simp[e,b]⟩)
section
variable{ss:List jB}{P:nD}{fs:List Str}
theorem BE.chn(h:BE ss fs P){v:Str}{l:List jB}(hv:v∈fs\/∃ s,lk P v=some s)(c:rF P v l):(∀ s∈l,s∈ss)/\l.length<=ss.length/\∃ f∈fs,lk P f=none/\Wk ss f l v/\(f::l.map (·.tgt)).Nodup:=by
 let(S,g,o,_):=h.chain;let(b,i):=(g v).mpr hv;let(k,m,p,f,n,j,a,d):=o v b i;have e:=rF.uniq c m;subst e;show(a.mem,a.len d,f,n,j,a,d)
def cs(l:List jB):Int × Int:=l.foldl (λa s=>fE a s.cost) (0,1)
theorem vI{s:jB}:cs (l++[s])=fE (cs l) s.cost:=by
 unfold cs;rw[js];rfl
def CB(L:List (Int × Int)):Prop:=∃ D Q:Int,1<=D/\Mth.Sz 900 D/\0<=Q/\Mth.Sz 900 Q/\∀ c∈L,Lo c/\Dv D (vl c)/\-(Q:Rat)<=vl c/\vl c<=(Q:Rat)
variable{Q:Int}
theorem Dv.fb2{D:Int}{m n:Nat}{t:Int × Int}(h:Dv D (vl t))(lo:Lo t)(hD:1<=D)(sD:Mth.Sz n D)(h0 : -(Q:Rat)<=vl t)(h1:vl t<=(Q:Rat))(q0:0<=Q)(sQ:Mth.Sz m Q):FB (m+n) n t:=by
 by_cases c:0<=vl t
 .show h.fb lo.b1 lo.g1 hD sD c h1 sQ
 .have e:vl (gf t) = - vl t:=oG _;have d:Dv D (vl (gf t)):=by
   let(k,b):=h;show(-k,by rw[e];push_cast;grind)
  have a:Mth.g (gf t).1 (gf t).2=1:=by
   show Mth.g (-t.1) t.2=1;rw[Mth.g_neg];show lo.g1
  have f:=d.fb lo.b1 a hD sD (by rw[e];grind) (by rw[e];grind) sQ;show(?_,f.s2,lo.b1,lo.g1);have:=f.s1;unfold Mth.Sz at this ⊢
  rwa [show(gf t).1 = -t.1 from rfl,Int.natAbs_neg]at this
variable{L:List (Int × Int)}
theorem CB.fb(h:CB L)(hc:c∈L):FB 1800 900 c:=by
 let(D,Q,d,b,a,j,k):=h;let(e,f,i,g):=k c hc;show f.fb2 e d b i g a j
theorem Eu{D:Int}(q0:0<=Q):∀(l:List jB)(a:Int × Int)(n:Nat),Lo a->Dv D (vl a)->-((n*Q:Int):Rat)<=vl a->vl a<=((n*Q:Int):Rat)->(∀ s∈l,Lo s.cost/\Dv D (vl s.cost)/\-(Q:Rat)<=vl s.cost/\vl s.cost<=(Q:Rat))->Lo (l.foldl (λa s=>fE a s.cost) a)/\Dv D (vl (l.foldl (λa s=>fE a s.cost) a))/\-(((n+l.length:Nat)*Q:Int):Rat)<=vl (l.foldl (λa s=>fE a s.cost) a)/\vl (l.foldl (λa s=>fE a s.cost) a)<=(((n+l.length:Nat)*Q:Int):Rat)
 | [],a,n,h1,h2,h3,h4,_=>⟨h1,h2,h3,h4⟩
 | s::l,a,n,h1,h2,h3,h4,k=>by
  rw[iB];let(k1,k2,k3,k4):=k s fM;have e:=oO h1.b1 k1.b1;have en:(((n+1:Nat)*Q:Int):Rat)=((n*Q:Int):Rat)+(Q:Rat):=by
   rw[<- Rat.intCast_add]
   congr 1
   push_cast;rw[Int.add_mul,Int.one_mul]
  have:=Eu q0 l (fE a s.cost) (n+1) (uF (nE h1.b1 k1.b1)) (by rw[e];show h2.add k2) (by rw[e,en];grind) (by rw[e,en];grind) λs hs=>k s (dZ _ hs);rw[dQ,show n+(l.length+1)=n+1+l.length by ac_nf];show this
theorem rl(h:CB L)(hl:∀ s∈l,s.cost∈L)(h70:l.length<=70):FB 1900 900 (cs l):=by
 let(D,Q,g,f,a,n,k):=h;let(i,d,c,b):=Eu (D:=D) a l (0,1) 0 ⟨⋯,⋯⟩ (by rw[rB];exact_mod_cast Dv.int 0) (by rw[rB];simp) (by rw[rB];simp) λs j=>k _ (hl s j);rw[Nat.zero_add]at c b;have e:Mth.Sz 7 (l.length:Int):=by unfold Mth.Sz;rw[Int.natAbs_natCast];show l.length<128;ac_nf
 show(d.fb2 (m:=7+900) i g f c b (Int.mul_nonneg (Int.natCast_nonneg _) a) (e.mul n)).mono ⋯ ⋯
structure oB(P:nD)(fs:List Str)(tb:List (Str × ((Int × Int) × List jB))):Prop where
 nd:(tb.map (·.1)).Nodup
 en:∀ v e,lk tb v=some e->(v∈fs\/∃ s,lk P v=some s)/\rF P v e.2/\e.1=cs e.2
theorem oB.nil:oB P fs []:=⟨by simp,λv e h=>by cases h⟩
variable{tb:List (Str × ((Int × Int) × List jB))}
theorem oB.one{f:Str}(h:oB P fs tb)(hf:f∈fs)(hn:lk P f=none):oB P fs (pu tb f ((0,1),[])) where
 nd:=rf h.nd
 en:=λv e a=>by
  rw[lQ]at a;by_cases c:f=v
  .rw[if_pos c]at a;cases a;subst c;show(.inl hf, .nil hn,rfl)
  .rw[if_neg c]at a;show h.en v e a
variable{e:(Int × Int) × List jB}
theorem oB.put{s:jB}(h:oB P fs tb)(he:lk tb s.src=some e)(hs:lk P s.tgt=some s):oB P fs (pu tb s.tgt (fE e.1 s.cost,e.2++[s])) where
 nd:=rf h.nd
 en:=λv x a=>by
  rw[lQ]at a;by_cases c:s.tgt=v
  .rw[if_pos c]at a;cases a;let(_,b,d):=h.en _ _ he;subst c;show(.inr ⟨s,hs⟩, .snoc hs b,by rw[vI,d])
  .rw[if_neg c]at a;show h.en v x a
theorem oB.keep{f:Str}{a:(Int × Int) × List jB}(h:∃ e,lk tb z=some e):∃ e,lk (pu tb f a) z=some e:=by
 let(e,b):=h;rw[lQ];by_cases c:f=z
 .show(_,if_pos c)
 .show(e,(if_neg c).trans b)
theorem BE.tb_len(h:BE ss fs P){tb:List (Str × ((Int × Int) × List jB))}(k:oB P fs tb):tb.length<=fs.length+ss.length:=by
 have:=sub_len (tb.map (·.1)) (fs++ss.map (·.tgt)) k.nd λx d=>by
  let(e,b):=ym d;let(_,_,_,_,c,_):=h.ex;rcases(k.en x e b).1 with e | ⟨s,hs⟩
  .show jF _ e
  .let(a,f,_):=c x s hs;show fS _ (di.mpr ⟨s,a,f⟩)
 rwa [bc,dR,bc]at this
end
section
variable{prog:fH}{A:fZ}{E:aX->da->Prop}{w:fA}{s:da}
end
def toS(b:Int)(s:SD):jB:=⟨s.src,s.dst,s.c,s.c.1*b.fdiv s.c.2,s.nm,s.fw⟩
def oa(ts:List TD):Int:=bF ((Ch.all ts).map (·.c))
def nZ(ts:List TD):List jB:=(Ch.all ts).map (toS (oa ts))
def vn(ts:List TD)(fs:List Str):nD:=(sr (nZ ts) ((nZ ts).length+1) (nk fs)).P
abbrev Tab:=List (Str × ((Int × Int) × List jB))
theorem wy(h2:1<=c.2)(hd:c.2∣b):((c.1*b.fdiv c.2:Int):Rat)=vl c*(b:Rat):=by
 let(k,rfl):=hd;rw[Int.mul_fdiv_cancel_left _ ∅];have a:=mj h2;unfold vl;push_cast;generalize(c.1:Rat)=x at *;generalize(c.2:Rat)=y at *;generalize(k:Rat)=z at *;grind
theorem FC:∀(l:List jB)(a:Int × Int),1<=a.2->(∀ s∈l,(s.wh:Rat)=vl s.cost*(b:Rat)/\1<=s.cost.2)->vl (l.foldl (λa s=>fE a s.cost) a)*(b:Rat)=vl a*(b:Rat)+(pj l:Rat)/\1<=(l.foldl (λa s=>fE a s.cost) a).2
 | [],a,ha,_=>by
  show(?_,ha);show vl a*(b:Rat)=vl a*(b:Rat)+((0:Int):Rat);rw[Rat.intCast_zero,Rat.add_zero]
 | s::l,a,ha,h=>by
  rw[iB];let(h1,h2):=h s fM;have hb:1<=(fE a s.cost).2:=Mth.IC (iT ∅ ∅);let(i1,i2):=FC l (fE a s.cost) hb λs hs=>h s (dZ _ hs);show(?_,i2);rw[i1,oO ha h2];have e:(pj (s::l):Rat)=(s.wh:Rat)+(pj l:Rat):=by
   show((s.wh+pj l:Int):Rat)=_;push_cast;rfl
  rw[e,h1,Rat.add_mul,Rat.add_assoc]
theorem J0(h:∀ s∈l,(s.wh:Rat)=vl s.cost*(b:Rat)/\1<=s.cost.2):vl (cs l)*(b:Rat)=(pj l:Rat)/\1<=(cs l).2:=by
 let(c,a):=FC (b:=b) l (0,1) ⋯ h;show(?_,a);unfold cs;rw[c,rB];grind
theorem q9(hb:∀ s∈Ch.all ts,1<=s.c.2/\s.c.2∣oa ts):∀ s∈nZ ts,(s.wh:Rat)=vl s.cost*(oa ts:Rat)/\1<=s.cost.2:=λs b=>by
 let(x,a,rfl):=di.mp b;show(wy (hb x a).1 (hb x a).2,(hb x a).1)
theorem EK(h1:1<=oa ts)(hb:∀ s∈Ch.all ts,1<=s.c.2/\s.c.2∣oa ts)(hx:∀ s∈Ch.all ts,x s.dst<=x s.src+vl s.c):qB (λf=>(x f*(oa ts:Rat)).floor) (nZ ts) :=
 MR (x:=λf=>x f*(oa ts:Rat)) λs a=>by
  have b:=(q9 hb s a).1;let(y,d,rfl):=di.mp a;have:=hx y d;rw[b];show x y.dst*_<=x y.src*_+vl y.c*_;rw[<- Rat.add_mul];show fk this ?_;have : (0:Int)<=oa ts:=by ac_nf
  exact_mod_cast this
theorem EB(h:CB ((Ch.all ts).map (·.c))):∀ s∈Ch.all ts,FB 1800 900 s.c:=λs a=>h.fb (di.mpr ⟨s,a,rfl⟩)
structure xv(t:TD):Prop where
 ok:sC t
 ex:∃ g:GD,g.td=t
structure vh(ts:List TD)(F:List Str)(x:Str->Rat):Prop where
 l35:ts.length<=35
 ok:∀ t∈ts,xv t
 cb:CB ((Ch.all ts).map (·.c))
 f8:F.length<=14
 fm:∀ t∈ts,t.st∈F/\t.en∈F
 pot:∀ s∈Ch.all ts,x s.dst<=x s.src+vl s.c
theorem vh.l70{F:List Str}(h:vh ts F x):(Ch.all ts).length<=70:=by
 have:=FH (ts:=ts) ts.length;rw[de (dh _)]at this;have:=h.l35;ac_nf
structure pK(ts:List TD)(fs:List Str)(tb:Tab):Prop where
 b1:1<=oa ts
 bb:∀ s∈Ch.all ts,1<=s.c.2/\s.c.2∣oa ts
 tk:oB (vn ts fs) fs tb
 ks:∀ v,(∃ e,lk tb v=some e)↔(v∈fs\/∃ s,lk (vn ts fs) v=some s)
 be:BE (nZ ts) fs (vn ts fs)
section
variable{tb tb':Tab}{v:Str}{e:(Int × Int) × List jB}{fs:List Str}
theorem pK.ent(h:pK ts fs tb)(he:lk tb v=some e):e.1=cs e.2/\(∀ s∈e.2,s∈nZ ts)/\e.2.length<=(nZ ts).length/\∃ f∈fs,lk (vn ts fs) f=none/\Wk (nZ ts) f e.2 v/\(f::e.2.map (·.tgt)).Nodup:=by
 let(c,d,g):=h.tk.en v e he;let(a,i,b):=h.be.chn c d;show(g,a,i,b)
theorem pK.fb(h:pK ts fs tb)(hfb:CB ((Ch.all ts).map (·.c)))(hl:(Ch.all ts).length<=70)(he:lk tb v=some e):FB 1900 900 e.1:=by
 let(b,f,i,_):=h.ent he;have g:(nZ ts).length<=70:=by unfold nZ;rw[bc];ac_nf
 rw[b];show rl hfb (λs d=>?_) ∅;let(y,a,rfl):=di.mp (f s d);show di.mpr ⟨y,a,rfl⟩
theorem pK.step(h:pK ts fs tb){s:SD}(hs:s∈Ch.all ts)(he:lk tb s.src=some e):∃ e',lk tb s.dst=some e'/\vl e'.1<=vl e.1+vl s.c:=by
 let(S,o,t,x):=h.be.chain;have i:toS (oa ts) s∈nZ ts:=di.mpr ⟨s,hs,rfl⟩;have k:∀ v e,lk tb v=some e->∀ a,lk S v=some a->vl e.1*(oa ts:Rat)=(a:Rat):=λv e he a m=>by
  let(_,B,w):=h.tk.en v e he;let(l,u,A,f,_,_,p,_):=t _ a m;have:=B.uniq u;subst this;rw[w, <- A];show(J0 λs hs=>q9 h.bb s (p.mem s hs)).1
 let(a,m):=(o _).mpr ((h.ks _).mp ⟨e,he⟩);let(b,d,n):=x _ i a m;let(e',g):=(h.ks s.dst).mpr ((o _).mp ⟨b,d⟩);show(e',g,?_);have C:=k _ _ he a m;have D:=k _ _ g b d;have y:=(q9 h.bb _ i).1;have r:=h.b1;have q:(0:Rat)<(oa ts:Rat):=by
  have : (0:Int)<oa ts:=by ac_nf
  exact_mod_cast this
 have j:(b:Rat)<=(a:Rat)+((toS (oa ts) s).wh:Rat):=by exact_mod_cast n
 rw[y, <- C, <- D]at j;have j:vl e'.1*(oa ts:Rat)<=vl e.1*(oa ts:Rat)+vl s.c*(oa ts:Rat):=j;rw[<- Rat.add_mul]at j;show jH.mp λz=>absurd j (Rat.not_le.mpr (lI z q))
theorem pK.root{f:Str}(h:pK ts [f] tb)(he:lk tb v=some e):Wk (nZ ts) f e.2 v:=by
 let(_,_,_,g,a,_,w,_):=h.ent he;rw[bf.mp a]at w;show w
end
variable{tb:Tab}{e:Int × Int}
theorem yl(h:Lo e):Lo (gf e):=⟨h.b1,by
 have:=h.g1;unfold gf;rw[Mth.g_neg];show this⟩
theorem AM(h:Lo e):nT (0,1) e=gf e:=Lo.inj (uF (nE (show(1:Int)<=1 by decide) h.b1)) (yl h) (by
 rw[E8 (show(1:Int)<=1 by decide) h.b1,rB,oG];grind)
theorem JP{m D:Int}(hm:1<=m)(h1:b∣D)(h2:m∣D):b*m.fdiv (Mth.g b m)∣D:=by
 have h:=Mth.g_pos (a:=b) (b:=m) ∅;have e:=Mth.pR (Mth.uS b m) (by ac_nf:Mth.g b m≠0);have f:((Int.lcm b m:Nat):Int)∣D:=Int.coe_lcm_dvd h1 h2;have q:((Int.lcm b m:Nat):Int)*Mth.g b m=((b*m).natAbs:Nat):=by
  unfold Mth.g;rw[<- Int.natCast_mul,Int.lcm_mul_gcd,gq]
 have d:(b*m.fdiv (Mth.g b m))*Mth.g b m=b*m:=by rw[gu,e]
 show jR ?_ f;rcases Int.natAbs_eq (b*m)with c | c
 .show(1,gG (by ac_nf:Mth.g b m≠0) (by rw[q,iW,d, <- c]))
 .show(-1,gG (by ac_nf:Mth.g b m≠0) (by rw[q,gu,gL (-1), <- gu,d,c];simp))
theorem mB.whole{n:Int × Int}{t:Int × Int}(h:mB n b t)(h2:1<=n.2)(d:n.2∣b):t.1=n.1*b.fdiv n.2:=by
 have a:b.fmod n.2=0:=by
  rw[hI _ ∅];show Int.emod_eq_zero_of_dvd d
 have k:=mB.all h2 a;have e:=(h.vl h2).trans (k.vl h2).symm;have:=Lo.inj ⟨h.b1,h.g1⟩ ⟨fW 1,by unfold Mth.g;simp⟩ e;rw[this]
theorem Gs{m:Nat}:∀ xs:List (Int × Int),(∀ x∈xs,1<=x.2/\Mth.Sz m x.2)->∃ P:Int,1<=P/\Mth.Sz (1+m*xs.length) P/\∀ x∈xs,x.2∣P
 | [],_=>⟨1,fW 1,Mth.Sz.mono (m:=1) (by unfold Mth.Sz;decide) ∅,λx hx=>by cases hx⟩
 | a::xs,h=>by
  let(P,h1,h2,h3):=Gs xs λx hx=>h x (dZ _ hx);let(a1,a2):=h a (by simp);show(P*a.2,nE h1 a1,(h2.mul a2).mono (by rw[dQ,Nat.mul_add];ac_nf),λx hx=>?_);rcases eP.mp hx with rfl | hx
  .show Int.dvd_mul_left ..
  .show jR (h3 x hx) (Int.dvd_mul_right ..)
variable{a b:Str}
theorem GV{w1 w2:List Pr}(h:kZ ls a (w1++pr::w2) b):∃ f g,kZ ls a w1 f/\(g,pr)∈mQ ls f/\kZ ls g w2 b:=by
 generalize e:w1++pr::w2=w at h;induction h generalizing w2 with
 | nil=>simp at e
 | @snoc w f g' pr' hw hm ih=>
  rcases List.eq_nil_or_concat w2 with rfl | ⟨u,x,rfl⟩
  .let(c,d):=List.append_inj' e rfl;cases d;show(f,g',c ▸ hw,hm, .nil)
  .rw[List.concat_eq_append]at e ⊢;have i:(w1++pr::u)++[x]=w++[pr']:=by rw[<- e];simp
   let(c,d):=List.append_inj' i rfl;cases d;let(j,n,k,l,m):=ih c;show(j,n,k,l, .snoc m hm)
theorem B3{w:List Pr}(h:kZ ls a w b)(hn:n∉w.map (·.1)):iX (ls.filter λx=>decide (x.nm≠n)) a b:=by
 induction h with
 | nil=>show .refl
 | snoc _ hm ih=>
  rw[dy]at hn;show(ih λz=>hn (jF _ z)).trans ?_;let(p,c,k):=nQ.mp hm;show .lead (nQ.mpr ⟨p,fQ.mpr ⟨c,?_⟩,k⟩);rw[decide_eq_true_iff];rintro rfl;show hn (fS _ ?_);rcases k with k | k
  .rw[k.2.2];simp
  .rw[k.2.2.2];simp
theorem BC(ht:Tree ls)(hne:∀ p∈ls,p.st≠p.en)(nd:(ls.map (·.nm)).Nodup){a b n:Str}{w w':List Pr}(h:kZ ls a w b)(hn:(w.map (·.1)).Nodup)(h':kZ ls a w' b)(hm:n∈w.map (·.1)):n∈w'.map (·.1):=by
 by_cases c:n∈w'.map (·.1)
 .show c
 exfalso;let((i,d),j,rfl):=di.mp hm;let(C,t,rfl):=List.append_of_mem j;let(f,g,y,r,A):=GV h;rw[dy,dw,fD]at hn;have m:i∉C.map (·.1):=λz=>hn.2.2 _ z _ fM rfl;have o:i∉t.map (·.1):=(gy.mp hn.2.1).1;let(p,j,k):=nQ.mp r;have en:p.nm=i:=by
  rcases k with k | k
  .show((Prod.mk.inj k.2.2).1).symm
  .show((Prod.mk.inj k.2.2.2).1).symm
 have v:=B3 y m;have u:=B3 A o;have B:=B3 h' c;have e:∀ q∈ls.filter (λx=>decide (x.nm≠i)),q.st≠q.en:=λq s=>hne q (fQ.mp s).1;have l:iX (ls.filter λx=>decide (x.nm≠i)) f g:=((v.symm e).trans B).trans (u.symm e);show ht p j ?_;rw[en];rcases k with k | k
 .rw[k.1,k.2.1];show l
 .rw[k.2.1,k.2.2.1];show l.symm e
theorem LC(ht:Tree ls)(hne:∀ p∈ls,p.st≠p.en)(nd:(ls.map (·.nm)).Nodup){a b:Str}{w w':List Pr}(h:kZ ls a w b)(hn:(w.map (·.1)).Nodup)(h':kZ ls a w' b)(hn':(w'.map (·.1)).Nodup):(w.map (·.1)).Perm (w'.map (·.1)) :=
 (List.perm_ext_iff_of_nodup hn hn').mpr λ_=>⟨BC ht hne nd h hn h',BC ht hne nd h' hn' h⟩
noncomputable def ny(ls:List PD)(g:GD):List Str:=open Classical in if h:∃ w:List Pr,kZ ls g.st w g.en/\(w.map (·.1)).Nodup then h.choose.map (·.1)else[]
theorem Gw(ht:Tree ls)(hne:∀ p∈ls,p.st≠p.en)(nd:(ls.map (·.nm)).Nodup){g:GD}{w:List Pr}(h:kZ ls g.st w g.en)(hn:(w.map (·.1)).Nodup):(ny ls g).Perm (w.map (·.1)):=by
 have a:∃ w:List Pr,kZ ls g.st w g.en/\(w.map (·.1)).Nodup:=⟨w,h,hn⟩;unfold ny;rw[dif_pos a];show LC ht hne nd a.choose_spec.1 a.choose_spec.2 h hn
theorem EL{f:Str->Rat}:∀{l m:List Str},l.Nodup->(∀ n∈l,n∈m)->(∀ n∈m,0<=f n)->sm f l<=sm f m
 | [],m,_,_,h=>sm_nn h
 | a::l,m,hn,hs,h=>by
  rw[gy]at hn;let(m1,m2,e):=List.append_of_mem (hs a fM);have p:m.Perm (a::(m1++m2)):=e ▸ List.perm_middle;have:=EL (l:=l) (m:=m1++m2) hn.2 (λn hn'=>by
   have h1:=p.mem_iff.mp (hs n (dZ _ hn'));rcases eP.mp h1 with e | h1
   .rw[e]at hn';show absurd hn' hn.1
   .show h1) λn hn'=>h n (p.mem_iff.mpr (dZ _ hn'))
  rw[xF p];simp only[sm];grind
structure vp(ks:List PD)(sl:Str->Rat)(ts:List TD):Prop where
 st:∀ s∈Ch.all ts, ∃ p∈ks,(s.src=p.st/\s.dst=p.en/\vl s.c=vl p.sz+sl p.nm)\/(s.src=p.en/\s.dst=p.st/\vl s.c=sl p.nm-vl p.sz)
 ex:∀ p∈ks,(∃ s∈Ch.all ts,s.src=p.st/\s.dst=p.en/\vl s.c=vl p.sz+sl p.nm)/\∃ s∈Ch.all ts,s.src=p.en/\s.dst=p.st/\vl s.c=sl p.nm-vl p.sz
section
variable{sl:Str->Rat}
theorem vp.wk(h:vp ks sl ts)(hne:∀ p∈ks,p.st≠p.en)(hx:∀ p∈ks,x p.en=x p.st+vl p.sz)(hb:∀ s∈Ch.all ts,1<=s.c.2){l:List jB}(w:Wk (nZ ts) a l b):∃ u:List Pr,kZ ks a u b/\vl (cs l)=x b-x a+sm sl (u.map (·.1))/\1<=(cs l).2:=by
 induction w with
 | nil=>show([], .nil,by show vl (0,1)=_;rw[rB];simp only[fP,sm];grind,⋯)
 | @snoc l s _ hs ih=>
  let(u,d,k,n):=ih;let(y,m,rfl):=di.mp hs;have o:=hb y m;have e:vl (cs (l++[toS (oa ts) y]))=vl (cs l)+vl y.c:=by
   rw[vI];show oO n o
  obtain⟨p,i,⟨f,g,j⟩ | ⟨f,g,j⟩⟩:=h.st y m
  .have d:kZ ks a u y.src:=d;show(u++[(p.nm,true)], .snoc d (nQ.mpr ⟨p,i, .inl ⟨f.symm,g.symm,rfl⟩⟩),?_,by rw[vI];show Mth.IC (iT ∅ (by show y.c.2≠0;ac_nf)));rw[e,k,j,dy,dw,fP,vF];show x y.src-x a+_+_=x y.dst-x a+_;rw[f,g,hx p i];grind
  .have d:kZ ks a u y.src:=d;show(u++[(p.nm,false)], .snoc d (nQ.mpr ⟨p,i, .inr ⟨λz=>hne p i (z.trans f),f.symm,g.symm,rfl⟩⟩),?_,by rw[vI];show Mth.IC (iT ∅ (by show y.c.2≠0;ac_nf)));rw[e,k,j,dy,dw,fP,vF];show x y.src-x a+_+_=x y.dst-x a+_;rw[f,g,hx p i];grind
theorem J3{ss:List jB}(w:Wk ss a l b):(l=[]/\a=b)\/b∈l.map (·.tgt):=by
 cases w with
 | nil=>show .inl ⟨rfl,rfl⟩
 | snoc=>show .inr (by simp)
theorem vp.told(h:vp ks sl ts)(ht:Tree ks)(hne:∀ p∈ks,p.st≠p.en)(nd:(ks.map (·.nm)).Nodup)(h0:∀ p∈ks,0<=sl p.nm)(hx:∀ p∈ks,x p.en=x p.st+vl p.sz)(td:pK ts [a] tb){w:List Pr}(hw:kZ ks a w b)(hn:(w.map (·.1)).Nodup):∃ e,lk tb b=some e/\vl e.1=x b-x a+sm sl (w.map (·.1)):=by
 have F:∀ s∈Ch.all ts,1<=s.c.2:=λs L=>(td.bb s L).1;have K:∃ e,lk tb b=some e/\vl e.1<=x b-x a+sm sl (w.map (·.1)):=by
  clear hn;induction hw with
  | nil=>
   let(e,B):=(td.ks a).mpr (.inl (by simp));show(e,B,?_);let(J,_,_,f,D,_,y,A):=td.ent B;rw[bf.mp D]at y A;rcases J3 y with⟨q4,_⟩ | q4
   .rw[J,q4];show vl (0,1)<=_;rw[rB];simp only[fP,sm];grind
   .show absurd q4 (gy.mp A).1
  | @snoc w f g pr _ hm ih=>
   let(e,j,H):=ih;obtain⟨p,i,⟨k,m,r⟩ | ⟨_,k,m,r⟩⟩:=nQ.mp hm
   .let(s,v,t,q,G):=(h.ex p i).1;let(o,l,I):=td.step v (by rw[t,k];show j);rw[q,m]at l;show(o,l,?_);rw[r,dy,dw,fP,vF];have:=hx p i;rw[k,m]at this;grind
   .let(s,v,t,q,G):=(h.ex p i).2;let(o,l,I):=td.step v (by rw[t,k];show j);rw[q,m]at l;show(o,l,?_);rw[r,dy,dw,fP,vF];have:=hx p i;rw[k,m]at this;grind
 let(e,j,H):=K;show(e,j,?_);let(u,C,E,_):=h.wk hne hx F (td.root j);have : sm sl (w.map (·.1))<=sm sl (u.map (·.1)):=EL hn (λn d=>BC ht hne nd hw hn C d) λn d=>by
  let(p,i,e):=rE (rD C) n d |> λz=>di.mp z
  rw[<- e];show h0 p i
 rw[<- (td.ent j).1]at E;grind
end
def L1(c:Nat):Str:=⟨#[c]⟩
theorem qh{a b:Nat}(h:L1 a=L1 b):a=b:=by
 unfold L1 at h;injection h with h
 simpa using h
theorem xH{c:Nat}(h1:97<=c)(h2:c<=122):kb (L1 c)=true:=by
 have : ∀ d,d<26->kb (L1 (97+d))=true:=by decide
 have:=this (c-97) ∅
 rwa [show 97+(c-97)=c by ac_nf]at this
inductive G81:List PD->Prop
 | nil:G81 []
 | snoc {ls:List PD} {q:PD} {j:Nat}:G81 ls->q.nm=L1 (97+ls.length)->j<=ls.length->(q.st=L1 (113+ls.length)/\q.en=L1 (112+j))\/(q.st=L1 (112+j)/\q.en=L1 (113+ls.length))->FB 133 3 q.sz->FB 3 3 q.mo->0<=q.mo.1->1<=q.wt->q.wt<=5->Dv 60 (vl q.sz)->G81 (ls++[q])
theorem G81.nm(h:G81 ls):ls.map (·.nm)=(gX ls.length).map λi=>L1 (97+i):=by
 induction h with
 | nil=>rfl
 | snoc _ e _ _ _ _ _ _ _ _ ih=>rw[dy,ih,dR,dD,List.range_succ,dy,dw,fP,e];rfl
theorem G81.nd(h:G81 ls):(ls.map (·.nm)).Nodup:=by
 rw[h.nm];unfold List.Nodup;rw[List.pairwise_map];show(List.nodup_range (n:=ls.length)).imp λ{i j} hij e=>hij (by have:=qh e;ac_nf)
theorem G81.fc(h:G81 ls):∀ p∈ls, ∃ i j,i<=ls.length/\j<=ls.length/\i≠j/\p.st=L1 (112+i)/\p.en=L1 (112+j):=by
 induction h with
 | nil=>intro p a;cases a
 | @snoc ls q j _ _ hj hq _ _ _ _ _ _ ih=>
  intro p a;rw[dR,dD];rcases dk.mp a with a | a
  .let(i,j,d,e,c,b):=ih p a;show(i,j,∅,∅,c,b)
  .rw[bf.mp a];rcases hq with⟨e1,e2⟩ | ⟨e1,e2⟩
   .show(ls.length+1,j,∅,∅,∅,by rw[e1];congr 1;ac_nf,e2)
   .show(j,ls.length+1,∅,∅,∅,e1,by rw[e2];congr 1;ac_nf)
theorem G81.ne(h:G81 ls):∀ p∈ls,p.st≠p.en:=λp c z=>by
 let(i,j,_,_,d,b,a):=h.fc p c;rw[b,a]at z;have:=qh z;ac_nf
theorem G81.new(h:G81 ls):L1 (113+ls.length)∉lG ls:=λz=>by
 let(p,d,a):=ia.mp z;let(i,j,f,g,_,c,b):=h.fc p d;rcases eP.mp a with e | a
 .rw[c]at e;have:=qh e;ac_nf
 .have e:=bf.mp a;rw[b]at e;have:=qh e;ac_nf
theorem G81.val(h:G81 ls):∀ p∈ls,FB 133 3 p.sz/\FB 3 3 p.mo/\0<=p.mo.1/\1<=p.wt/\p.wt<=5/\Dv 60 (vl p.sz):=by
 induction h with
 | nil=>intro p a;cases a
 | snoc _ _ _ _ a1 a2 a3 a4 a5 a6 ih=>
  intro p a;rcases dk.mp a with a | a
  .show ih p a
  .rw[bf.mp a];show(a1,a2,a3,a4,a5,a6)
theorem G81.tree(h:G81 ls):Tree ls:=by
 induction h with
 | nil=>intro p m;cases m
 | @snoc ls p j g hnm hj hq _ _ _ _ _ _ ih=>
  intro q b z;have l:=g.new;have u:p.nm∉ls.map (·.nm):=by
   rw[g.nm,hnm];intro y;let(i,t,e):=di.mp y;have:=qh e;have:=kf.mp t;ac_nf
  have n:¬ iX ls p.st p.en:=λy=>by
   have k:p.st≠p.en:=by
    rcases hq with⟨c,d⟩ | ⟨c,d⟩ <;> rw[c,d] <;> intro e <;> have:=qh e <;> ac_nf
   have:=Gf g.ne y k;rcases hq with⟨c,d⟩ | ⟨c,d⟩
   .rw[c]at this;show l this.1
   .rw[d]at this;show l this.2
  rw[ir]at z;rcases dk.mp b with b | b
  .have o:L1 (113+ls.length)∉lG (ls.filter λx=>decide (x.nm≠q.nm)):=λy=>l (by
    let(x,a,s):=ia.mp y;show ia.mpr ⟨x,(fQ.mp a).1,s⟩)
   have r:iX (ls.filter (λx=>decide (x.nm≠q.nm))++[p]) q.st q.en:=z.sub λx a=>by
    rcases dk.mp a with a | a
    .show dk.mpr (.inl a)
    .show dk.mpr (.inr (fQ.mp a).1)
   have:=r.retract (s0:=L1 (112+j)) (f:=L1 (113+ls.length)) hq o;let(w,v,A,B,_,c,d):=g.fc q b;rw[if_neg (by rw[c];intro e;have:=qh e;ac_nf),if_neg (by rw[d];intro e;have:=qh e;ac_nf)]at this;show ih q b this
  .rw[bf.mp b]at z;show n (z.sub λx a=>by
    rcases dk.mp a with a | a
    .show(fQ.mp a).1
    .have:=(fQ.mp a);have e:=bf.mp this.1;rw[e]at this;simp at this)
theorem G81.conn(h:G81 ls):∀ j,j<=ls.length->iX ls (L1 112) (L1 (112+j)):=by
 induction h with
 | nil=>intro j a;rw[show j=0 from by simpa using a];show .refl
 | @snoc ls p i g hnm hi hq _ _ _ _ _ _ ih=>
  intro j a;rw[dR,dD]at a;by_cases c:j<=ls.length
  .show(ih j c).mono
  .have f:j=ls.length+1:=by ac_nf
   rw[f,show 112+(ls.length+1)=113+ls.length by ac_nf];show(ih i hi).mono.trans ?_;have b:∀ q∈ls++[p],q.st≠q.en:=λq d=>by
    rcases dk.mp d with h | h
    .show g.ne q h
    .rw[bf.mp h];rcases hq with⟨e1,e2⟩ | ⟨e1,e2⟩ <;> rw[e1,e2] <;> intro e <;> have:=qh e <;> ac_nf
   have k:=Mw (ls:=ls++[p]) (p:=p) (by simp);rcases hq with⟨e1,e2⟩ | ⟨e1,e2⟩
   .rw[e1,e2]at k;show k.symm b
   .rw[e1,e2]at k;show k
theorem G81.pl(h:G81 ls):∃ pl:Str->Int × Int,(∀ f,FB (134+4*ls.length) (1+3*ls.length) (pl f))/\∀ p∈ls,vl (pl p.en)=vl (pl p.st)+vl p.sz:=by
 induction h with
 | nil=>show(λ_=>(0,1),λ_=>By.mono ∅ ∅,λp c=>by cases c)
 | @snoc ls q j g hnm hj hq fq _ _ _ _ _ ih=>
  let(pl,l,r):=ih;obtain⟨z,o,s⟩:∃ z:Int × Int,FB 133 3 z/\((q.st=L1 (113+ls.length)/\q.en=L1 (112+j)/\vl z = - vl q.sz)\/(q.st=L1 (112+j)/\q.en=L1 (113+ls.length)/\vl z=vl q.sz)):=by
   rcases hq with⟨a,b⟩ | ⟨a,b⟩
   .show(gf q.sz,fq.neg, .inl ⟨a,b,oG _⟩)
   .show(q.sz,fq, .inr ⟨a,b,rfl⟩)
  have d:=l (L1 (112+j));have t:FB (134+4*(ls.length+1)) (1+3*(ls.length+1)) (fE (pl (L1 (112+j))) z):=(FB.add (n:=137+4*ls.length) (m:=4+3*ls.length) d o ∅ ∅ ∅).mono ∅ ∅;have i:vl (fE (pl (L1 (112+j))) z)=vl (pl (L1 (112+j)))+vl z:=oO d.b1 o.b1;have k:L1 (112+j)≠L1 (113+ls.length):=λe=>by have:=qh e;ac_nf
  show(λf=>if f=L1 (113+ls.length)then fE (pl (L1 (112+j))) z else pl f,λf=>?_,λp c=>?_)
  .rw[dR,dD];dsimp only;split
   .show t
   .show(l f).mono ∅ ∅
  .dsimp only;rcases dk.mp c with c | c
   .let(v,u,w,x,_,a,b):=g.fc p c;rw[if_neg (show p.en≠L1 (113+ls.length) by rw[b];intro e;have:=qh e;ac_nf),if_neg (show p.st≠L1 (113+ls.length) by rw[a];intro e;have:=qh e;ac_nf)];show r p c
   .rw[bf.mp c];rcases s with⟨a,b,e3⟩ | ⟨a,b,e3⟩
    .rw[a,b,if_neg k,if_pos rfl,i,e3];grind
    .rw[a,b,if_neg k,if_pos rfl,i,e3]
theorem G81.pok(h:G81 ls)(hl:ls.length<=10):∀ p∈ls,sI p:=λp c=>by
 let(i,j,q,r,_,n,l):=h.fc p c;let(b,a,m,f,o,_):=h.val p c;have d:p.nm∈ls.map (·.nm):=di.mpr ⟨p,c,rfl⟩;rw[h.nm]at d;let(k,g,e):=di.mp d;have:=kf.mp g;show(by rw[<- e];show xH ∅ ∅,by rw[n];show xH ∅ ∅,by rw[l];show xH ∅ ∅,h.ne p c,⟨b.s1.mono ⋯,b.s2.mono ⋯,b.b1,b.g1⟩,⟨a.s1.mono ⋯,a.s2.mono ⋯,a.b1,a.g1⟩,m,f, .lit ∅ ∅)
structure oF(ks:List PD)(n:Nat)(pl:Str->Int × Int):Prop where
 len:ks.length=n
 n10:n<=10
 nd:(ks.map (·.nm)).Nodup
 nm:∀ p∈ks, ∃ i,i<10/\p.nm=L1 (97+i)
 tr:Tree ks
 ne:∀ p∈ks,p.st≠p.en
 ok:∀ p∈ks,sI p
 val:∀ p∈ks,FB 133 3 p.sz/\FB 3 3 p.mo/\0<=p.mo.1/\1<=p.wt/\p.wt<=5/\Dv 60 (vl p.sz)
 cn:∀ i j,i<=n->j<=n->iX ks (L1 (112+i)) (L1 (112+j))
 plb:∀ f,FB 174 31 (pl f)
 pls:∀ p∈ks,vl (pl p.en)=vl (pl p.st)+vl p.sz
 fc:∀ p∈ks, ∃ i j,i<=n/\j<=n/\p.st=L1 (112+i)/\p.en=L1 (112+j)
theorem G81.turn(h:G81 ls)(hl:ls.length<=10)(hp:ks.Perm ls):∃ pl,oF ks ls.length pl:=by
 let(pl,o,r):=h.pl;have m:∀ p,p∈ks↔p∈ls:=λp=>hp.mem_iff;have g:∀ p∈ks,p.st≠p.en:=λp hp=>h.ne p ((m p).mp hp);show(pl,hp.length_eq,hl,(hp.map _).nodup_iff.mpr h.nd,λp a=>?_,λp a c=>h.tree p ((m p).mp a) (c.sub λx l=>fQ.mpr ⟨(m x).mp (fQ.mp l).1,(fQ.mp l).2⟩),g,λp hp=>h.pok hl p ((m p).mp hp),λp hp=>h.val p ((m p).mp hp),λi j b q=>?_,λf=>(o f).mono ∅ ∅,λp hp=>r p ((m p).mp hp),λp hp=>by let(i,j,t,u,_,v,s):=h.fc p ((m p).mp hp);show(i,j,t,u,v,s))
 .have d:p.nm∈ls.map (·.nm):=di.mpr ⟨p,(m p).mp a,rfl⟩;rw[h.nm]at d;let(k,n,e):=di.mp d;show(k,by have:=kf.mp n;ac_nf,e.symm)
 .have c:∀ i,i<=ls.length->iX ks (L1 112) (L1 (112+i)):=λi b=>(h.conn i b).sub λp hp=>(m p).mpr hp;show((c i b).symm g).trans (c j q)
variable{n:Nat}
theorem oF.free{pl:Str->Int × Int}(h:oF ks n pl):∀(i:Nat) p,ks[i]?=some p->¬ iX (ks.take i) p.st p.en:=λi p b z=>by
 have f:=(aU.mp b).1;show h.tr p (aY b) (z.sub λx c=>fQ.mpr ⟨gU c,?_⟩);rw[decide_eq_true_iff];intro e;let(j,a):=dA c;have d:=(aU.mp a).1;rw[eS]at d;rw[List.getElem?_take_of_lt ∅]at a;have:=(jy (l:=ks.map (·.nm)) (i:=j) (j:=i) (by rw[bc];ac_nf) h.nd).mp (by rw[bg,bg,a,b];show congrArg some e);ac_nf
theorem ch_f:∀ i,i<11->(il "pqrstuvwxyz").cps.toList[i]?=some (112+i):=by decide
theorem ch_p:∀ i,i<10->(il "abcdefghij").cps.toList[i]?=some (97+i):=by decide
variable{y:Int}
theorem E4{x:Int}(hx:Mth.Sz A x)(h1:1<=y)(hy:Mth.Sz B y):FB A B (Mth.top x y,Mth.bot x y):=FB.low h1 hx hy
def oz(b:Bool):Int:=if b then 1 else -1
def qT(K:aW)(H:Hp)(pr:Pr)(x:V):Prop:=∃ p,x=.ref p/\H p=some (.tup [.str pr.1, .int (oz pr.2)])
theorem qT.sameT{K:aW}{x:V}(S:dH H H'):qT K H pr x->qT K H' pr x:=λ⟨p,b,a⟩=>⟨p,b,S _ _ rfl a⟩
def mz(f:Str->Rat):List Pr->Rat
 | []=>0
 | pr::w=>(if pr.2 then f pr.1 else-f pr.1)+mz f w
theorem Gq{f:Str->Rat}:∀ w:List Pr,mz f (w++[pr])=mz f w+if pr.2 then f pr.1 else-f pr.1
 | []=>by simp only[kL,mz];grind
 | a::w=>by simp only[gO,mz,Gq w];grind
theorem Fh{f:Str->Rat}:∀ w:List Pr,mz f (w.map λpr=>(pr.1,true))=sm f (w.map (·.1))
 | []=>rfl
 | a::w=>by simp only[dw,mz,Fh w,sm];rfl
theorem BH{f:Str->Rat}{w:List Pr}(hx:∀ p∈ks,x p.en=x p.st+f p.nm)(h:kZ ks a w b):mz f w=x b-x a:=by
 induction h with
 | nil=>simp only[mz];grind
 | snoc _ hm ih=>
  rw[Gq,ih];obtain⟨p,g,⟨c,e,d⟩ | ⟨_,c,e,d⟩⟩:=nQ.mp hm
  .have:=hx p g;rw[c,e]at this;rw[d];simp only[if_true];grind
  .have:=hx p g;rw[c,e]at this;rw[d];simp only[jX,if_false];grind
def spS(s:Str->Int × Int)(pr:Pr):jB:=⟨pr.1,pr.1,sgn pr.2 (s pr.1),0,pr.1,true⟩
variable{a:Int × Int}
theorem wO{b:Bool}:vl (sgn b a)=if b then vl a else-vl a:=by
 cases b
 .show oG a
 .rfl
def vf(ks:List PD)(s:Str->Int × Int):Prop:=CB (ks.map λp=>s p.nm)
theorem vf.sum{s:Str->Int × Int}{w:List Pr}(h:vf ks s)(hw:∀ pr∈w, ∃ p∈ks,p.nm=pr.1)(hl:w.length<=10):FB 1900 900 (cs (w.map (spS s)))/\vl (cs (w.map (spS s)))=mz (λn=>vl (s n)) w:=by
 have l:∀ pr∈w,s pr.1∈ks.map λp=>s p.nm:=λpr b=>by
  let(p,C,t):=hw pr b;show di.mpr ⟨p,C,by rw[t]⟩
 have r:∀ pr∈w,1<=(s pr.1).2:=λpr b=>(CB.fb h (l pr b)).b1;constructor
 .show rl (L:=w.map λpr=>sgn pr.2 (s pr.1)) ?_ (λy o=>?_) (by rw[bc];ac_nf)
  .let(D,Q,v,m,B,x,k):=h;show(D,Q,v,m,B,x,λc f=>?_);let(pr,b,rfl):=di.mp f;let(g,i,A,E):=k _ (l pr b);cases e:pr.2 with
   | true=>show(g,i,A,E)
   | false=>
    have d:vl (sgn false (s pr.1)) = - vl (s pr.1):=oG _;show(yl g,?_,?_,?_)
    .let(z,H):=i;show(-z,by rw[d];push_cast;grind)
    .rw[d];grind
    .rw[d];grind
  .let(pr,b,rfl):=di.mp o;show di.mpr ⟨pr,b,rfl⟩
 .have : ∀(w:List Pr)(a:Int × Int),1<=a.2->(∀ pr∈w,1<=(s pr.1).2)->vl ((w.map (spS s)).foldl (λa s=>fE a s.cost) a)=vl a+mz (λn=>vl (s n)) w:=by
   intro w;induction w with
   | nil=>intro a _ _;simp only[fP,List.foldl_nil,mz];grind
   | cons pr w ih=>
    intro a G j;have F:1<=(sgn pr.2 (s pr.1)).2:=by
     have:=j pr fM;cases pr.2 <;> show this
    rw[dw,iB,ih _ (Mth.IC (iT ∅ (by show(sgn pr.2 (s pr.1)).2≠0;ac_nf))) λq u=>j q (dZ _ u)];show vl (fE a (sgn pr.2 (s pr.1)))+_=_;rw[oO G F,wO];simp only[mz];grind
  unfold cs;rw[this w (0,1) ⋯ r,rB];grind
def jV(ks:List PD)(s:Str->Int × Int)(tw:List Int)(n:Str):Int × Int:=(((ks.zip tw).find? λe=>decide (e.1.nm=n)).map λe=>fE e.1.sz (lE (s n) (e.2,12))).getD (0,1)
variable{tw:List Int}
theorem F3{s:Str->Int × Int}{i:Nat}{t:Int}(nd:(ks.map (·.nm)).Nodup)(hp:ks[i]?=some p)(ht:tw[i]?=some t):jV ks s tw p.nm=fE p.sz (lE (s p.nm) (t,12)):=by
 have b:(ks.zip tw)[i]?=some (p,t):=fN.mpr ⟨hp,ht⟩;unfold jV;cases e:(ks.zip tw).find? λe=>decide (e.1.nm=p.nm)with
 | none=>
  have:=gF.mp e _ (aY b);simp at this
 | some y=>
  have g:y.1.nm=p.nm:=by simpa using kS e
  let(j,a):=dA (hU e);let(c,h):=fN.mp a;have f:=(aU.mp c).1;have d:=(jy (l:=ks.map (·.nm)) (i:=j) (j:=i) (by rw[bc];show f) nd).mp (by rw[bg,bg,c,hp];show congrArg some g);rw[d]at a;rw[b]at a;cases a;rfl
theorem FN{t:Int}(hz:FB 133 3 p.sz)(ha:FB 910 800 a)(h1 : -12<=t)(h2:t<=12):FB 1800 900 (fE p.sz (lE a (t,12)))/\vl (fE p.sz (lE a (t,12)))=vl p.sz+vl a*((t:Rat)/12):=by
 have d:Mth.Sz 4 t:=.lit ∅ ∅;have b:Mth.Sz 4 12:=.lit ⋯ ⋯;have c:FB 914 804 (lE a (t,12)):=FB.low (nE ha.b1 (show(1:Int)<=12 by decide)) (ha.s1.mul d) (ha.s2.mul b);show((FB.add (n:=950) (m:=807) hz c ⋯ ⋯ ⋯).mono ⋯ ⋯,?_);rw[oO hz.b1 c.b1,A9 ha.b1 (show(1:Int)<=12 by decide)];rfl
theorem B9{f g:Str}(h:(g,pr)∈mQ ks f):∃ p∈ks,p.nm=pr.1/\((p.st=f/\p.en=g)\/(p.st=g/\p.en=f)):=by
 obtain⟨p,d,⟨a,c,b⟩ | ⟨_,a,c,b⟩⟩:=nQ.mp h
 .show(p,d,by rw[b], .inl ⟨a,c⟩)
 .show(p,d,by rw[b], .inr ⟨c,a⟩)
theorem NO(nu:∀ p∈ks, ∀ q∈ks,p.nm=q.nm->p=q){a b:Str}{w:List Pr}(h:kZ ks a w b):∃ u,kZ ks a u b/\(u.map (·.1)).Nodup:=by
 induction h with
 | nil=>show([], .nil,by simp)
 | @snoc w f g pr _ hm ih=>
  let(u,s,d):=ih;by_cases c:pr.1∈u.map (·.1)
  .let(l,j,e):=di.mp c;let(r,G,rfl):=List.append_of_mem j;let(F,z,o,n,H):=GV s;let(p,A,D,t):=B9 hm;let(q,B,E,C):=B9 n;have : p=q:=nu p A q B (by rw[D,E,e]);subst this;rw[dy,dw]at d;have m:(r.map (·.1)).Nodup:=(fD.mp d).1;have v:((r++[l]).map (·.1)).Nodup:=by
    rw[dy,dw,fP];show fD.mpr ⟨m,by simp,λx k y i=>(fD.mp d).2.2 x k y (by rw[bf.mp i];simp)⟩
   have : g=z\/g=F:=by
    rcases t with⟨a1,a2⟩ | ⟨a1,a2⟩ <;> rcases C with⟨b1,b2⟩ | ⟨b1,b2⟩
    .show .inl (a2.symm.trans b2)
    .show .inr (a2.symm.trans b2)
    .show .inr (a1.symm.trans b1)
    .show .inl (a1.symm.trans b1)
   rcases this with rfl | rfl
   .show(_, .snoc o n,v)
   .show(_,o,m)
  .show(u++[pr], .snoc s hm,?_);rw[dy,dw,fP];show fD.mpr ⟨d,by simp,λx k y i e=>c (by rw[bf.mp i]at e;rw[<- e];show k)⟩
abbrev has(ws:List (Str × List Pr))(f:Str):Prop:=∃ u,lk ws f=some u
structure qI(ks:List PD)(one:Str)(ws:List (Str × List Pr)):Prop where
 wk:∀ f w,lk ws f=some w->kZ ks one w f/\(w.map (·.1)).Nodup
 cl:∀ f w,lk ws f=some w->∀ pr∈w, ∀ p∈ks,p.nm=pr.1->has ws p.st/\has ws p.en
variable{ws:List (Str × List Pr)}
theorem vE{f g:Str}{w:List Pr}(h:has ws f):has (pu ws g w) f:=by
 let(u,a):=h;rw[show has (pu ws g w) f=∃ u,(if g=f then some w else lk ws f)=some u by unfold has;rw[lQ]];by_cases c:g=f
 .show(w,if_pos c)
 .show(u,by rw[if_neg c];show a)
theorem yI{g:Str}{w:List Pr}:has (pu ws g w) g:=⟨w,by rw[lQ,if_pos rfl]⟩
theorem qI.nil{one:Str}:qI ks one [(one,[])]:=by
 have e:∀ f w,lk [(one,([]:List Pr))] f=some w->f=one/\w=[]:=λf w h=>by
  unfold lk at h;split at h
  .rename_i c;cases h;show(c.symm,rfl)
  .unfold lk at h;cases h
 show(λf w h=>by let(rfl,rfl):=e f w h;show(.nil,by simp),λf w h b a=>by let(rfl,rfl):=e f w h;cases a)
theorem qI.put{one f g:Str}{w:List Pr}(h:qI ks one ws)(nu:∀ p∈ks, ∀ q∈ks,p.nm=q.nm->p=q)(hp:p∈ks)(hl:(g,(p.nm,fw))∈mQ ks f)(hf:lk ws f=some w)(hg:lk ws g=none)(he:(p.st=f/\p.en=g)\/(p.st=g/\p.en=f)):qI ks one (pu ws g (w++[(p.nm,fw)])):=by
 let(t,r):=h.wk f w hf;show(λd u b=>?_,λd u b k a q l e=>?_)
 .rw[lQ]at b;by_cases c:g=d
  .rw[if_pos c]at b;cases b;subst c;show(.snoc t hl,?_);rw[dy,dw,fP];show fD.mpr ⟨r,by simp,λx s y o z=>?_⟩;rw[bf.mp o]at z;let(k,a,e):=di.mp s;let((A,m),v,n):=h.cl f w hf k a p hp (by rw[e,z]);rcases he with⟨_,e2⟩ | ⟨e1,_⟩
   .rw[e2,hg]at n;cases n
   .rw[e1,hg]at m;cases m
  .rw[if_neg c]at b;show h.wk d u b
 .rw[lQ]at b;have i:∀ d w',lk ws d=some w'->k∈w'->has (pu ws g (w++[(p.nm,fw)])) q.st/\has (pu ws g (w++[(p.nm,fw)])) q.en:=λf w hf a=>⟨vE (h.cl f w hf k a q l e).1,vE (h.cl f w hf k a q l e).2⟩;by_cases c:g=d
  .rw[if_pos c]at b;cases b;rcases dk.mp a with a | a
   .show i f w hf a
   .rw[bf.mp a]at e;have:=nu q l p hp e;subst this;have j:has (pu ws g (w++[(q.nm,fw)])) f:=vE ⟨w,hf⟩;rcases he with⟨e1,e2⟩ | ⟨e1,e2⟩ <;> rw[e1,e2]
    .show(j,yI)
    .show(yI,j)
  .rw[if_neg c]at b;show i d u b a
theorem qI.len{one f:Str}{w:List Pr}(h:qI ks one ws)(hf:lk ws f=some w):w.length<=ks.length:=by
 let(c,a):=h.wk f w hf;have:=sub_len (w.map (·.1)) (ks.map (·.nm)) a λn b=>rE (rD c) n b
 rwa [bc,bc]at this
def qH(K:aW)(H:Hp)(w:List Pr)(v:V):Prop:=∃ l xs,v=.ref l/\H l=some (.lst xs)/\fh (qT K H) w xs
theorem qH.put{K:aW}{w:List Pr}{o:HO}(u:upd H d o=H')(hd:H d=some (.dK kv))(ho:isTF o=false):qH K H w v->qH K H' w v:=λ⟨l,b,c,a,e⟩=>
 ⟨l,b,c,by rw[<- u,fF (λz=>by rw[z,hd]at a;cases a)];show a,e.mono λ_ _ z=>z.sameT (dH.put u hd rfl)⟩
theorem qH.same{K:aW}{w:List Pr}(S:dC H H'):qH K H w v->qH K H' w v:=by rintro⟨l,a,b,c,d⟩;show(l,a,b,S _ _ c,d.mono λ_ _ z=>z.sameT S.t)
variable{x:Int}
theorem xr(h1:1<=y)(h2:y<=6):Dv 60 ((x:Rat)/(y:Rat)):=by
 have c:y∣60:=by
  rcases(by ac_nf:y=1\/y=2\/y=3\/y=4\/y=5\/y=6)with rfl | rfl | rfl | rfl | rfl | rfl <;> decide
 let(k,a):=c;show(x*k,?_);have b:=mj h1;rw[a];push_cast;grind
theorem JO(h1:1<=y)(h2:y<=6):Dv 60 (vl (Mth.top x y,Mth.bot x y)):=by
 rw[xB h1];show xr h1 h2
def gN(k:Nat):Str:=L1 (([107,108,109,110,111,118]:List Nat)[k]?.getD 0)
theorem ch_g:∀ i,i<6->(il "klmnov").cps.toList[i]?=some (([107,108,109,110,111,118]:List Nat)[i]?.getD 0):=by decide
structure ng(k n:Nat)(pl:Str->Int × Int)(g:GD):Prop where
 nm:g.nm=gN k
 fc:∃ i j,i<=n/\j<=n/\i≠j/\g.st=L1 (112+i)/\g.en=L1 (112+j)
 lo:FB 150 6 g.lo
 hi:FB 150 6 g.hi
 r1:∃ x y:Int,0<=x/\x<=8/\1<=y/\y<=3/\vl g.lo=vl (pl g.en)-vl (pl g.st)-(x:Rat)/(y:Rat)
 r2:∃ x y:Int,0<=x/\x<=8/\1<=y/\y<=3/\vl g.hi=vl (pl g.en)-vl (pl g.st)+(x:Rat)/(y:Rat)
theorem EZ{t:Int × Int}(ht:FB 1900 900 t)(hd:Dv 60 (vl t))(h0 : -((10*2 ^ 133:Int):Rat)<=vl t)(h1:vl t<=((10*2 ^ 133:Int):Rat)){x y:Int}(hc:c=(x,y))(x0 : -8<=x)(x1:x<=8)(y0:1<=y)(y1:y<=3):FB 150 6 (fE t c)/\vl (fE t c)=vl t+(x:Rat)/(y:Rat):=by
 subst hc;have e:vl (fE t (x,y))=vl t+(x:Rat)/(y:Rat):=oO ht.b1 y0;show(?_,e);have b : -8<=(x:Rat)/(y:Rat)/\(x:Rat)/(y:Rat)<=8:=by
  have a:((-8:Int):Rat)<=(x:Rat):=gJ.mpr x0;have d:(x:Rat)<=((8:Int):Rat):=gJ.mpr x1;push_cast at a d;generalize(x:Rat)=z at *;rcases(by ac_nf:y=1\/y=2\/y=3)with rfl | rfl | rfl <;> push_cast <;> constructor <;> grind
 show(Dv.fb2 (t:=fE t (x,y)) (D:=60) (Q:=11*2 ^ 133) (m:=137) (n:=6) ?_ (uF (nE ht.b1 y0)) ⋯ (.lit ⋯ ⋯) ?_ ?_ ⋯ (.lit ⋯ ⋯)).mono ⋯ ⋯
 .rw[e];show hd.add (xr y0 ∅)
 .rw[e];push_cast at h0 ⊢;grind
 .rw[e];push_cast at h1 ⊢;grind
theorem xp(h0:0<=x)(h1:x<2*y):x.fmod y=x\/x.fmod y=x-y:=by
 rw[hI _ ∅];by_cases c:x<y
 .show .inl (Int.emod_eq_of_lt h0 c)
 .show .inr ?_;rw[<- Int.sub_emod_right];show Int.emod_eq_of_lt ∅ ∅
theorem pU(h:FB A B a) : -((2 ^ A:Int):Rat)<=vl a/\vl a<=((2 ^ A:Int):Rat):=by
 have g:=h.s1;unfold Mth.Sz at g;have g:(a.1.natAbs:Int)<(2:Int) ^ A:=by exact_mod_cast g
 by_cases c:0<=a.1
 .have b:=vO h.b1 c;have f:=(nS h.b1).mpr c;have d:(a.1:Rat)<=((2 ^ A:Int):Rat):=gJ.mpr ∅;have k:(0:Rat)<=((2 ^ A:Int):Rat):=er f (er b d);show(by grind,er b d)
 .have e:vl (gf a) = - vl a:=oG a;have i:0<=(gf a).1:=by show 0 <= -a.1;ac_nf
  have b:=vO (a:=gf a) h.b1 i;have f:=(nS (a:=gf a) h.b1).mpr i;have d:((gf a).1:Rat)<=((2 ^ A:Int):Rat):=gJ.mpr (by show -a.1<=_;ac_nf);have k:(0:Rat)<=((2 ^ A:Int):Rat):=er f (er b d);have j:=er b d;rw[e]at f j;show(by grind,by grind)
theorem ES{f:Str->Rat}{B:Int}(hB:0<=B):∀ w:List Pr,(∀ pr∈w,Dv 60 (f pr.1)/\-(B:Rat)<=f pr.1/\f pr.1<=(B:Rat))->Dv 60 (mz f w)/\-((w.length*B:Int):Rat)<=mz f w/\mz f w<=((w.length*B:Int):Rat)
 | [],_=>⟨by simp only[mz];exact_mod_cast Dv.int 0,by simp[mz],by simp[mz]⟩
 | pr::w,h=>by
  let(i1,i2,i3):=ES hB w λq hq=>h q (dZ _ hq);let(a1,a2,a3):=h pr fM;have e:((((pr::w).length:Int)*B:Int):Rat)=((w.length*B:Int):Rat)+(B:Rat):=by
   rw[<- Rat.intCast_add]
   congr 1
   rw[dQ];push_cast;rw[Int.add_mul,Int.one_mul]
  have an:Dv 60 (- f pr.1):=by
   let(z,hz):=a1;show(-z,by push_cast;push_cast at hz;grind)
  rw[e];simp only[mz];by_cases c:pr.2=true
  .rw[if_pos c];show(a1.add i1,by grind,by grind)
  .rw[if_neg c];show(an.add i1,by grind,by grind)
theorem oF.cbn{pl s:Str->Int × Int}(h:oF ks n pl)(hs:∀ p∈ks,s p.nm=p.sz):vf ks s:=by
 show(60,2 ^ 133,⋯, .lit ⋯ ⋯,⋯, .lit ⋯ ⋯,λc d=>?_);let(p,b,rfl):=di.mp d;let(a,_,_,_,_,e):=h.val p b;rw[hs p b];show(a.lo,e,pU a)
theorem oF.near{pl s:Str->Int × Int}{w:List Pr}{t:Int × Int}(h:oF ks n pl)(hs:∀ p∈ks,s p.nm=p.sz)(hw:∀ pr∈w, ∃ p∈ks,p.nm=pr.1)(hl:w.length<=10)(hv:vl t=mz (λn=>vl (s n)) w):Dv 60 (vl t)/\-((10*2 ^ 133:Int):Rat)<=vl t/\vl t<=((10*2 ^ 133:Int):Rat):=by
 let(g,l,k):=ES (f:=λn=>vl (s n)) (B:=2 ^ 133) ⋯ w λpr a=>by
  let(p,a,e):=hw pr a;let(c,_,_,_,_,j):=h.val p a;show Dv 60 (vl (s pr.1))/\_<=vl (s pr.1)/\vl (s pr.1)<=_;rw[<- e,hs p a];show(j,pU c)
 have d:((w.length*2 ^ 133:Int):Rat)<=((10*2 ^ 133:Int):Rat):=gJ.mpr (by
  have : (w.length:Int)<=10:=by ac_nf
  generalize b:(2:Int) ^ 133=B;have i:0<=B:=by rw[<- b];decide
  show Int.mul_le_mul_of_nonneg_right this i)
 rw[hv];show(g,?_,er k d);generalize((w.length*2 ^ 133:Int):Rat)=X at *;generalize((10*2 ^ 133:Int):Rat)=Y at *;grind
theorem Lz(hne:∀ p∈ks,p.st≠p.en){a b:Str}{w:List Pr}(h:kZ ks a w b):∃ u,kZ ks b u a/\u.map (·.1)=(w.map (·.1)).reverse:=by
 induction h with
 | nil=>show([], .nil,rfl)
 | @snoc w f g pr _ hm ih=>
  let(u,k,j):=ih;obtain⟨p,i,⟨d,c,e⟩ | ⟨_,d,c,e⟩⟩:=nQ.mp hm
  .show([]++[(p.nm,false)]++u,(kZ.snoc .nil (nQ.mpr ⟨p,i, .inr ⟨λz=>hne p i (z.trans c.symm),c,d,rfl⟩⟩)).trans k,?_);rw[dy,j,e,dy,dy,kX];rfl
  .show([]++[(p.nm,true)]++u,(kZ.snoc .nil (nQ.mpr ⟨p,i, .inl ⟨c,d,rfl⟩⟩)).trans k,?_);rw[dy,j,e,dy,dy,kX];rfl
structure mI(ks:List PD)(pl:Str->Int × Int)(g:GD)(s:Str->Int × Int)(E:Int):Prop where
 lo:∀ p∈ks,Lo (s p.nm)
 nn:∀ p∈ks,0<=vl (s p.nm)
 up:∀ p∈ks,vl (s p.nm)<=((2 ^ 101:Int):Rat)
 dv:∀ p∈ks,Dv E (vl (s p.nm))
 E1:1<=E
 sE:Mth.Sz 800 E
 ft:∀ w:List Pr,kZ ks g.st w g.en->(w.map (·.1)).Nodup->sm (λn=>vl (s n)) (w.map (·.1))<=vl (pl g.en)-vl (pl g.st)-vl g.lo/\sm (λn=>vl (s n)) (w.map (·.1))<=vl g.hi-(vl (pl g.en)-vl (pl g.st))
section
variable{E:Int}{pl s:Str->Int × Int}{g:GD}
theorem mI.fb(h:mI ks pl g s E):∀ p∈ks,FB 910 800 (s p.nm):=λp a=>((h.dv p a).fb (m:=102) (h.lo p a).b1 (h.lo p a).g1 h.E1 h.sE (h.nn p a) (h.up p a) (.lit ⋯ ⋯)).mono ⋯ ⋯
theorem mI.cbn(h:mI ks pl g s E):vf ks s:=⟨E,2 ^ 101,h.E1,h.sE.mono ⋯,⋯, .lit ⋯ ⋯,λc b=>by
 let(p,a,rfl):=di.mp b;have:=h.nn p a;have z:(0:Rat)<=((2 ^ 101:Int):Rat):=er this (h.up p a);show(h.lo p a,h.dv p a,by grind,h.up p a)⟩
theorem mI.at(h:mI ks pl g s E)(k:oF ks n pl)(hl:ks.length<=tw.length)(ht:∀ t∈tw, -12<=t/\t<=12){p:PD}(hp:p∈ks):∃ t:Int, -12<=t/\t<=12/\(∀ i:Nat,ks[i]?=some p->tw[i]?=some t)/\FB 1800 900 (jV ks s tw p.nm)/\vl (jV ks s tw p.nm)=vl p.sz+vl (s p.nm)*((t:Rat)/12):=by
 let(i,b):=dA hp;have m:=(aU.mp b).1;obtain⟨t,a⟩:∃ t,tw[i]?=some t:=⟨_,aV ∅⟩;let(d,f):=ht t (aY a);have:=FN (k.val p hp).1 (h.fb p hp) d f;rw[F3 k.nd b a];show(t,d,f,λj c=>?_,this);have o:=(aU.mp c).1;have e:=(jy (l:=ks.map (·.nm)) (i:=i) (j:=j) (by rw[bc];show m) k.nd).mp (by rw[bg,bg,b,c]);rw[<- e];show a
theorem xu{a:Rat}{t:Int}(h0:0<=a)(h1 : -12<=t)(h2:t<=12) : -a<=a*((t:Rat)/12)/\a*((t:Rat)/12)<=a:=by
 have c:((-12:Int):Rat)<=(t:Rat):=gJ.mpr h1;have b:(t:Rat)<=((12:Int):Rat):=gJ.mpr h2;push_cast at c b;generalize(t:Rat)=z at *;have d:(0:Rat)<=(z+12)*a:=iu (by grind) h0;have e:(0:Rat)<=(12-z)*a:=iu (by grind) h0;constructor <;> grind
theorem mI.made(h:mI ks pl g s E)(k:oF ks n pl)(hl:ks.length<=tw.length)(ht:∀ t∈tw, -12<=t/\t<=12):vf ks (jV ks s tw):=by
 show(E*12*60,2 ^ 134,nE (nE h.E1 ⋯) ⋯,?_,⋯, .lit ⋯ ⋯,λc j=>?_)
 .have a:Mth.Sz 4 12:=.lit ⋯ ⋯;have b:Mth.Sz 6 60:=.lit ⋯ ⋯;show((h.sE.mul a).mul b).mono ⋯
 let(p,d,rfl):=di.mp j;let(t,m,q,_,f,e):=h.at k hl ht d;let(r,_,_,_,_,l):=k.val p d;have o:=h.nn p d;have i:=h.up p d;let(u,v):=xu o m q;have z:=pU r;show(f.lo,?_,?_,?_)
 .rw[e];show Dv.add ?_ ?_
  .have:=l.more (E*12);rw[gL]at this;show this
  .show Dv.more (Dv.over ⋯ ?_) 60;rw[show vl (s p.nm)*((t:Rat)/12)*((12:Int):Rat)=vl (s p.nm)*(t:Rat) by push_cast;grind];show(h.dv p d).mul t
 .rw[e];push_cast at z i ⊢;grind
 .rw[e];push_cast at z i ⊢;grind
theorem Fj{f g h:Str->Rat}:∀ w:List Pr,(∀ pr∈w,h pr.1=f pr.1+g pr.1)->mz h w=mz f w+mz g w
 | [],_=>by simp only[mz];grind
 | pr::w,e=>by
  have i:=Fj w λq hq=>e q (dZ _ hq);have a:=e pr fM;simp only[mz,i,a];split <;> grind
theorem Fk{f g:Str->Rat}:∀ w:List Pr,(∀ pr∈w, -(g pr.1)<=f pr.1/\f pr.1<=g pr.1)->-(sm g (w.map (·.1)))<=mz f w/\mz f w<=sm g (w.map (·.1))
 | [],_=>by simp only[mz,fP,sm];constructor <;> grind
 | pr::w,e=>by
  have i:=Fk w λq hq=>e q (dZ _ hq);have a:=e pr fM;simp only[mz,dw,sm];split <;> constructor <;> grind
theorem Fi{f g:Str->Rat}:∀ w:List Pr,(∀ pr∈w,f pr.1=if pr.2 then g pr.1 else-g pr.1)->mz f w=sm g (w.map (·.1))
 | [],_=>rfl
 | pr::w,e=>by
  have i:=Fi w λq hq=>e q (dZ _ hq);have a:=e pr fM;simp only[mz,dw,sm,i,a];split <;> grind
end
variable{q:Addr}{x y:V}{b:Int × Int}
theorem Fl{K:aW}(h:gZ K H q [x,y])(h1:fO K H x a.1 a.2)(h2:fO K H y b.1 b.2):Rep K H (.tup [og a,og b]) (.ref q):=by
 simp only[Rep];show(q,_,rfl,h,by simp only[iJ];show(_,_,rfl,h1.rep,_,_,rfl,h2.rep,rfl))
theorem AU{K:aW}{r:Addr}{z w:V}{Q:VK}(h:gZ K H q [x,y])(h1:fO K H x a.1 a.2)(h2:fO K H y b.1 b.2)(k:gZ K H r [z,w])(k1:fO K H z a.1 a.2)(k2:fO K H w b.1 b.2)(hq:Q (.bl false) H):pH K (.ref q) (.ref r) H Q:=by
 show(.tup [og a,og b], .tup [og a,og b],Fl h h1 h2,Fl k k1 k2,by simp[depD,depL,og],by simp[flatD],?_);rw[show eqD (.tup [og a,og b]) (.tup [og a,og b])=true by simp[eqD,eqL,og]];show hq
theorem Fw{f:Str}(h:∀ q∈ks, ∃ t∈ts,t.st=q.st/\t.en=q.en)(hf:f∈lG ks):∃ t∈ts,f=t.st\/f=t.en:=by
 let(q,g,a):=ia.mp hf;let(t,b,c,d):=h q g;rcases eP.mp a with e | a
 .show(t,b, .inl (e.trans c.symm))
 .show(t,b, .inr ((bf.mp a).trans d.symm))
theorem Et{K:aW}:∀{w:List Pr}{xs:List V},fh (qT K H) w xs->∃ as:List Addr,xs=as.map V.ref/\as.length=w.length/\∀(i:Nat)(a:Addr)(pr:Pr),as[i]?=some a->w[i]?=some pr->H a=some (.tup [.str pr.1, .int (oz pr.2)])
 | [],xs,h=>⟨[],h,rfl,λi a pr h=>by simp at h⟩
 | pr::w,_,⟨x,r,e,⟨p,e1,h1⟩,h2⟩=>by
  let(as,k1,k2,k3):=Et h2;show(p::as,by rw[e,e1,k1];rfl,by simp[k2],λi a pr' ha hp=>?_);cases i with
  | zero=>simp at ha hp;rw[<- ha, <- hp];show h1
  | succ i=>show k3 i a pr' (by simpa using ha) (by simpa using hp)
variable{n:Str}
theorem Ff:∀(w:List Pr)(l:List (gD × V)),(w.map (·.1)).Nodup->((∃ d,(n,d)∈w/\gR ((w.map λpr=>(pr.1,V.int (oz pr.2))).foldl (λl p=>putK l (aZ p.1) p.2) l) (aZ n)=some (.int (oz d)))\/((∀ d,(n,d)∉w)/\gR ((w.map λpr=>(pr.1,V.int (oz pr.2))).foldl (λl p=>putK l (aZ p.1) p.2) l) (aZ n)=gR l (aZ n)))
 | [],l,_=>.inr ⟨λd h=>(by cases h),rfl⟩
 | pr::w,l,hn=>by
  rw[dw,gy]at hn;rw[dw,iB];rcases Ff w (putK l (aZ pr.1) (V.int (oz pr.2))) hn.2 with⟨d,h1,h2⟩ | ⟨h1,h2⟩
  .show .inl ⟨d,dZ _ h1,h2⟩
  .rw[yL]at h2;by_cases c:pr.1=n
   .rw[if_pos (by rw[c])]at h2;show .inl ⟨pr.2,by rw[<- c];show fM,h2⟩
   .rw[if_neg (λz=>c (aZ.inj z).symm)]at h2;show .inr ⟨λd h=>?_,h2⟩;rcases eP.mp h with e | h
    .show c (by rw[<- e])
    .show h1 d h
theorem LD{w:List Pr}(hn:(w.map (·.1)).Nodup):∃ e:Int,(gR (rq (w.map λpr=>(pr.1,V.int (oz pr.2)))) (aZ n)).getD (.int 1)=.int e/\(e=1\/e = -1)/\∀ d,(n,d)∈w->e=oz d:=by
 rcases Ff (n:=n) w [] hn with⟨d,h1,h2⟩ | ⟨h1,h2⟩
 .have c:oz d=1\/oz d = -1:=by cases d <;> simp[oz]
  show(oz d,by unfold rq;rw[h2];rfl,c,λk g=>?_);let(i,b):=dA h1;let(j,a):=dA g;have f:=(aU.mp b).1;have e:=(jy (l:=w.map (·.1)) (i:=i) (j:=j) (by rw[bc];show f) hn).mp (by rw[bg,bg,b,a];rfl);rw[<- e,b]at a;cases a;rfl
 .show(1,by unfold rq;rw[h2];rfl, .inl rfl,λd h=>absurd h (h1 d))
def x8(w:List Pr)(q:PD)(e:Int):Prop:=∃ f:Int,e=12*f/\(f=1\/f = -1)/\∀ d,(q.nm,d)∈w->f=oz d
theorem Gn{f:Str->Rat}(c:Rat):∀ l:List Str,sm (λn=>c*f n) l=c*sm f l
 | []=>by simp only[sm];grind
 | a::l=>by simp only[sm,Gn c l];grind
section
variable{n:Nat}{E:Int}{a b:Str}{pl s sz:Str->Int × Int}{g:GD}{w:List Pr}
theorem mI.split(h:mI ks pl g s E)(k:oF ks n pl)(hsz:∀ q∈ks,sz q.nm=q.sz)(hw:kZ ks a w b):mz (λn=>vl (jV ks s tw n)) w=(vl (pl b)-vl (pl a))+mz (λn=>vl (jV ks s tw n)-vl (sz n)) w:=by
 rw[Fj (f:=λn=>vl (sz n)) (g:=λn=>vl (jV ks s tw n)-vl (sz n)) w λd _=>by grind];rw[BH (x:=λf=>vl (pl f)) (f:=λn=>vl (sz n)) (λq c=>by show vl (pl q.en)=vl (pl q.st)+vl (sz q.nm);rw[hsz q c];show k.pls q c) hw]
theorem mI.rng(h:mI ks pl g s E)(k:oF ks n pl)(hsz:∀ q∈ks,sz q.nm=q.sz)(hw:kZ ks a w b)(hpr:∀ pr∈w, ∃ q∈ks,q.nm=pr.1)(hl:ks.length<=tw.length)(ht:∀ t∈tw, -12<=t/\t<=12):(vl (pl b)-vl (pl a))-sm (λn=>vl (s n)) (w.map (·.1))<=mz (λn=>vl (jV ks s tw n)) w/\mz (λn=>vl (jV ks s tw n)) w<=(vl (pl b)-vl (pl a))+sm (λn=>vl (s n)) (w.map (·.1)):=by
 rw[h.split k hsz hw];have:=Fk (f:=λn=>vl (jV ks s tw n)-vl (sz n)) (g:=λn=>vl (s n)) w λpr l=>by
  let(q,c,e):=hpr pr l;let(t,i,j,_,_,d):=h.at k hl ht c;have b:=xu (h.nn q c) i j;show -(vl (s pr.1))<=vl (jV ks s tw pr.1)-vl (sz pr.1)/\vl (jV ks s tw pr.1)-vl (sz pr.1)<=vl (s pr.1);rw[<- e,d,hsz q c];constructor <;> grind
 constructor <;> grind
theorem mI.ends(h:mI ks pl g s E)(k:oF ks n pl)(hsz:∀ q∈ks,sz q.nm=q.sz)(hw:kZ ks a w b)(hpr:∀ pr∈w, ∃ q∈ks,q.nm=pr.1)(hl:ks.length<=tw.length)(ht:∀ t∈tw, -12<=t/\t<=12)(c:Int)(he:∀(i:Nat) (q:PD) (t:Int),ks[i]?=some q->tw[i]?=some t->∃ e,x8 w q e/\t=c*e):mz (λn=>vl (jV ks s tw n)) w=(vl (pl b)-vl (pl a))+(c:Rat)*sm (λn=>vl (s n)) (w.map (·.1)):=by
 rw[h.split k hsz hw, <- Gn]
 congr 1
 show Fi (f:=λn=>vl (jV ks s tw n)-vl (sz n)) (g:=λn=>(c:Rat)*vl (s n)) w λpr j=>?_;let(q,d,e):=hpr pr j;let(t,y,z,r,_,m):=h.at k hl ht d;let(i,l):=dA d;let(x,(f,u,_,p),o):=he i q t l (r i l);have v:=p pr.2 (by rw[e];show j);show vl (jV ks s tw pr.1)-vl (sz pr.1)=if pr.2 then(c:Rat)*vl (s pr.1)else -((c:Rat)*vl (s pr.1))
 rw[<- e,m,hsz q d,o,u,v];cases pr.2 with
 | true=>
  simp only[oz,if_true];push_cast;grind
 | false=>
  simp only[oz,jX,if_false];push_cast;grind
end
theorem Ge{cz:List Int}{lo hi:Option Int}:∃ ys:List Int,oW (cz.map V.int) lo hi=ys.map V.int/\ys.length<=cz.length:=by
 unfold oW;show((cz.drop _).take _,by rw[List.map_take,List.map_drop],?_);rw[eS,List.length_drop];ac_nf
section
variable{n:Nat}{k:Nat}{pl:Str->Int × Int}{g:GD}
theorem yd{x y:Int}(h0:0<=x)(h1:1<=y):(0:Rat)<=(x:Rat)/(y:Rat):=by
 have:=(nS (a:=(x,y)) h1).mpr h0;show this
theorem ng.tok(h:ng k n pl g)(hk:k<6)(hn:n<=10):sC g.td:=by
 let(i,j,w,t,p,c,d):=h.fc;let(s,u,l,_,m,_,A):=h.r1;let(y,q,o,_,f,_,v):=h.r2;have r:=yd l m;have x:=yd o f;show(?_,by show kb g.st=true;rw[c];show xH ∅ ∅,by show kb g.en=true;rw[d];show xH ∅ ∅,?_,λa b=>?_,λa b=>?_,?_)
 .show kb g.nm=true;rw[h.nm];show(show∀ k,k<6->kb (gN k)=true by decide) k hk
 .show g.st≠g.en;rw[c,d];intro e;have:=qh e;ac_nf
 .cases b;show h.lo.ok ⋯ ⋯
 .cases b;show h.hi.ok ⋯ ⋯
 .show lF g.hi g.lo=false;show jA.mpr λz=>?_;have:=(qO h.hi.b1 h.lo.b1).mp z;grind
theorem ng.mid(h:∀ f,FB 174 31 (pl f)):FB 206 62 (L2.mid pl g)/\vl (L2.mid pl g)=vl (pl g.en)-vl (pl g.st):=by
 unfold L2.mid;show(FB.add (n:=205) (m:=62) (h _) (h _).neg ⋯ ⋯ ⋯,?_);rw[oO (h _).b1 (h _).neg.b1,oG];grind
theorem ng.room(h:ng k n pl g)(hp:∀ f,FB 174 31 (pl f)):FB 4 2 (roomF pl g)/\0<=vl (roomF pl g)/\vl (roomF pl g)<=vl (pl g.en)-vl (pl g.st)-vl g.lo/\vl (roomF pl g)<=vl g.hi-(vl (pl g.en)-vl (pl g.st)):=by
 let(A,D,q,H,r,B,I):=h.r1;let(G,v,s,C,p,u,E):=h.r2;let(fm,j):=ng.mid (g:=g) hp;have w:=yd q r;have F:=yd s p;have l:=FB.add (n:=300) (m:=100) h.hi fm.neg ⋯ ⋯ ⋯;have t:=FB.add (n:=300) (m:=100) fm h.lo.neg ⋯ ⋯ ⋯;have d:vl (fE g.hi (gf (L2.mid pl g)))=(G:Rat)/(v:Rat):=by
  rw[oO h.hi.b1 fm.neg.b1,oG,j,E];grind
 have i:vl (fE (L2.mid pl g) (gf g.lo))=(A:Rat)/(D:Rat):=by
  rw[oO fm.b1 h.lo.neg.b1,oG,j,I];grind
 have b:∀{x y:Int},0<=x->x<=8->1<=y->y<=3->∀{a:Int × Int},Lo a->vl a=(x:Rat)/(y:Rat)->FB 4 2 a:=λ{x y} h1 h2 h3 h4 {a} la e=>by
  have f:FB 4 2 (Mth.top x y,Mth.bot x y):=FB.low h3 (.lit ∅ ∅) (.lit ∅ ∅);rw[Lo.inj la f.lo (by rw[e,xB h3])];show f
 have o:=qO (a:=fE g.hi (gf (L2.mid pl g))) (c:=fE (L2.mid pl g) (gf g.lo)) l.b1 t.b1;unfold roomF;split
 .rename_i c;have:=o.mp c;show(b s C p u l.lo d,by rw[d];show F,by rw[d];grind,by rw[d];grind)
 .rename_i c;have : ¬ vl (fE g.hi (gf (L2.mid pl g)))<vl (fE (L2.mid pl g) (gf g.lo)):=λz=>c (o.mpr z);have:=jH.mp this;show(b q H r B t.lo i,by rw[i];show w,by rw[i];grind,by rw[i];grind)
theorem El:∀ i,i<6->∀ j,j<6->gN i=gN j->i=j:=by decide
theorem oF.shc(h:oF ks n pl){gs:List GD}(hg:∀(k:Nat) g,gs[k]?=some g->ng k n pl g)(hl:gs.length<=6):rO ks (gs.map λg=>(g,ny ks g)) pl:=by
 have t:=h.n10;have z:=h.len;have a:∀ e∈gs.map (λg=>(g,ny ks g)), ∃(k:Nat),k<6/\gs[k]?=some e.1/\ng k n pl e.1/\e.2=ny ks e.1:=λe c=>by
  let(g,m,rfl):=di.mp c;let(k,i):=dA m;have y:=(aU.mp i).1;show(k,∅,i,hg k g i,rfl)
 show(∅,by rw[bc];ac_nf,by rw[bc];ac_nf,h.nd,λe c u v q=>?_,h.ok,λp l=>?_,λp l=>?_,λe c=>?_,λe c=>?_,λe c=>?_,λf=>(h.plb f).mono ⋯ ⋯,h.pls,λe c w C o=>?_)
 .let(k,d,i,b,_):=a e c;let(x,D,rfl):=di.mp v;let(j,F,r,E,_):=a x D;rw[b.nm,E.nm]at q;have:=El j F k d q;rw[this,i]at r;show(eh r).symm
 .let(s,B,_):=h.val p l;show(⟨s.b1,s.s2.mono ⋯⟩,B.mono ⋯ ⋯)
 .let(_,_,_,G,H,_):=h.val p l;show .lit ∅ ∅
 .let(k,d,_,b,_):=a e c;show b.tok d t
 .let(k,d,_,b,_):=a e c;show(⟨b.lo.b1,b.lo.s2.mono ⋯⟩,b.hi.b1,b.hi.s2.mono ⋯)
 .let(k,d,_,b,_):=a e c;show(b.room h.plb).1.mono ⋯ ⋯
 .let(k,d,_,b,A):=a e c;rw[A];show Gw h.tr h.ne h.nd C o
end
def t9(p:PD)(r:nB):GD:=⟨p.nm,p.st,p.en,fE p.sz (gf r.sl),fE p.sz r.sl⟩
def nM(ls:List PD)(rs:List nB):List GD:=(ls.zip rs).map λe=>t9 e.1 e.2
variable{n:Nat}
theorem Kc{m:Nat}(h:n<m):seqIndex? (n:Int) m=some n:=by
 unfold seqIndex?;simp;ac_nf
theorem KY(a c:Int × Int):fE a (gf c)=(Mth.top (a.1*c.2-c.1*a.2) (a.2*c.2),Mth.bot (a.1*c.2-c.1*a.2) (a.2*c.2)):=by
 unfold fE gf;dsimp only;rw[Int.neg_mul, <- ka]
structure mH(ks:List PD)(rs:List nB)(s:Str->Int × Int)(E:Int):Prop where
 len:rs.length=ks.length
 row:∀(i:Nat) p r,ks[i]?=some p->rs[i]?=some r->r.sl=s p.nm
 lo:∀ p∈ks,Lo (s p.nm)
 nn:∀ p∈ks,0<=vl (s p.nm)
 up:∀ p∈ks,vl (s p.nm)<=((2 ^ 101:Int):Rat)
 dv:∀ p∈ks,Dv E (vl (s p.nm))
 E1:1<=E
 sE:Mth.Sz 800 E
section
variable{E:Int}{pl s:Str->Int × Int}
theorem mH.fb(h:mH ks rs s E):∀ p∈ks,FB 910 800 (s p.nm):=λp a=>((h.dv p a).fb (m:=102) (h.lo p a).b1 (h.lo p a).g1 h.E1 h.sE (h.nn p a) (h.up p a) (.lit ⋯ ⋯)).mono ⋯ ⋯
theorem mH.mem(h:mH ks rs s E){t:TD}(ht:t∈(nM ks rs).map (·.td)):∃ p∈ks,t=(⟨p.nm,p.st,p.en,fE p.sz (gf (s p.nm)),fE p.sz (s p.nm)⟩:GD).td:=by
 let(g,d,rfl):=di.mp ht;let(e,c,rfl):=di.mp d;let(i,b):=dA c;let(a,f):=fN.mp b;show(e.1,aY a,?_);unfold t9;rw[h.row i _ _ a f]
theorem mH.has(h:mH ks rs s E){p:PD}(hp:p∈ks):(⟨p.nm,p.st,p.en,fE p.sz (gf (s p.nm)),fE p.sz (s p.nm)⟩:GD).td∈(nM ks rs).map (·.td):=by
 let(i,a):=dA hp;have c:=(aU.mp a).1;have l:=h.len;obtain⟨r,b⟩:∃ r,rs[i]?=some r:=⟨_,aV ∅⟩;show di.mpr ⟨t9 p r,di.mpr ⟨(p,r),aY (fN.mpr ⟨a,b⟩),rfl⟩,?_⟩;unfold t9;rw[h.row i _ _ a b]
theorem mH.tis(h:mH ks rs s E)(k:oF ks n pl):vp ks (λn=>vl (s n)) ((nM ks rs).map (·.td)):=by
 have c:∀ p∈ks,vl (fE p.sz (s p.nm))=vl p.sz+vl (s p.nm):=λp a=>oO (k.val p a).1.b1 (h.lo p a).b1;have d:∀ p∈ks,vl (gf (fE p.sz (gf (s p.nm))))=vl (s p.nm)-vl p.sz:=λp a=>by
  rw[oG,oO (k.val p a).1.b1 (show 1<=(gf (s p.nm)).2 from(h.lo p a).b1),oG];grind
 show(λy g=>?_,λp a=>⟨?_,?_⟩)
 .let(t,f,b):=ia.mp (show y∈((nM ks rs).map (·.td)).flatMap Ch.steps from g);let(p,a,rfl):=h.mem f;show(p,a,?_);rcases dk.mp (show y∈fwd _++bwd _ from b)with b | b
  .have e:=bf.mp (show y∈[(⟨p.st,p.en,fE p.sz (s p.nm),p.nm,true⟩:SD)]from b);rw[e];show .inl ⟨rfl,rfl,c p a⟩
  .have e:=bf.mp (show y∈[(⟨p.en,p.st,gf (fE p.sz (gf (s p.nm))),p.nm,false⟩:SD)]from b);rw[e];show .inr ⟨rfl,rfl,d p a⟩
 .show(⟨p.st,p.en,fE p.sz (s p.nm),p.nm,true⟩,ia.mpr ⟨_,h.has a,jF _ (bf.mpr rfl)⟩,rfl,rfl,c p a)
 .show(⟨p.en,p.st,gf (fE p.sz (gf (s p.nm))),p.nm,false⟩,ia.mpr ⟨_,h.has a,fS _ (bf.mpr rfl)⟩,rfl,rfl,d p a)
theorem mH.bk(h:mH ks rs s E)(k:oF ks n pl):vh ((nM ks rs).map (·.td)) ((gX 11).map λi=>L1 (112+i)) (λf=>vl (pl f)):=by
 have Q:=k.n10;have J:=k.len;have u:∀ p∈ks,FB 940 803 (fE p.sz (s p.nm)):=λp d=>(FB.add (n:=939) (m:=803) (k.val p d).1 (h.fb p d) ⋯ ⋯ ⋯).mono ⋯ ⋯;have w:∀ p∈ks,FB 940 803 (fE p.sz (gf (s p.nm))):=λp d=>(FB.add (n:=939) (m:=803) (k.val p d).1 (h.fb p d).neg ⋯ ⋯ ⋯).mono ⋯ ⋯;have x:∀ p∈ks,vl (fE p.sz (s p.nm))=vl p.sz+vl (s p.nm):=λp d=>oO (k.val p d).1.b1 (h.lo p d).b1;have A:∀ p∈ks,vl (fE p.sz (gf (s p.nm)))=vl p.sz-vl (s p.nm):=λp d=>by
  rw[oO (k.val p d).1.b1 (show 1<=(gf (s p.nm)).2 from(h.lo p d).b1),oG];grind
 have fm:∀ i,i<=n->L1 (112+i)∈(gX 11).map λi=>L1 (112+i):=λi R=>di.mpr ⟨i,kf.mpr ∅,rfl⟩;show(?_,λt o=>?_,⟨E*60,2 ^ 134,nE h.E1 ⋯,?_,⋯, .lit ⋯ ⋯,λc L=>?_⟩,by simp,λt o=>?_,λy v=>?_)
 .rw[bc];unfold nM;rw[bc,kR];ac_nf
 .let(p,d,rfl):=h.mem o;have r:=k.ok p d;have B:=h.nn p d;show(⟨r.n1,r.n2,r.n3,r.ne,λa C=>?_,λa C=>?_,?_⟩,_,rfl)
  .cases C;show(w p d).ok ⋯ ⋯
  .cases C;show(u p d).ok ⋯ ⋯
  .show lF (fE p.sz (s p.nm)) (fE p.sz (gf (s p.nm)))=false;show jA.mpr λz=>?_;have:=(qO (u p d).b1 (w p d).b1).mp z;rw[x p d,A p d]at this;grind
 .have b:Mth.Sz 6 60:=.lit ⋯ ⋯;show(h.sE.mul b).mono ⋯
 .let(y,v,rfl):=di.mp L;let(t,o,q):=ia.mp (show y∈((nM ks rs).map (·.td)).flatMap Ch.steps from v);let(p,d,rfl):=h.mem o;let(N,_,_,_,_,P):=k.val p d;have z:=pU N;have B:=h.nn p d;have O:=h.up p d;have G:Dv (E*60) (vl p.sz):=by
   have:=P.more E;rw[gL]at this;show this
  have F:=(h.dv p d).more 60;have H:Dv (E*60) (vl (fE p.sz (s p.nm))):=by rw[x p d];show G.add F
  have M:Dv (E*60) (vl (gf (fE p.sz (gf (s p.nm))))):=by
   rw[oG,A p d,show -(vl p.sz-vl (s p.nm))=vl (s p.nm)-vl p.sz by grind];show F.sub G
  push_cast at z O;rcases dk.mp (show y∈fwd _++bwd _ from q)with q | q
  .have e:=bf.mp (show y∈[(⟨p.st,p.en,fE p.sz (s p.nm),p.nm,true⟩:SD)]from q);rw[e];show((u p d).lo,H,?_,?_) <;> show _ <;> dsimp only <;> rw[x p d] <;> push_cast <;> grind
  .have e:=bf.mp (show y∈[(⟨p.en,p.st,gf (fE p.sz (gf (s p.nm))),p.nm,false⟩:SD)]from q);rw[e];show(yl (w p d).lo,M,?_,?_) <;> dsimp only <;> rw[oG,A p d] <;> push_cast <;> grind
 .let(p,d,rfl):=h.mem o;let(i,j,K,I,g,l):=k.fc p d;show(?_,?_)
  .show p.st∈_;rw[g];show fm i K
  .show p.en∈_;rw[l];show fm j I
 .obtain⟨p,d,⟨g,l,D⟩ | ⟨g,l,D⟩⟩:=(h.tis k).st y v
  .have:=k.pls p d;have B:=h.nn p d;rw[g,l,D];grind
  .have:=k.pls p d;have B:=h.nn p d;rw[g,l,D];grind
theorem mH.of{f:Str->Rat}(t:A0 ks es pl rs s f E)(hl:rs.length=ks.length):mH ks rs s E :=
 ⟨hl,λi p r b c=>(t.row i p r b c).2,t.fea.lo,t.fea.nn,λp a=>er (t.fea.mo p a) (rj (t.ctx.mo p a).1 (t.ctx.mo p a).2.1 ⋯),t.fea.dv,t.ctx.E1,t.ctx.sE⟩
variable{gs:List GD}
theorem mH.ke{f:Str->Rat}{g:GD}{i:Nat}(h:mH ks rs s E)(t:A0 ks (gs.map λg=>(g,ny ks g)) pl rs s f E)(k:oF ks n pl)(hg:g∈gs)(gg:ng i n pl g):mI ks pl g s E:=⟨h.lo,h.nn,h.up,h.dv,h.E1,h.sE,λw b a=>by
 have r:=gg.room k.plb;have f:=t.fea.ft (g,ny ks g) (di.mpr ⟨g,hg,rfl⟩);have e:sm (λn=>vl (s n)) (ny ks g)=sm (λn=>vl (s n)) (w.map (·.1)):=xF (Gw k.tr k.ne k.nd b a);dsimp only at f;rw[e]at f;show(er f r.2.2.1,er f r.2.2.2)⟩
end
def wM(ks:List PD)(n:Str):Int × Int:=((ks.find? λp=>decide (p.nm=n)).map (·.sz)).getD (0,1)
theorem A3(nd:(ks.map (·.nm)).Nodup)(hp:p∈ks):wM ks p.nm=p.sz:=by
 unfold wM;cases e:ks.find? λq=>decide (q.nm=p.nm)with
 | none=>
  have:=gF.mp e p hp;simp at this
 | some q=>
  have a:q.nm=p.nm:=by simpa using kS e
  rw[yE nd (hU e) hp a];rfl
theorem xm{pl:Str->Int × Int}{gs:List GD}(hg:∀(k:Nat) g,gs[k]?=some g->ng k n pl g)(hl:gs.length<=6):(gs.map (·.nm)).Nodup:=by
 have e:gs.map (·.nm)=(gX gs.length).map gN:=iS λi=>by
  rw[bg,bg];by_cases c:i<gs.length
  .rw[aV c,List.getElem?_range c];show congrArg some (hg i _ (aV c)).nm
  .rw[eN ∅,eN (by simp;ac_nf)];rfl
 rw[e];unfold List.Nodup;rw[List.pairwise_map];show(List.nodup_range (n:=gs.length)).imp_of_mem λ{i j} hi hj hij eq=>hij (El i (by have:=kf.mp hi;ac_nf) j (by have:=kf.mp hj;ac_nf) eq)
end L2
open PySem L2
local macro_rules|`(tactic|rename_i $p:ident $h:ident $q:ident $H:ident $G:ident $S:ident $e:ident)=>`(tactic|(intro $p:ident $h:ident;generalize $q:ident:upd $H $p _=$G;have $S:ident:=se $h $q;have $e:ident:=sh $q))
local macro_rules|`(tactic|bv_decide)=>`(tactic|exact ⟨rfl,rfl,rfl,by decide +kernel,rfl,by decide +kernel,by decide +kernel⟩)
local macro_rules|`(tactic|simpa! only [$xs,*])=>do let l<-(("z6 z4 zJ Ai zN zA wj wq wb vZ Ag wm we wo zr Ap Ak zF zH Aj zE zG zW vY wu zt Am zu wg z8 zP zC Ac Aa zL zK wa zR zU zo zl An Ao II IJ AD Ax Av Ar Aw Aq zw zD V.int.injEq V.str.injEq V.bl.injEq Jb Ja Ah Jx IV IY IT IX IW Jq Jo Jn Ji Jh Jl IR Jk Jv Ju Jr Jm Jj Jd Jc IZ Js IM IQ Jt Jf Je IL".splitOn " ").map (`L2++·.toName)++("true_and if_true if_false Bool.not_true Bool.not_false Bool.false_eq_true List.set_cons_zero List.set_cons_succ List.getElem?_cons_zero List.getElem?_cons_succ Option.some.injEq exists_eq_left exists_eq_left' Int.reduceToNat Int.reducePow iM kL gO reduceCtorEq decide_false decide_true".splitOn " ").map (·.toName)).toArray.mapM fun s=>`(Lean.Parser.Tactic.simpLemma|$(Lean.mkIdent s):term);`(tactic|simp only [$(Array.append (l.map fun x=>⟨x.raw⟩) xs.getElems),*])
local macro_rules|`(tactic|mstop)=>`(tactic|simpa! only [qU])
local macro_rules|`(tactic|mstart)=>`(tactic|simpa! only [qU,kN])
local macro_rules|`(tactic|cutsat)=>`(tactic|simpa! only [qU,me])
local macro_rules|`(tactic|simp_all only [$xs,*])=>`(tactic|((try simpa! only [$xs,*]);repeat ((first|(with_reducible refine GT fun _ _=>?_)|(with_reducible refine ro.go (by assumption) ?_));(try simpa! only [$xs,*]))))
local macro_rules|`(tactic|mvcgen)=>`(tactic|simp_all only [kN,me])
local macro_rules|`(tactic|mexact)=>`(tactic|simp_all only [me])
local macro_rules|`(tactic|mleave)=>`(tactic|simp_all only [kN])
local macro_rules|`(tactic|cbv)=>`(tactic|simp_all only [true_and])
local macro_rules|`(tactic|mspec)=>`(tactic|(try ((with_reducible refine ro.go (by assumption) ?_);cbv)))
local macro_rules|`(tactic|mframe)=>`(tactic|(mspec;cbv))
local macro_rules|`(tactic|mpure)=>`(tactic|repeat (refine And.intro (by first | exact Pl ⋯ | exact Pj ⋯ | exact Pk ⋯ | exact mulOkL' ⋯ | exact Int.one_ne_zero | decide) ?_))
local macro_rules|`(tactic|simpa only [$xs,*])=>`(tactic|simpa! only [qU, $xs,*])
set_option backward.defeqAttrib.useBackward true
namespace Prg
open PySem L2 Ch
variable{fd:ip}{dV:aX}{f:Addr}
def top(i:Nat):Stmt:=PySem.Challenge.pw_slackchain_k81_whole_made_within_shares.main.body.getD i (.Pass ⟨0,0,0,0⟩)
set_option genInjectivity false in
structure jE where
 Tie:Addr
 Just:Addr
 Between:Addr
 Part:Addr
 Gap:Addr
 Joints:Addr
 Thing:Addr
 Scale:Addr
 Lid:Addr
 Step:Addr
 Book:Addr
 SMALL_LETTERS:aX
 LONGEST_NAME:aX
 ZERO:Addr
structure PartC(K:aW)(C:Addr):Prop where
 cls:Cls K C
 n1:mm K C "name"
 n2:mm K C "start"
 n3:mm K C "end"
 n4:mm K C "size"
 n5:mm K C "most"
 n6:mm K C "weight"
def IsPart(Ad:jE)(C:Addr):Prop:=C=Ad.Part
structure GapC(K:aW)(C:Addr):Prop where
 cls:Cls K C
 n1:mm K C "name"
 n2:mm K C "one"
 n3:mm K C "other"
 n4:mm K C "low"
 n5:mm K C "high"
def t5(Ad:jE)(C:Addr):Prop:=C=Ad.Gap
structure E6(K:aW)(C:Addr):Prop where
 cls:Cls K C
 n1:mm K C "leads"
def Cg(Ad:jE)(C:Addr):Prop:=C=Ad.Joints
structure Ej(K:aW)(C:Addr):Prop where
 cls:Cls K C
 n1:mm K C "parts_by_name"
 n2:mm K C "gaps_by_name"
 n3:mm K C "ways"
def o9(Ad:jE)(C:Addr):Prop:=C=Ad.Thing
structure Ek(K:aW)(C:Addr):Prop where
 cls:Cls K C
 n1:mm K C "bottom"
 n2:mm K C "factors"
def vK(Ad:jE)(C:Addr):Prop:=C=Ad.Scale
structure LidC(K:aW)(C:Addr):Prop where
 cls:Cls K C
 n1:mm K C "name"
 n2:mm K C "rest"
 n3:mm K C "weights"
 n4:mm K C "load"
 n5:mm K C "last_level"
def qo(Ad:jE)(C:Addr):Prop:=C=Ad.Lid
structure StepC(K:aW)(C:Addr):Prop where
 cls:Cls K C
 n1:mm K C "source"
 n2:mm K C "target"
 n3:mm K C "cost"
 n4:mm K C "whole"
 n5:mm K C "pair"
def Lr(Ad:jE)(C:Addr):Prop:=C=Ad.Step
variable{H:Hp}{a C:Addr}{xs:List V}
theorem gZ.put{K:aW}{x dx:Addr}{fs fs':List (Str × V)}(hx:H x=some (.ins C dx fs))(h:gZ K H a xs):gZ K (upd H x (.ins C dx fs')) a xs:=by
 rcases h with(h | ⟨o,h⟩) | h
 .show .inl (.inl (by rw[fF (nV h hx (by intro z;cases z))];show h))
 .show .inl (.inr ⟨o,by rw[fF (nV h hx (by intro z;cases z))];show h⟩)
 .show .inr h
def pX(n s e z m w:V):List (Str × V):=[("name",n),("start",s),("end",e),("size",z),("most",m),("weight",w)]
def uq(n s e l g:V):List (Str × V):=[("name",n),("one",s),("other",e),("low",l),("high",g)]
structure TieC(K:aW)(C:Addr):Prop where
 cls:Cls K C
 n1:mm K C "name"
 n2:mm K C "start"
 n3:mm K C "end"
 n4:mm K C "least"
 n5:mm K C "greatest"
def pe(Ad:jE)(C:Addr):Prop:=C=Ad.Just\/C=Ad.Between
def sA(H:Hp)(v:V)(C:Addr)(n s e l g:V):Prop:=∃ p dx,v=.ref p/\H p=some (.ins C dx (wC n s e l g))
variable{H':Hp}{v:V}
theorem sA.same{n s e l g:V}(S:dC H H')(h:sA H v C n s e l g):sA H' v C n s e l g:=by
 let(p,c,a,b):=h;show(p,c,a,S _ _ b)
structure BookC(K:aW)(C:Addr):Prop where
 cls:Cls K C
 n1:mm K C "by_name"
def sT(Ad:jE)(C:Addr):Prop:=C=Ad.Book
structure Txt(K:aW)(mg:Str->Option aX)(Ad:jE):Prop where
 Bec:mg "abs"=none
 BaT:mg "isinstance"=none
 BbF:mg "len"=none
 Bep:mg "int"=none
 Bem:mg "bool"=none
 BdK:mg "tuple"=none
 Beq:mg "str"=none
 Bb7:mg "range"=none
 Bd0:mg "list"=none
 Bev:mg "min"=none
 Bed:mg "sorted"=none
 Ber:mg "all"=none
 n_sum:mg "sum"=none
 n_dict:mg "dict"=none
 Ben:mg "zip"=none
 n_reversed:mg "reversed"=none
 n_set:mg "set"=none
 m_Tie:mg "Tie"=some (.ref Ad.Tie)
 m_Just:mg "Just"=some (.ref Ad.Just)
 m_Between:mg "Between"=some (.ref Ad.Between)
 Beu:mg "Part"=some (.ref Ad.Part)
 Bew:mg "Gap"=some (.ref Ad.Gap)
 Beo:mg "Joints"=some (.ref Ad.Joints)
 Bes:mg "Thing"=some (.ref Ad.Thing)
 Bet:mg "Scale"=some (.ref Ad.Scale)
 m_Lid:mg "Lid"=some (.ref Ad.Lid)
 m_Step:mg "Step"=some (.ref Ad.Step)
 m_Book:mg "Book"=some (.ref Ad.Book)
 BcN:mg "SMALL_LETTERS"=some Ad.SMALL_LETTERS
 BcO:RelV (.str "abcdefghijklmnopqrstuvwxyz") Ad.SMALL_LETTERS
 Bdb:mg "LONGEST_NAME"=some Ad.LONGEST_NAME
 Bdc:RelV (.int 8) Ad.LONGEST_NAME
 Bcp:mg "ZERO"=some (.ref Ad.ZERO)
 Bcq:RelV (.ref Ad.ZERO) (.ref Ad.ZERO)
 Bcr:∀ H:Hp,gZ K H Ad.ZERO [.int 0, .int 1]
 tie:∀ C,pe Ad C->TieC K C
 Bdd:∀ C,IsPart Ad C->PartC K C
 Bd3:∀ C,t5 Ad C->GapC K C
 Bcu:∀ C,Cg Ad C->E6 K C
 Bby:∀ C,o9 Ad C->Ej K C
 Bcv:∀ C,vK Ad C->Ek K C
 c_Lid:∀ C,qo Ad C->LidC K C
 c_Step:∀ C,Lr Ad C->StepC K C
 book:∀ C,sT Ad C->BookC K C
def A1(K:aW)(H:Hp)(e:PD ⊕ D)(x:V):Prop:=match e with
 | .inl p=>mV K H p x/\sI p
 | .inr c=>Rep K H c x/\szD c/\partB c=false
def CF(K:aW)(H:Hp)(e:GD ⊕ D)(x:V):Prop:=match e with
 | .inl g=>TV K H g.td x/\sC g.td
 | .inr c=>Rep K H c x/\szD c/\gapB c=false
def rn(K:aW)(Ad:jE)(H:Hp)(p:PD)(v:V):Prop:=∃ q dx vz vm,v=.ref q/\H q=some (.ins Ad.Part dx (pX (.str p.nm) (.str p.st) (.str p.en) vz vm (.int p.wt)))/\fO K H vz p.sz.1 p.sz.2/\fO K H vm p.mo.1 p.mo.2
def vd(K:aW)(Ad:jE)(H:Hp)(g:GD)(v:V):Prop:=∃ q dx vl vg,v=.ref q/\H q=some (.ins Ad.Gap dx (uq (.str g.nm) (.str g.st) (.str g.en) vl vg))/\fO K H vl g.lo.1 g.lo.2/\fO K H vg g.hi.1 g.hi.2
section
variable{Ad:jE}{x:V}{K:aW}
def isTI:HO->Bool
 | .ins _ _ _=>true
 | u=>isTF u
def nL(H H':Hp):Prop:=∀ b u,isTI u=true->H b=some u->H' b=some u
theorem nL.t(S:nL H H'):dH H H':=λb u t h=>S b u (by cases u <;> first | show t | (simp[isTF]at t)) h
theorem dC.i(S:dC H H'):nL H H':=λb u _ h=>S b u h
theorem A1.same{e:PD ⊕ D}(S:dC H H')(h:A1 K H e x):A1 K H' e x:=by
 match e,h with
 | .inl t,h=>show(h.1.sameT S.t,h.2)
 | .inr c,h=>show(h.1.same S,h.2)
theorem CF.same{e:GD ⊕ D}(S:dC H H')(h:CF K H e x):CF K H' e x:=by
 match e,h with
 | .inl t,h=>show(h.1.sameT S.t,h.2)
 | .inr c,h=>show(h.1.same S,h.2)
theorem rn.si{p:PD}(S:nL H H'):rn K Ad H p v->rn K Ad H' p v:=by rintro⟨q,c,a,b,d,e,g,f⟩;show(q,c,a,b,d,S _ _ rfl e,g.sameT S.t,f.sameT S.t)
theorem vd.si{g:GD}(S:nL H H'):vd K Ad H g v->vd K Ad H' g v:=by rintro⟨q,c,a,b,d,e,h,f⟩;show(q,c,a,b,d,S _ _ rfl e,h.sameT S.t,f.sameT S.t)
end
def JK(Ad:jE)(H0 H:Hp)(j d:Addr)(ls:List PD):Prop:=(∃ dx,H j=some (.ins Ad.Joints dx [("leads", .ref d)]))/\H0 d=none/\∃ kvs,H d=some (.dK kvs)/\kvs.length<=2*ls.length/\JD H0 H (mQ ls) kvs
variable{Ad:jE}{H0:Hp}{d:Addr}{ls:List PD}
theorem JK.same{j:Addr}(S:dC H H'):JK Ad H0 H j d ls->JK Ad H0 H' j d ls:=λζ=>by let((c,e),f,a,h,g,b):=ζ;show(⟨c,S _ _ e⟩,f,a,S _ _ h,g,b.same S)
def TK(K:aW)(Ad:jE)(H:Hp)(x:Addr)(ls:List PD)(gs:List GD):Prop:=∃ dx d1 d2 d3 k1 k2 k3,H x=some (.ins Ad.Thing dx [("parts_by_name", .ref d1),("gaps_by_name", .ref d2),("ways", .ref d3)])/\H d1=some (.dK k1)/\BG (·.nm) (rn K Ad H) ls k1/\H d2=some (.dK k2)/\BG (·.nm) (vd K Ad H) gs k2/\H d3=some (.dK k3)/\BG (·.nm) (tQ H ls) gs k3
variable{x:Addr}
theorem TK.same{K:aW}{gs:List GD}(S:dC H H'):TK K Ad H x ls gs->TK K Ad H' x ls gs:=by rintro⟨j,f,e,h,a,o,d,n,k,c,l,b,m,g⟩;show(j,f,e,h,a,o,d,S _ _ n,S _ _ k,c.mono λ_ _ z=>z.si (dC.i S),S _ _ l,b.mono λ_ _ z=>z.si (dC.i S),S _ _ m,g.mono λ_ _ z=>z.same S)
def oo(d:Addr)(H H':Hp):Prop:=∀ b u,b≠d->(∀ xs,u≠.lst xs)->H b=some u->H' b=some u
theorem Bf{α:Type}{f : α->Str}{ls l0:List α}{p : α}{n:Nat}(h:ls++[p]=l0.take n)(hn:(l0.map f).Nodup):f p∉ls.map f:=λa=>by
 have:=((List.take_sublist n l0).map f).nodup hn;rw[<- h,dy]at this;show(fD.mp this).2.2 _ a _ (by simp) rfl
theorem Pt(ht:Tree ls)(hn:(ls.map (·.nm)).Nodup)(i:Nat)(p:PD)(hp:ls[i]?=some p):¬ iX (ls.take i) p.st p.en:=λz=>ht p (aY hp) (z.sub λx a=>fQ.mpr ⟨gU a,by
 rw[decide_eq_true_iff];showλe=>Bf (f:=(·.nm)) (p:=p) (n:=i+1) (by rw[dX,hp];rfl) hn (by rw[<- e];show di.mpr ⟨x,a,rfl⟩)⟩)
def OV(K:aW)(Ad:jE)(H:Hp)(t:TD)(v:V):Prop:=∃ C vl vg,sA H v C (.str t.nm) (.str t.st) (.str t.en) vl vg/\pe Ad C/\BV K H t.lo vl/\BV K H t.hi vg
theorem OV.same{K:aW}{t:TD}(S:dC H H'):OV K Ad H t v->OV K Ad H' t v:=by rintro⟨C,vl,d,a,b,e,c⟩;show(C,vl,d,a.same S,b,e.sameT S.t,c.sameT S.t)
section
variable{p:Addr}{kvs:List (gD × V)}{ts:List TD}{K:aW}
def Sx(d:Addr)(H H':Hp):Prop:=∀ b u,b≠d->H b=some u->H' b=some u
theorem dC.sx(S:dC H H'):Sx d H H':=λb u _ h=>S b u h
theorem Sx.t(S:Sx d H H')(hd:H d=some (.dK kvs)):dH H H':=λb u t h=>S b u (λz=>by rw[z,hd]at h;cases h;simp[isTF]at t) h
theorem OV.sx{t:TD}(S:Sx d H H')(hd:H d=some (.dK kvs)):OV K Ad H t v->OV K Ad H' t v:=λζ=>by let(C,vl,g,(q,b,e,a),c,h,f):=ζ;show(C,vl,g,⟨q,b,e,S _ _ (λz=>by rw[z,hd]at a;cases a) a⟩,c,h.sameT (S.t hd),f.sameT (S.t hd))
def BK(K:aW)(Ad:jE)(H:Hp)(p d:Addr)(ts:List TD):Prop:=(∃ dx,H p=some (.ins Ad.Book dx [("by_name", .ref d)]))/\∃ kvs,H d=some (.dK kvs)/\BD (OV K Ad H) ts kvs
theorem BK.same(S:dC H H')(h:BK K Ad H p d ts):BK K Ad H' p d ts:=by
 let((b,e),a,c,f):=h;show(⟨b,S _ _ e⟩,a,S _ _ c,f.mono λ_ _ z=>z.same S)
theorem BK.sl{l:Addr}{zs:List V}(h:BK K Ad H p d ts)(hl:H l=some (.lst zs))(S:Sx l H H'):BK K Ad H' p d ts:=by
 let((a,i),g,c,n):=h;have j:dH H H':=λb u t h=>S b u (λz=>by rw[z,hl]at h;cases h;simp[isTF]at t) h;show(⟨a,S _ _ (λz=>by rw[z,hl]at i;cases i) i⟩,g,S _ _ (λz=>by rw[z,hl]at c;cases c) c,n.mono ?_);intro t v z_;let(C,vl,r,(q,a,e,f),k,m,o):=z_;show(C,vl,r,⟨q,a,e,S _ _ (λz=>by rw[z,hl]at f;cases f) f⟩,k,m.sameT j,o.sameT j)
end
def qA(Ad:jE)(H:Hp)(x:Addr)(b:Int)(fs:List Int):Prop:=∃ dx fl,H x=some (.ins Ad.Scale dx [("bottom", .int b),("factors", .ref fl)])/\H fl=some (.lst (fs.map V.int))/\qy b fs/\Mth.Sz 2000 b/\fs.length<=70
variable{b:Int}
theorem qA.same{fs:List Int}(S:dC H H'):qA Ad H x b fs->qA Ad H' x b fs:=by rintro⟨a,d,c,e,f⟩;show(a,d,S _ _ c,S _ _ e,f)
def sG(K:aW)(H:Hp)(s:SD)(x:V):Prop:=∃ b v,x=.ref b/\gZ K H b [.str s.nm,v]/\PV K H s v
variable{x:V}
theorem sG.sameT{K:aW}{s:SD}(S:dH H H'):sG K H s x->sG K H' s x:=by
 rintro⟨b,v,a,c,d⟩;show(b,v,a,c.sameT S,d.sameT S)
def tR(K:aW)(Ad:jE)(b:Int)(H:Hp)(s:SD)(x:V):Prop:=∃ p dx vc pr,x=.ref p/\H p=some (.ins Ad.Step dx [("source", .str s.src),("target", .str s.dst),("cost",vc),("whole", .int (s.c.1*b.fdiv s.c.2)),("pair", .ref pr)])/\fO K H vc s.c.1 s.c.2/\H pr=some (.tup [.str s.nm, .bl s.fw])
theorem tR.same{K:aW}{s:SD}(S:dC H H'):tR K Ad b H s x->tR K Ad b H' s x:=by
 rintro⟨p,c,a,g,d,e,h,f⟩;show(p,c,a,g,d,S _ _ e,h.same S,S _ _ f)
def qL(K:aW)(Ad:jE)(H:Hp)(s:jB)(x:V):Prop:=∃ p dx vc pr,x=.ref p/\H p=some (.ins Ad.Step dx [("source", .str s.src),("target", .str s.tgt),("cost",vc),("whole", .int s.wh),("pair", .ref pr)])/\fO K H vc s.cost.1 s.cost.2/\H pr=some (.tup [.str s.nm, .bl s.fw])
theorem qL.same{K:aW}{s:jB}(S:dC H H'):qL K Ad H s x->qL K Ad H' s x:=by
 rintro⟨p,b,a,f,c,d,g,e⟩;show(p,b,a,f,c,S _ _ d,g.same S,S _ _ e)
def RI(a:Int)(v:V):Prop:=v=.int a
def chV:Option Str->V
 | none=>.non
 | some f=>.str f
def RT(K:aW)(H0 H:Hp)(e:(Int × Int) × List jB)(v:V):Prop:=∃ p qv l xs,v=.ref p/\gZ K H p [qv, .ref l]/\fO K H qv e.1.1 e.1.2/\H l=some (.lst xs)/\fh (CV H) (e.2.map λs=>(s.nm,s.fw)) xs/\H0 l=none
variable{e:(Int × Int) × List jB}
theorem RT.same{K:aW}(S:dC H H'):RT K H0 H e v->RT K H0 H' e v:=by
 rintro⟨p,b,l,c,d,g,i,h,f,a⟩;show(p,b,l,c,d,g.same S,i.same S,S _ _ h,(f.mono λ_ _ z=>z.sameT S.t),a)
variable{o:HO}{kv:List (gD × V)}
theorem RT.putL{K:aW}(u:upd H a o=H')(h:H a=some (.dK kv)):RT K H0 H e v->RT K H0 H' e v:=by
 rintro⟨p,d,l,f,g,j,k,b,i,c⟩;have T:dH H H':=dH.put u h rfl;have n:l≠a:=λz=>by rw[z,h]at b;cases b
 show(p,d,l,f,g,j.sameT T,k.sameT T,by rw[<- u,fF n];show b,(i.mono λ_ _ z=>z.sameT T),c)
def mf(K:aW)(Ad:jE)(H:Hp)(e:iU)(v:V):Prop:=∃ q dx vr vt wd,v=.ref q/\H q=some (.ins Ad.Lid dx [("name", .str e.nm),("rest",vr),("weights", .ref wd),("load", .int e.load),("last_level",vt)])/\fO K H vr e.rest.1 e.rest.2/\fO K H vt e.last.1 e.last.2/\H wd=some (.dK (oR e.ws))
variable{e:iU}
theorem mf.same{K:aW}(S:dC H H'):mf K Ad H e v->mf K Ad H' e v:=by rintro⟨q,c,b,a,d,f,h,j,i,g⟩;show(q,c,b,a,d,f,S _ _ h,j.same S,i.same S,S _ _ g)
theorem mf.keep{K:aW}{q dq:Addr}{fs:List (Str × V)}(S:∀ b u,b≠q->H b=some u->H' b=some u)(hq:H q=some (.ins C dq fs))(hne:v≠.ref q):mf K Ad H e v->mf K Ad H' e v:=by
 rintro⟨g,i,f,d,j,c,k,m,l,a⟩;have T:dH H H':=λb u t h=>S b u (λz=>by rw[z,hq]at h;cases h;simp[isTF]at t) h;show(g,i,f,d,j,c,S _ _ (λz=>hne (by rw[c,z])) k,m.sameT T,l.sameT T,S _ _ (λz=>by rw[z,hq]at a;cases a) a)
theorem dC.cutN(S:dC H H')(hd:H d=none):dC H (cut d H'):=λb u h=>by
 rw[pC (λz=>by rw[z,hd]at h;cases h)];show S b u h
theorem dH.cutO(h:H d=some o)(ho:isTF o=false):dH H (cut d H):=λb u t a=>by
 rw[pC (λz=>by rw[z,h]at a;cases a;rw[ho]at t;cases t)];show a
theorem mf.notin{K:aW}{es:List iU}{u:HO}(hX:fh (mf K Ad H) es xs)(h:H a=some u)(hu:∀ dx fs,u≠.ins Ad.Lid dx fs):V.ref a∉xs:=λz=>by
 let(i,c):=dA z;let(e,_,q,dx,g,f,j,b,d,_):=hX.at_ c;have b:a=q:=by injection b
 rw[b,d]at h;show hu _ _ (eh h).symm
theorem mf.dict{K:aW}(S:∀ b u,b≠d->H b=some u->H' b=some u)(hd:H d=some (.dK kv))(hn:∀ wd,v=.ref wd->True)(h0:∀ q dx vr vt wd,H q=some (.ins Ad.Lid dx [("name", .str e.nm),("rest",vr),("weights", .ref wd),("load", .int e.load),("last_level",vt)])->v=.ref q->wd≠d):mf K Ad H e v->mf K Ad H' e v:=by
 rintro⟨f,dx,vr,vt,wd,c,a,j,i,g⟩;have T:dH H H':=λb u t h=>S b u (λz=>by rw[z,hd]at h;cases h;simp[isTF]at t) h;show(f,dx,vr,vt,wd,c,S _ _ (λz=>by rw[z,hd]at a;cases a) a,j.sameT T,i.sameT T,S _ _ (h0 _ _ _ _ _ a c) g)
def qK(K:aW)(H:Hp)(r:nB)(v:V):Prop:=∃ p vs t,v=.ref p/\gZ K H p [.str r.nm,vs, .ref t]/\fO K H vs r.sl.1 r.sl.2/\gZ K H t (match r.sp with | none=>[.str (il "most")] | some g=>[.str (il "gap"), .str g])
variable{r:nB}
theorem qK.sameT{K:aW}(S:dH H H'):qK K H r v->qK K H' r v:=by rintro⟨p,d,t,a,b,e,c⟩;show(p,d,t,a,b.sameT S,e.sameT S,c.sameT S)
def AN(r:nB):D:=.tup [.str r.nm,og r.sl, .tup (match r.sp with | none=>[.str (il "most")] | some g=>[.str (il "gap"), .str g])]
theorem qK.rep{K:aW}(h:qK K H r v):Rep K H (AN r) v:=by
 let(p,d,t,rfl,c,b,a):=h;have b:=fO.rep b;cases e:r.sp with
 | none=>
  rw[e]at a;unfold AN;rw[e];simp only[Rep,iJ];show(p,_,rfl,c,_,_,rfl,rfl,_,_,rfl,by simpa only[Rep,iJ,og]using b,_,_,rfl,⟨t,_,rfl,a,_,_,rfl,rfl,rfl⟩,rfl)
 | some g=>
  rw[e]at a;unfold AN;rw[e];simp only[Rep,iJ];show(p,_,rfl,c,_,_,rfl,rfl,_,_,rfl,by simpa only[Rep,iJ,og]using b,_,_,rfl,⟨t,_,rfl,a,_,_,rfl,rfl,_,_,rfl,rfl,rfl⟩,rfl)
def RF(K:aW)(H:Hp)(e:Int × Int)(v:V):Prop:=fO K H v e.1 e.2
def qx(K:aW)(H0 H:Hp)(tb:Tab)(td:Addr):Prop:=∃ kt,H td=some (.dK kt)/\DV (RT K H0 H) tb kt/\H0 td=none
variable{tb:Tab}
theorem qx.same{K:aW}{td:Addr}(S:dC H H'):qx K H0 H tb td->qx K H0 H' tb td:=by rintro⟨b,a,c,d⟩;show(b,S _ _ a,c.mono λ_ _ z=>z.same S,d)
variable{H1:Hp}
theorem RT.base{K:aW}{e:(Int × Int) × List jB}(S:dC H1 H0):RT K H0 H e v->RT K H1 H e v:=by rintro⟨p,b,l,c,d,g,i,h,f,a⟩;show(p,b,l,c,d,g,i,h,f,oq S a)
theorem qx.base{K:aW}{td:Addr}(S:dC H1 H0):qx K H0 H tb td->qx K H1 H tb td:=by rintro⟨b,a,c,d⟩;show(b,a,c.mono λ_ _ z=>z.base S,oq S d)
theorem Kd{K:aW}{s:SD}(h:tR K Ad b H s x):qL K Ad H (toS b s) x:=h
theorem Fe{K:aW}:∀{ss:List SD}{xs:List V},fh (tR K Ad b H) ss xs->fh (qL K Ad H) (ss.map (toS b)) xs
 | [],_,h=>h
 | s::ss,_,⟨x,r,e,h1,h2⟩=>⟨x,r,e,Kd h1,Fe h2⟩
structure xx(K:aW)(Ad:jE)(H:Hp)(ts:List TD)(sL:Addr):Prop where
 ex:∃ sx,fI K H sL sx/\fh (qL K Ad H) (nZ ts) sx
 b1:1<=oa ts
 bb:∀ s∈Ch.all ts,1<=s.c.2/\s.c.2∣oa ts
theorem xx.same{K:aW}{ts:List TD}{sL:Addr}(S:dC H H')(h:xx K Ad H ts sL):xx K Ad H' ts sL:=by
 let((e,a,b),d,c):=h;show(⟨e,a.same S,b.mono λ_ _ z=>z.same S⟩,d,c)
section
variable{P:fH}{mg:Str->Option aX}{w:fA}{K:aW}{base:Heap}
seal PE PA PS qg PT PW PG vq PI PO
local macro_rules|`(%[$xs,*|0])=>do let r:Lean.Term<-xs.getElems.foldrM (fun x (a:Lean.Term)=>`(Pm $x $a)) (<-`(oI));return r
local macro_rules|`(!$n:num)=>`(ig ix_U (pv $n) gW)
local macro_rules|`($k:num∘[$xs,*]∘$s)=>`(mr $(Lean.mkIdent `P) $(Lean.mkIdent `w) $(Lean.mkIdent `K) $(Lean.mkIdent `mg) $(Lean.mkIdent `base) (ou $(Lean.mkIdent `P) $(Lean.mkIdent `w)) $k $(Lean.mkIdent `f) $(Lean.mkIdent `fd) [$xs,*] $s)|`($k:num∘$n:str∘[$xs,*]∘$s)=>`(zi $(Lean.mkIdent `P) $(Lean.mkIdent `w) $(Lean.mkIdent `K) $(Lean.mkIdent `mg) $(Lean.mkIdent `base) $k $n [$xs,*] [] $s)|`($k:num∘$n:str∘($c)∘[$xs,*]∘$s)=>`(oY $(Lean.mkIdent `P) $(Lean.mkIdent `w) $(Lean.mkIdent `K) $(Lean.mkIdent `mg) $(Lean.mkIdent `base) $k $n $c [$xs,*] $s)|`($n:str∘$t:ident)=>`(mX $(Lean.mkIdent `K) $n $n $t $(Lean.mkIdent `dV) $(Lean.mkIdent `f) $(Lean.mkIdent `fd))|`($n:str∘$q:str∘$t:ident)=>`(mX $(Lean.mkIdent `K) $n $q $t $(Lean.mkIdent `dV) $(Lean.mkIdent `f) $(Lean.mkIdent `fd))
abbrev Dy:Stmt:=top 15
theorem vU:iY ["one","other","greater","lesser","rest"] ["one","other"] (iC Dy):=by bv_decide
def uW  : Sp:=λvs H Q E=>∃(a b:Int),vs=[.int a, .int b]/\Q (.int (Mth.g a b)) H
theorem OT(F:"common_divisor"∘Dy)(T:Txt K mg Ad)  : 1∘["one","other"]∘(uW):=by
 show F.okn vU (by subst_eqs) (λr A d s H o Q E p h=>?_)
 let(a,b,rfl,h):=h;have k:=p.units;show(_,(fi (gI 2 vU.nd (mL yR rfl T.Bec yp %[pv 0|0])) (fi (gI 3 vU.nd (mL yR rfl T.Bec yp %[pv 1|0])) (fi (xM dn (mC (sJ k) (pv 3) gW (kO _)) (fi (gI 4 vU.nd (dW mW (pv 2) (pv 3))) (fi (gI 2 vU.nd (pv 3)) (fT (gI 3 vU.nd (pv 4)))))) (fT (iO (pv 2)))))),?_)
 clear k;show gP _ _ _ [some (.int a),some (.int b),none,none,none] H;try mstop
 show(λm σ j=>∃(x y:Int)(z:Option V),σ=[some (.int a),some (.int b),some (.int x),some (.int y),z]/\j=H/\0<=x/\0<=y/\Mth.g x y=Mth.g a b/\y.toNat=m,⟨_,_,_,none,rfl,rfl,Mth.PF a,Mth.PF b,Mth.PH a b,rfl⟩,?_);intro m σ j z_;let(x,y,z,rfl,rfl,t,n,l,rfl):=z_;try mstop
 by_cases c:y=0
 .subst c;rw[if_neg (by simp)];have e:Mth.g a b=x:=by rw[<- l,Mth.Px];ac_nf
  rw[e]at h;show h
 .rw[if_pos (by simp[c])];have f:=Mth.fm (x:=x) (y:=y) ∅;show(_,λ_ _ q=>q,c,(x.fmod y).toNat,∅,y,x.fmod y,_,rfl,rfl,n,f.1,by rw[Mth.PB ∅];show l,rfl)
abbrev CK:Stmt:=top 16
theorem yv:iY ["one","other","shared","top","rest"] ["one","other"] (iC CK):=by bv_decide
def vM(K:aW):Sp:=λvs H Q E=>∃(x y:V)(a b c d:Int),vs=[x,y]/\fO K H x a b/\fO K H y c d/\Mth.Sz 4000 a/\Mth.Sz 4000 b/\Mth.Sz 4000 c/\Mth.Sz 4000 d/\1<=b/\1<=d/\Mth.g a b=1/\Mth.g c d=1/\∀ p H',dC H H'->H' p=some (.tup [.int (Mth.top (a*d+c*b) (b*d)), .int (Mth.bot (a*d+c*b) (b*d))])->Q (.ref p) H'
theorem Lm(F:"plus"∘CK)(T:Txt K mg Ad)(Bac:1∘"common_divisor"∘["one","other"]∘(uW)):2∘["one","other"]∘(vM K):=by
 show F.okn yv (by subst_eqs) (λO A m s H G Q E r h=>?_)
 let(x,y,a,b,c,d,rfl,h):=h;show(_,(fi (gI 2 yv.nd (Bac.ev r ⋯ rfl dB %[!0,!1|0])) (fi (gI 3 yv.nd (dW nF (dW nP (!0) (dW mG (!1) (pv 2))) (dW nP (!1) (dW mG (!0) (pv 2))))) (fi (gI 4 yv.nd (Bac.ev r ⋯ rfl dB %[pv 3,pv 2|0])) (fT (iO (lh %[dW mG (pv 3) (pv 4),dW nP (dW mG (!0) (pv 2)) (dW mG (!1) (pv 4))|0])))))),?_)
 let(j,e,N,B,R,l,J,C,U,D,k):=h;show gP _ _ _ [some x,some y,none,none,none] H;try mstop
 show kd j (kd e ?_);try mstop
 show(_,_,rfl,?_);try mstop
 have Y:=Mth.g_pos (a:=b) (b:=d) ∅;have W:=Mth.uN b d;have z:=Mth.uS b d;have u:Mth.Sz 4000 (Mth.g b d):=fj (by have:=Mth.g_le (a:=b) (b:=d) ∅;ac_nf:(Mth.g b d).natAbs<=d.natAbs) l;have n:lV (Mth.g b d):=mO ∅ u;have v:=B.fdiv W ∅;have V:=l.fdiv z ∅;show lO j (kd e ?_);try mstop
 show(n,jU N V,lO e (kd j ?_));try mstop
 show(n,jU R v,?_);show(_,_,rfl,?_);have o:=Mth.Pw J C U D (s:=Mth.g b d) rfl rfl rfl;generalize ht:a*d.fdiv (Mth.g b d)+c*b.fdiv (Mth.g b d)=t at o ⊢;have Z:=Mth.g_pos (a:=t) (b:=Mth.g b d) ∅;have M:=Mth.uS t (Mth.g b d);have L:Mth.Sz 4000 (Mth.g t (Mth.g b d)):=fj (by have:=Mth.g_le (a:=t) (b:=Mth.g b d) ∅;ac_nf:(Mth.g t (Mth.g b d)).natAbs<=(Mth.g b d).natAbs) u;have q:lV (Mth.g t (Mth.g b d)):=mO ∅ L;try mstop
 show(q,kd j ?_);try mstop
 show(n,kd e ?_);try mstop
 show(q,jU v (l.fdiv (jR M z) ∅),len2,?_);show xI λp X S I=>k p X S ?_;rw[I,o.1,o.2]
abbrev CN:Stmt:=top 17
theorem LH:iY ["one","other"] ["one","other"] (iC CN):=by bv_decide
def uO(K:aW):Sp:=λvs H Q E=>∃(x y:V)(a b c d:Int),vs=[x,y]/\fO K H x a b/\fO K H y c d/\Mth.Sz 4000 a/\Mth.Sz 4000 b/\Mth.Sz 4000 c/\Mth.Sz 4000 d/\1<=b/\1<=d/\Mth.g a b=1/\Mth.g c d=1/\∀ p H',dC H H'->H' p=some (.tup [.int (Mth.top (a*d-c*b) (b*d)), .int (Mth.bot (a*d-c*b) (b*d))])->Q (.ref p) H'
theorem LW(F:"minus"∘CN)(T:Txt K mg Ad)(Bbz:2∘"plus"∘["one","other"]∘(vM K)):3∘["one","other"]∘(uO K):=by
 show F.okn LH (by subst_eqs) (λC A e s H n Q E r h=>?_)
 let(x,y,a,b,c,d,rfl,h):=h;show(_,(fT (iO (Bbz.ev r ⋯ rfl dB %[pv 0,lh %[nG tT (!1),!1|0]|0]))),?_);let(G,g,v,i,D,l,q,j,I,m,k):=h;show mh _ _ [some x,some y] H;try mstop
 show lO g ?_;try mstop
 show kd g ?_;try mstop
 show(len2,?_);rename_i p u z H M S o;show(_,_,a,b, -c,d,rfl,G.same S,fO.of o,v,i,D.neg,l,q,j,I,by rw[Mth.g_neg];show m,λB L J t=>k B L (S.trans J) ?_);rw[t,Int.neg_mul, <- ka]
abbrev CM:Stmt:=top 18
theorem BJ:iY ["one","other","across","back"] ["one","other"] (iC CM):=by bv_decide
def yK(K:aW):Sp:=λvs H Q E=>∃(x y:V)(a b c d:Int),vs=[x,y]/\fO K H x a b/\fO K H y c d/\Mth.Sz 4000 a/\Mth.Sz 4000 b/\Mth.Sz 4000 c/\Mth.Sz 4000 d/\1<=b/\1<=d/\Mth.g a b=1/\Mth.g c d=1/\∀ p H',dC H H'->H' p=some (.tup [.int (Mth.top (a*c) (b*d)), .int (Mth.bot (a*c) (b*d))])->Q (.ref p) H'
theorem Ms(F:"times"∘CM)(T:Txt K mg Ad)(Bac:1∘"common_divisor"∘["one","other"]∘(uW)):2∘["one","other"]∘(yK K):=by
 show F.okn BJ (by subst_eqs) (λM A l s H D Q E q h=>?_)
 let(x,y,a,b,c,d,rfl,h):=h;show(_,(fi (gI 2 BJ.nd (Bac.ev q ⋯ rfl dB %[!0,!1|0])) (fi (gI 3 BJ.nd (Bac.ev q ⋯ rfl dB %[!1,!0|0])) (fT (iO (lh %[dW nP (dW mG (!0) (pv 2)) (dW mG (!1) (pv 3)),dW nP (dW mG (!0) (pv 3)) (dW mG (!1) (pv 2))|0]))))),?_)
 let(j,e,J,m,O,o,I,z,R,C,k):=h;show gP _ _ _ [some x,some y,none,none] H;try mstop
 show lO j (kd e ?_);try mstop
 show(_,_,rfl,?_);show lO e (kd j ?_);try mstop
 show(_,_,rfl,?_);try mstop
 have Y:=Mth.g_pos (a:=a) (b:=d) ∅;have X:=Mth.g_pos (a:=c) (b:=b) ∅;have V:=Mth.uN a d;have B:=Mth.uS a d;have N:=Mth.uN c b;have L:=Mth.uS c b;have U:Mth.Sz 4000 (Mth.g a d):=fj (by have:=Mth.g_le (a:=a) (b:=d) ∅;ac_nf:(Mth.g a d).natAbs<=d.natAbs) o;have vl:Mth.Sz 4000 (Mth.g c b):=fj (by have:=Mth.g_le (a:=c) (b:=b) ∅;ac_nf:(Mth.g c b).natAbs<=b.natAbs) m;have n:lV (Mth.g a d):=mO ∅ U;have r:lV (Mth.g c b):=mO ∅ vl;have t:=Mth.Py I z R C (u:=Mth.g a d) (v:=Mth.g c b) rfl rfl;show lO j ?_;try mstop
 show(n,lO e ?_);try mstop
 show(r,jU (J.fdiv V ∅) (O.fdiv N ∅),kd j ?_);try mstop
 show(r,kd e ?_);try mstop
 show(n,jU (m.fdiv L ∅) (o.fdiv B ∅),len2,?_);show xI λp W S G=>k p W S ?_;rw[G,t.1,t.2]
abbrev CJ:Stmt:=top 19
theorem K5:iY ["one","other"] ["one","other"] (iC CJ):=by bv_decide
def BQ(K:aW)(Ad:jE):Sp:=λvs H Q E=>∃(x y:V)(a b c d:Int),vs=[x,y]/\fO K H x a b/\fO K H y c d/\Mth.Sz 4000 a/\Mth.Sz 4000 b/\Mth.Sz 4000 c/\Mth.Sz 4000 d/\1<=b/\1<=d/\Mth.g a b=1/\Mth.g c d=1/\0<c/\∀ p H',dC H H'->H' p=some (.tup [.int (Mth.top (a*d) (b*c)), .int (Mth.bot (a*d) (b*c))])->Q (.ref p) H'
theorem Ku(F:"over"∘CJ)(T:Txt K mg Ad)(BbG:2∘"times"∘["one","other"]∘(yK K)):3∘["one","other"]∘(BQ K Ad):=by
 show F.okn K5 (by subst_eqs) (λC A g s H o Q E i h=>?_)
 let(x,y,a,b,c,d,rfl,h):=h;have j:=i.units;show(_,(fi (fX (mC (qE j) (!1) gW (kO _)) (fT ps_no)
   ki) (fi (fX (mC uH (!1) gW (kO _)) (fT (iO (BbG.ev i ⋯ rfl dB %[pv 0,lh %[nG tT (!1),nG tT (!1)|0]|0])))
   ki) (fT (iO (BbG.ev i ⋯ rfl dB %[pv 0,lh %[!1,!1|0]|0]))))),?_)
 clear j;let(G,e,v,l,D,m,r,M,I,n,N,k):=h;show gP _ _ _ [some x,some y] H;try mstop
 show lO e ?_;try mstop
 rw[if_neg (by simp;ac_nf)];show lO e ?_;try mstop
 rw[if_neg (by simp;ac_nf)];show kd e ?_;try mstop
 show lO e ?_;try mstop
 show(len2,?_);rename_i p u z H O S q;show(_,_,a,b,d,c,rfl,G.same S,fO.of q,v,l,m,D,r,∅,I,by rw[Mth.Pq];show n,λB L J t=>k B L (S.trans J) t)
abbrev CL:Stmt:=top 20
theorem LG:iY ["one","other"] ["one","other"] (iC CL):=by bv_decide
def tX(K:aW):Sp:=λvs H Q E=>∃(x y:V)(a b c d:Int),vs=[x,y]/\fO K H x a b/\fO K H y c d/\Mth.Sz 4000 a/\Mth.Sz 4000 b/\Mth.Sz 4000 c/\Mth.Sz 4000 d/\Q (.bl (decide (a*d<c*b))) H
theorem Mr(F:"under"∘CL)(T:Txt K mg Ad)  : 1∘["one","other"]∘(tX K):=by
 show F.okn LG (by subst_eqs) (λo A e s H m Q E q h=>?_)
 let(x,y,a,b,c,d,rfl,h):=h;show(_,(fT (iO (pP uH (dW nP (!0) (!1)) (dW nP (!1) (!0)) (kO _)))),?_);let(i,g,n,j,p,l,k):=h;show mh _ _ [some x,some y] H;cbv;show lO i (kd g ?_);cbv;show(jU n l,lO g (kd i ?_));cbv;show(jU p j,k)
abbrev Dl:Stmt:=top 26
theorem Nh:iY ["thing"] ["thing"] (iC Dl):=by bv_decide
def yX(K:aW):Sp:=λvs H Q E=>∃(z:Str),vs=[.str z]/\kb z=true/\∀ H',dC H H'->Q (.bl true) H'
theorem MX(F:"is_name"∘Dl)(T:Txt K mg Ad)  : 1∘["thing"]∘(yX K):=by
 show F.okn Nh (by subst_eqs) (λu A d s H r Q E G h=>?_)
 let(z,rfl,h):=h;show(_,(fi (fX (oH (mR (mL vT rfl T.BaT vQ %[pv 0,vH (v:=.ty "str") rfl T.Beq J2 rfl|0]))) (fT (iO ja))
   ki) (fi (fX (PW.pt (kF (mC uH (mL oK rfl T.BbF oi %[pv 0|0]) gW (kO _)) (pM (mC xE (mL oK rfl T.BbF oi %[pv 0|0]) (qP (v:=.int 8) rfl T.Bdb T.Bdc) (kO _))))) (fT (iO ja))
   ki) (fT (iO (mL (Mx rfl) rfl T.Ber Lp %[qM (qG (own:=["sign"]) (cs:=[]) rfl (Kp (pv 0)) (λ_ _ _ _=>(iV 0 (show[("sign" : Str)].Nodup by decide))) (λ_ _ _ _=>qj) (λ_ _ _ _=>(pP (JG (K:=K) rfl) (pv 0) (qP (v:=.str "abcdefghijklmnopqrstuvwxyz") rfl T.BcN T.BcO) (by with_unfolding_all rfl))) (o7 rfl) ⋯ rfl ⋯ hcs0)|0]))))),?_)
 let(b,k):=h;show gP _ _ _ [some (.str z)] H;cbv;have B:=AV b;have q:z.length<=sizeLine:=fG B ⋯;unfold kb at b;simp only[gr,decide_eq_true_eq]at b;let((J,M),a):=b
 mframe;show(q,?_);cbv;rw[if_neg (by simp;ac_nf)];cbv;show(q,?_);cbv;rw[if_neg (by simp;ac_nf)];cbv;cbv;simpa only[oU,xj];show(λi m l j=>j=H/\i<=z.cps.size/\m=z.cps.size-i/\l=(z.cps.toList.take i).map λc=>V.bl (rg c),⟨_,rfl,dG _,rfl,by simp⟩,?_);rintro i m l j ⟨rfl,L,rfl,rfl⟩;have C:z.cps.size=z.length:=rfl;show(by simp;ac_nf,?_);by_cases g:i<z.cps.size
 .show .inr ⟨g,?_⟩;rintro x n ⟨rfl,c,t,rfl⟩;simpa only[dD,dF,mw,fP,zV,M5];show(_,jf g (ik i),g,rfl,?_);have e:z.cps.toList[i]?=some c:=by simpa using t
  rw[dX,e];simp
 .have o:i=z.cps.size:=by ac_nf
  show .inl ⟨o,?_⟩;subst o;rw[de (by simp)];rename_i p D I j n S y;show(p,z.cps.toList.map rg,rfl,fI.of (by rw[y,ie];rfl),?_);have:=k n S;simpa[List.all_map,a]using this
abbrev C7:Stmt:=top 27
theorem Nx:iY ["thing"] ["thing"] (iC C7):=by bv_decide
def Cu(K:aW):Sp:=λvs H Q E=>∃(i:Int),vs=[.int i]/\Q (.bl true) H
theorem NK(F:"is_whole"∘C7)(T:Txt K mg Ad)  : 1∘["thing"]∘(Cu K):=by
 show F.okn Nx (by subst_eqs) (λb A a s H c Q E d h=>?_)
 let(i,rfl,h):=h;show(_,(fT (iO (qN (mL vT rfl T.BaT vQ %[pv 0,vH (v:=.ty "int") rfl T.Bep Ln rfl|0]) (sP (yu (mL vT rfl T.BaT vQ %[pv 0,vH (v:=.ty "bool") rfl T.Bem KU rfl|0])))))),?_);show mh _ _ [some (.int i)] H;cbv;show h
abbrev DR:Stmt:=top 28
theorem ON:iY ["thing"] ["thing"] (iC DR):=by bv_decide
def Cz(K:aW):Sp:=λvs H Q E=>∃(x:V)(a b:Int),vs=[x]/\fO K H x a b/\1<=b/\Mth.g a b=1/\Q (.bl true) H
theorem OC(F:"is_fraction"∘DR)(T:Txt K mg Ad)(Bba:1∘"is_whole"∘["thing"]∘(Cu K))(Bac:1∘"common_divisor"∘["one","other"]∘(uW)):2∘["thing"]∘(Cz K):=by
 show F.okn ON (by subst_eqs) (λl A e s H i Q E d h=>?_)
 let(x,a,b,rfl,h):=h;have g:=d.units;show(_,(fi (fX (PW.pt (kF (oH (mR (mL vT rfl T.BaT vQ %[pv 0,vH (v:=.ty "tuple") rfl T.BdK BZ rfl|0]))) (pM (mC (sJ g) (mL oK rfl T.BbF oi %[pv 0|0]) gW (kO _))))) (fT (iO ja))
   ki) (fi (fX (PW.pt (kF (oH (mR (Bba.ev d ⋯ rfl dB %[!0|0]))) (pM (oH (mR (Bba.ev d ⋯ rfl dB %[!0|0])))))) (fT (iO ja))
   ki) (fT (iO (qN (pP EY (!0) gW (kO _)) (sP (pP (qE g) (Bac.ev d ⋯ rfl dB %[!0,!0|0]) gW (kO _)))))))),?_)
 clear g;let((p,rfl,c),m,j,k):=h;show gP _ _ _ [some (.ref p)] H;cbv;show(_, .inr ⟨rfl,_,c⟩,?_)
 mframe;show(_, .inr c,?_);simpa only[dQ,fV]
 (rw[if_neg (by simp)])
 cbv;show uo c ?_;show(a,rfl,?_);cbv;show sk c ?_;show(b,rfl,?_);cbv;show sk c ?_;cbv;rw[if_pos (by simpa using m)];cbv;show uo c (sk c ?_);show(_,_,rfl,?_);cbv;simpa[j]using k
abbrev C6:Stmt:=top 29
theorem Ny:iY ["thing"] ["thing"] (iC C6):=by bv_decide
def Hx(K:aW):Sp:=λvs H Q E=>∃(x:V)(a b:Int),vs=[x]/\fO K H x a b/\1<=b/\Mth.g a b=1/\Q (.bl true) H
theorem NL(F:"is_bound"∘C6)(T:Txt K mg Ad)(Baw:2∘"is_fraction"∘["thing"]∘(Cz K)):3∘["thing"]∘(Hx K):=by
 show F.okn Ny (by subst_eqs) (λj A c s H e Q E i h=>?_)
 let(x,a,b,rfl,h):=h;show(_,(fT (iO (wY (pP sS (pv 0) oQ (kO _)) (sP (Baw.ev i ⋯ rfl dB %[pv 0|0]))))),?_);let(d,l,g,k):=h;show mh _ _ [some x] H;cbv;have m:x≠.non:=by
  let(p,rfl,_):=d;intro z;cases z
 rw[if_neg (by simpa using m)];cbv;show(x,a,b,rfl,d,l,g,k)
abbrev Df:Stmt:=top 30
theorem Oq:iY ["one","other"] ["one","other"] (iC Df):=by bv_decide
def Cq(K:aW):Sp:=λvs H Q E=>∃(z w:Str),vs=[.str z, .str w]/\kb z=true/\kb w=true/\z≠w/\∀ H',dC H H'->Q (.bl true) H'
theorem Of(F:"are_faces"∘Df)(T:Txt K mg Ad)(BaS:1∘"is_name"∘["thing"]∘(yX K)):2∘["one","other"]∘(Cq K):=by
 show F.okn Oq (by subst_eqs) (λg A a s H d Q E b h=>?_)
 let(z,w,rfl,h):=h;have c:=b.units;show(_,(fT (iO (qN (BaS.ev b ⋯ rfl dB %[pv 0|0]) (qN (BaS.ev b ⋯ rfl dB %[pv 1|0]) (sP (pP (sJ c) (pv 0) (pv 1) (kO _))))))),?_);clear c;let(j,e,i,k):=h;show mh _ _ [some (.str z),some (.str w)] H;cbv;show(z,rfl,j,λo n=>?_);cbv;show(w,rfl,e,λm l=>?_);cbv;have:=k m (n.trans l);simpa[i]using this
abbrev DI:Stmt:=top 31
theorem NT:iY ["least","greatest"] ["least","greatest"] (iC DI):=by bv_decide
def Io(K:aW):Sp:=λvs H Q E=>∃(x y:V)(a b:Int × Int),vs=[x,y]/\fO K H x a.1 a.2/\fO K H y b.1 b.2/\FOk 1200 a/\FOk 1200 b/\¬ b.1*a.2<a.1*b.2/\Q (.bl true) H
theorem Oa(F:"are_bounds"∘DI)(T:Txt K mg Ad)(Bcj:3∘"is_bound"∘["thing"]∘(Hx K))(Bak:1∘"under"∘["one","other"]∘(tX K)):4∘["least","greatest"]∘(Io K):=by
 show F.okn NT (by subst_eqs) (λo A g s H l Q E i h=>?_)
 let(x,y,a,b,rfl,h):=h;show(_,(fi (fX (PW.pt (kF (oH (mR (Bcj.ev i ⋯ rfl dB %[pv 0|0]))) (pM (oH (mR (Bcj.ev i ⋯ rfl dB %[pv 1|0])))))) (fT (iO ja))
   ki) (fi (fX (PW.pt (kF (mC sS (pv 0) oQ (kO _)) (pM (mC sS (pv 1) oQ (kO _))))) (fT (iO ja))
   ki) (fT (iO (yu (Bak.ev i ⋯ rfl dB %[pv 1,pv 0|0])))))),?_)
 let(j,e,c,d,m,k):=h;show gP _ _ _ [some x,some y] H;cbv;show(x,_,_,rfl,j,c.b1,c.g1,?_);cbv;show(y,_,_,rfl,e,d.b1,d.g1,?_);cbv;have q:x≠.non:=by
  let(p,rfl,_):=j;intro z;cases z
 have n:y≠.non:=by
  let(p,rfl,_):=e;intro z;cases z
 rw[if_neg (by simpa using q),if_neg (by simpa using n)];cbv;cbv;show(y,x,_,_,_,_,rfl,e,j,d.s1.mono ⋯,d.s2.mono ⋯,c.s1.mono ⋯,c.s2.mono ⋯,?_);cbv;simpa[m]using k
abbrev CS:Stmt:=top 32
theorem LR:iY ["thing"] ["thing"] (iC CS):=by bv_decide
def B7(K:aW):Sp:=λvs H Q E=>∃(x:V)(g:GD),vs=[x]/\TV K H g.td x/\sC g.td/\∀ H',dC H H'->Q (.bl true) H'
theorem MF(F:"is_tie"∘CS)(T:Txt K mg Ad)(BaS:1∘"is_name"∘["thing"]∘(yX K))(Bbc:2∘"are_faces"∘["one","other"]∘(Cq K))(Bb8:4∘"are_bounds"∘["least","greatest"]∘(Io K)):5∘["thing"]∘(B7 K):=by
 show F.okn LR (by subst_eqs) (λr A j s H q Q E e h=>?_)
 let(x,g,rfl,h):=h;have o:=e.units;show(_,(fi (fX (PW.pt (kF (oH (mR (mL vT rfl T.BaT vQ %[pv 0,vH (v:=.ty "tuple") rfl T.BdK BZ rfl|0]))) (pM (mC (sJ o) (mL oK rfl T.BbF oi %[pv 0|0]) gW (kO _))))) (fT (iO ja))
   ki) (fT (iO (qN (BaS.ev e ⋯ rfl dB %[!0|0]) (qN (Bbc.ev e ⋯ rfl dB %[!0,!0|0]) (sP (Bb8.ev e ⋯ rfl dB %[!0,!0|0]))))))),?_)
 clear o;let((a,vl,p,rfl,c,l,m),d,k):=h;replace l:fO K H vl g.lo.1 g.lo.2:=l;replace m:fO K H p g.hi.1 g.hi.2:=m;show gP _ _ _ [some (.ref a)] H;cbv;show(_, .inr ⟨rfl,_,c⟩,?_)
 mframe;show(_, .inr c,?_);simpa only[dQ,fV]
 (rw[if_neg (by simp)])
 cbv;show iK (i:=0) c rfl ?_;show(g.nm,rfl,d.n1,λy n=>?_);cbv;show iK (i:=1) (c.same n) rfl ?_;show iK (i:=2) (c.same n) rfl ?_;show(g.st,g.en,rfl,d.n2,d.n3,d.ne,λu t=>?_);cbv;have b:=n.trans t;show iK (i:=3) (c.same b) rfl ?_;show iK (i:=4) (c.same b) rfl ?_;show(vl,p,g.lo,g.hi,rfl,l.same b,m.same b,d.lo _ rfl,d.hi _ rfl,?_,k u b);have this : decide (g.hi.1*g.lo.2<g.lo.1*g.hi.2)=false:=d.le;simpa using this
abbrev Ds:Stmt:=inClass (top 70) 0
theorem O4:iY ["self","row"] ["self","row"] (iC Ds):=by bv_decide
def Ic(K:aW):Sp:=λvs H Q E=>∃(x C dx a:Addr)(n st en z m wt:V),vs=[.ref x, .ref a]/\H x=some (.ins C dx [])/\PartC K C/\gZ K H a [n,st,en,z,m,wt]/\∀ H',H' x=some (.ins C dx (pX n st en z m wt))->(∀ b,b≠x->H' b=H b)->Q .non H'
theorem OQ(F:"__init__"∘"Part.__init__"∘Ds)(T:Txt K mg Ad)  : 1∘["self","row"]∘(Ic K):=by
 show F.okn O4 (by subst_eqs) (λU A u s H O Q E Y h=>?_)
 let(x,C,d,a,n,g,j,z,m,v,rfl,h):=h;show(_,(fi (mE (pv 0) (!1) rfl) (fi (mE (pv 0) (!1) rfl) (fi (mE (pv 0) (!1) rfl) (fi (mE (pv 0) (!1) rfl) (fi (mE (pv 0) (!1) rfl) (fT (mE (pv 0) (!1) rfl))))))),?_)
 let(B,e,t,k):=h;show gP _ _ _ [some (.ref x),some (.ref a)] H;mexact;show iK (i:=0) t rfl ?_;mexact;show(x,C,d,_,rfl,B,e.cls,e.n1,by simp,?_);have l:=gZ.put (fs':=jL "name" n []) B t;generalize u0:upd H x _=H1 at l ⊢;mexact;have D:H1 x=some (.ins C d [("name",n)]):=by rw[<- u0];show jo.trans rfl
 have M:∀ b,b≠x->H1 b=H b:=λb c=>by rw[<- u0,fF c]
 mexact;show iK (i:=1) l rfl ?_;mexact;show(x,C,d,_,rfl,D,e.cls,e.n2,by simp,?_);have p:=gZ.put (fs':=jL "start" g [("name",n)]) D l;generalize u1:upd H1 x _=H2 at p ⊢;mexact;have G:H2 x=some (.ins C d [("name",n),("start",g)]):=by rw[<- u1];show jo.trans rfl
 have S:∀ b,b≠x->H2 b=H1 b:=λb c=>by rw[<- u1,fF c]
 mexact;show iK (i:=2) p rfl ?_;mexact;show(x,C,d,_,rfl,G,e.cls,e.n3,by simp,?_);have o:=gZ.put (fs':=jL "end" j [("name",n),("start",g)]) G p;generalize u2:upd H2 x _=H3 at o ⊢;mexact;have J:H3 x=some (.ins C d [("name",n),("start",g),("end",j)]):=by rw[<- u2];show jo.trans rfl
 have V:∀ b,b≠x->H3 b=H2 b:=λb c=>by rw[<- u2,fF c]
 mexact;show iK (i:=3) o rfl ?_;mexact;show(x,C,d,_,rfl,J,e.cls,e.n4,by simp,?_);have q:=gZ.put (fs':=jL "size" z [("name",n),("start",g),("end",j)]) J o;generalize u3:upd H3 x _=H4 at q ⊢;mexact;have L:H4 x=some (.ins C d [("name",n),("start",g),("end",j),("size",z)]):=by rw[<- u3];show jo.trans rfl
 have N:∀ b,b≠x->H4 b=H3 b:=λb c=>by rw[<- u3,fF c]
 mexact;show iK (i:=4) q rfl ?_;mexact;show(x,C,d,_,rfl,L,e.cls,e.n5,by simp,?_);have r:=gZ.put (fs':=jL "most" m [("name",n),("start",g),("end",j),("size",z)]) L q;generalize u4:upd H4 x _=H5 at r ⊢;mexact;have I:H5 x=some (.ins C d [("name",n),("start",g),("end",j),("size",z),("most",m)]):=by rw[<- u4];show jo.trans rfl
 have W:∀ b,b≠x->H5 b=H4 b:=λb c=>by rw[<- u4,fF c]
 mexact;show iK (i:=5) r rfl ?_;mexact;show(x,C,d,_,rfl,I,e.cls,e.n6,by simp,?_);have y:=gZ.put (fs':=jL "weight" v [("name",n),("start",g),("end",j),("size",z),("most",m)]) I r;generalize u5:upd H5 x _=H6 at y ⊢;mexact;have X:H6 x=some (.ins C d [("name",n),("start",g),("end",j),("size",z),("most",m),("weight",v)]):=by rw[<- u5];show jo.trans rfl
 have R:∀ b,b≠x->H6 b=H5 b:=λb c=>by rw[<- u5,fF c]
 mexact;show k H6 X λb c=>by rw[R b c,W b c,N b c,V b c,S b c,M b c]
abbrev DH:Stmt:=inClass (top 70) 1
theorem NV:iY ["self"] ["self"] (iC DH):=by bv_decide
def Ip(K:aW)(Ad:jE):Sp:=λvs H Q E=>∃(p dx:Addr)(n st en z m wt:V),vs=[.ref p]/\H p=some (.ins Ad.Part dx (pX n st en z m wt))/\∀ q H',dC H H'->H' q=some (.tup [n,st,en,z,m,wt])->Q (.ref q) H'
theorem Od(F:"plain"∘"Part.plain"∘DH)(T:Txt K mg Ad)  : 1∘["self"]∘(Ip K Ad):=by
 show F.okn NV (by subst_eqs) (λo A d s H l Q E t h=>?_)
 let(p,b,n,g,j,z,m,i,rfl,h):=h;show(_,(fT (iO (lh %[iP (pv 0) rfl,iP (pv 0) rfl,iP (pv 0) rfl,iP (pv 0) rfl,iP (pv 0) rfl,iP (pv 0) rfl|0]))),?_);let(c,k):=h;have a:=T.Bdd Ad.Part rfl;show mh _ _ [some (.ref p)] H;mleave;show(p,_,b,_,n,rfl,c,a.cls,a.n1,rfl,?_);show(p,_,b,_,g,rfl,c,a.cls,a.n2,rfl,?_);show(p,_,b,_,j,rfl,c,a.cls,a.n3,rfl,?_);show(p,_,b,_,z,rfl,c,a.cls,a.n4,rfl,?_);show(p,_,b,_,m,rfl,c,a.cls,a.n5,rfl,?_);show(p,_,b,_,i,rfl,c,a.cls,a.n6,rfl,?_);mleave;show(by show 6<=sizeLine;decide,?_);show xI λq r S e=>k q r S e
abbrev Do:Stmt:=inClass (top 71) 0
theorem OL:iY ["self","row"] ["self","row"] (iC Do):=by bv_decide
def HV(K:aW):Sp:=λvs H Q E=>∃(x C dx a:Addr)(n st en l g:V),vs=[.ref x, .ref a]/\H x=some (.ins C dx [])/\GapC K C/\gZ K H a [n,st,en,l,g]/\∀ H',H' x=some (.ins C dx (uq n st en l g))->(∀ b,b≠x->H' b=H b)->Q .non H'
theorem Pc(F:"__init__"∘"Gap.__init__"∘Do)(T:Txt K mg Ad)  : 1∘["self","row"]∘(HV K):=by
 show F.okn OL (by subst_eqs) (λO A u s H L Q E U h=>?_)
 let(x,C,d,a,n,j,r,l,g,rfl,h):=h;show(_,(fi (mE (pv 0) (!1) rfl) (fi (mE (pv 0) (!1) rfl) (fi (mE (pv 0) (!1) rfl) (fi (mE (pv 0) (!1) rfl) (fT (mE (pv 0) (!1) rfl)))))),?_)
 let(y,e,t,k):=h;show gP _ _ _ [some (.ref x),some (.ref a)] H;mexact;show iK (i:=0) t rfl ?_;mexact;show(x,C,d,_,rfl,y,e.cls,e.n1,by simp,?_);have m:=gZ.put (fs':=jL "name" n []) y t;generalize u0:upd H x _=H1 at m ⊢;mexact;have z:H1 x=some (.ins C d [("name",n)]):=by rw[<- u0];show jo.trans rfl
 have I:∀ b,b≠x->H1 b=H b:=λb c=>by rw[<- u0,fF c]
 mexact;show iK (i:=1) m rfl ?_;mexact;show(x,C,d,_,rfl,z,e.cls,e.n2,by simp,?_);have p:=gZ.put (fs':=jL "one" j [("name",n)]) z m;generalize u1:upd H1 x _=H2 at p ⊢;mexact;have B:H2 x=some (.ins C d [("name",n),("one",j)]):=by rw[<- u1];show jo.trans rfl
 have M:∀ b,b≠x->H2 b=H1 b:=λb c=>by rw[<- u1,fF c]
 mexact;show iK (i:=2) p rfl ?_;mexact;show(x,C,d,_,rfl,B,e.cls,e.n3,by simp,?_);have o:=gZ.put (fs':=jL "other" r [("name",n),("one",j)]) B p;generalize u2:upd H2 x _=H3 at o ⊢;mexact;have D:H3 x=some (.ins C d [("name",n),("one",j),("other",r)]):=by rw[<- u2];show jo.trans rfl
 have R:∀ b,b≠x->H3 b=H2 b:=λb c=>by rw[<- u2,fF c]
 mexact;show iK (i:=3) o rfl ?_;mexact;show(x,C,d,_,rfl,D,e.cls,e.n4,by simp,?_);have q:=gZ.put (fs':=jL "low" l [("name",n),("one",j),("other",r)]) D o;generalize u3:upd H3 x _=H4 at q ⊢;mexact;have G:H4 x=some (.ins C d [("name",n),("one",j),("other",r),("low",l)]):=by rw[<- u3];show jo.trans rfl
 have J:∀ b,b≠x->H4 b=H3 b:=λb c=>by rw[<- u3,fF c]
 mexact;show iK (i:=4) q rfl ?_;mexact;show(x,C,d,_,rfl,G,e.cls,e.n5,by simp,?_);have v:=gZ.put (fs':=jL "high" g [("name",n),("one",j),("other",r),("low",l)]) G q;generalize u4:upd H4 x _=H5 at v ⊢;mexact;have N:H5 x=some (.ins C d [("name",n),("one",j),("other",r),("low",l),("high",g)]):=by rw[<- u4];show jo.trans rfl
 have S:∀ b,b≠x->H5 b=H4 b:=λb c=>by rw[<- u4,fF c]
 mexact;show k H5 N λb c=>by rw[S b c,J b c,R b c,M b c,I b c]
abbrev De:Stmt:=inClass (top 71) 1
theorem Ot:iY ["self"] ["self"] (iC De):=by bv_decide
def Hl(K:aW)(Ad:jE):Sp:=λvs H Q E=>∃(p dx:Addr)(n st en l g:V),vs=[.ref p]/\H p=some (.ins Ad.Gap dx (uq n st en l g))/\∀ q H',dC H H'->H' q=some (.tup [n,st,en,l,g])->Q (.ref q) H'
theorem Oi(F:"plain"∘"Gap.plain"∘De)(T:Txt K mg Ad)  : 1∘["self"]∘(Hl K Ad):=by
 show F.okn Ot (by subst_eqs) (λo A d s H m Q E t h=>?_)
 let(p,b,n,i,j,l,g,rfl,h):=h;show(_,(fT (iO (lh %[iP (pv 0) rfl,iP (pv 0) rfl,iP (pv 0) rfl,iP (pv 0) rfl,iP (pv 0) rfl|0]))),?_);let(c,k):=h;have a:=T.Bd3 Ad.Gap rfl;show mh _ _ [some (.ref p)] H;mleave;show(p,_,b,_,n,rfl,c,a.cls,a.n1,rfl,?_);show(p,_,b,_,i,rfl,c,a.cls,a.n2,rfl,?_);show(p,_,b,_,j,rfl,c,a.cls,a.n3,rfl,?_);show(p,_,b,_,l,rfl,c,a.cls,a.n4,rfl,?_);show(p,_,b,_,g,rfl,c,a.cls,a.n5,rfl,?_);mleave;show(by show 5<=sizeLine;decide,?_);show xI λq r S e=>k q r S e
abbrev Dk:Stmt:=top 68
theorem Ng:iY ["thing"] ["thing"] (iC Dk):=by bv_decide
def Ha(K:aW):Sp:=λvs H Q E=>∃(x:V)(p:PD),vs=[x]/\mV K H p x/\sI p/\∀ H',dC H H'->Q (.bl true) H'
theorem MW(F:"is_part"∘Dk)(T:Txt K mg Ad)(BaS:1∘"is_name"∘["thing"]∘(yX K))(Bbc:2∘"are_faces"∘["one","other"]∘(Cq K))(Baw:2∘"is_fraction"∘["thing"]∘(Cz K))(Bba:1∘"is_whole"∘["thing"]∘(Cu K))(Bak:1∘"under"∘["one","other"]∘(tX K)):5∘["thing"]∘(Ha K):=by
 show F.okn Ng (by subst_eqs) (λt A g s H r Q E e h=>?_)
 let(x,p,rfl,h):=h;have l:=e.units;show(_,(fi (fX (PW.pt (kF (oH (mR (mL vT rfl T.BaT vQ %[pv 0,vH (v:=.ty "tuple") rfl T.BdK BZ rfl|0]))) (pM (mC (sJ l) (mL oK rfl T.BbF oi %[pv 0|0]) gW (kO _))))) (fT (iO ja))
   ki) (fi (fX (PW.pt (kF (oH (mR (BaS.ev e ⋯ rfl dB %[!0|0]))) (pM (oH (mR (Bbc.ev e ⋯ rfl dB %[!0,!0|0])))))) (fT (iO ja))
   ki) (fi (fX (PW.pt (kF (oH (mR (Baw.ev e ⋯ rfl dB %[!0|0]))) (kF (oH (mR (Baw.ev e ⋯ rfl dB %[!0|0]))) (pM (oH (mR (Bba.ev e ⋯ rfl dB %[!0|0]))))))) (fT (iO ja))
   ki) (fT (iO (qN (yu (Bak.ev e ⋯ rfl dB %[!0,qP (v:=.ref _) rfl T.Bcp T.Bcq|0])) (sP (pP EY (!0) gW (kO _))))))))),?_)
 clear l;let((a,q,n,rfl,d,u,o),c,k):=h;show gP _ _ _ [some (.ref a)] H;cbv;show(_, .inr ⟨rfl,_,d⟩,?_)
 mframe;show(_, .inr d,?_);simpa only[dQ,fV]
 (rw[if_neg (by simp)])
 cbv;show iK (i:=0) d rfl ?_;show(p.nm,rfl,c.n1,λD j=>?_);cbv;show iK (i:=1) (d.same j) rfl ?_;show iK (i:=2) (d.same j) rfl ?_;show(p.st,p.en,rfl,c.n2,c.n3,c.ne,λB y=>?_);cbv;have b:=j.trans y;show iK (i:=3) (d.same b) rfl ?_;show(q,_,_,rfl,u.same b,c.z.b1,c.z.g1,?_);cbv;show iK (i:=4) (d.same b) rfl ?_;show(n,_,_,rfl,o.same b,c.m.b1,c.m.g1,?_);cbv;show iK (i:=5) (d.same b) rfl ?_;show(p.wt,rfl,?_);cbv;show iK (i:=4) (d.same b) rfl ?_;show(n, .ref Ad.ZERO,p.mo.1,p.mo.2,0,1,rfl,o.same b,⟨Ad.ZERO,rfl,T.Bcr _⟩,c.m.s1.mono ⋯,c.m.s2.mono ⋯, .lit ⋯ ⋯, .lit ⋯ ⋯,?_);cbv;have C:=c.m0;rw[if_pos (by simp;ac_nf)];cbv;show iK (i:=5) (d.same b) rfl ?_;cbv;have:=k B b;simpa[c.w]using this
abbrev CQ:Stmt:=top 69
theorem LS:iY ["thing"] ["thing"] (iC CQ):=by bv_decide
def GR(K:aW):Sp:=λvs H Q E=>∃(x:V)(g:GD),vs=[x]/\TV K H g.td x/\sC g.td/\∀ H',dC H H'->Q (.bl true) H'
theorem MG(F:"is_gap"∘CQ)(T:Txt K mg Ad)(Bcm:5∘"is_tie"∘["thing"]∘(B7 K)):6∘["thing"]∘(GR K):=by
 show F.okn LS (by subst_eqs) (λn A b s H j Q E l h=>?_)
 let(x,g,rfl,h):=h;show(_,(fT (iO (qN (Bcm.ev l ⋯ rfl dB %[pv 0|0]) (qN (pP xN (!0) oQ (kO _)) (sP (pP xN (!0) oQ (kO _))))))),?_);let(e,m,k):=h;show mh _ _ [some x] H;cbv;show(x,g,rfl,e,m,λo c=>?_);let(a,vl,p,rfl,d,(_,rfl,_),(_,rfl,_)):=e;cbv;show iK (i:=3) (d.same c) rfl ?_;cbv;show iK (i:=4) (d.same c) rfl ?_;cbv;show k o c
abbrev Dj:Stmt:=top 72
theorem Nf:iY ["thing"] ["thing"] (iC Dj):=by bv_decide
def G7(K:aW)(Ad:jE):Sp:=λvs H Q E=>∃(x:V)(p:PD),vs=[x]/\mV K H p x/\sI p/\∀ v H',dC H H'->rn K Ad H' p v->Q v H'
theorem Nk(F:"part_of"∘Dj)(T:Txt K mg Ad)(BcP:5∘"is_part"∘["thing"]∘(Ha K))(Bd4:mJ P w K mg base 1 "Part" Ad.Part ["self","row"] (Ic K)):6∘["thing"]∘(G7 K Ad):=by
 show F.okn Nf (by subst_eqs) (λI A g s H B Q E m h=>?_)
 let(x,p,rfl,h):=h;show(_,(fi (fX (oH (mR (BcP.ev m ⋯ rfl dB %[pv 0|0]))) (fT ps_no)
   ki) (fT (iO (Bd4.ev m ⋯ rfl dB %[pv 0|0])))),?_)
 let(t,D,k):=h;show gP _ _ _ [some x] H;cbv;show(x,p,rfl,t,D,λz v=>?_);cbv;let(b,i,n,rfl,C,J,G):=t;intro y a j d L;have r:dC z (upd (upd z a (.own y)) y (.ins Ad.Part a [])):=λb u q=>by rw[fF (iy q j),fF (iy q d)];show q
 show(y,_,a,b,_,_,_,i,n,_,rfl,jo,T.Bdd _ rfl,(C.same v).same r,λl e o=>⟨rfl,?_⟩);have c:dC H l:=v.trans λb u q=>by rw[o b (iy q j)];show r _ _ q
 show k _ l c ⟨y,a,i,n,rfl,e,J.same c,G.same c⟩
abbrev CP:Stmt:=top 73
theorem LU:iY ["thing"] ["thing"] (iC CP):=by bv_decide
def GS(K:aW)(Ad:jE):Sp:=λvs H Q E=>∃(x:V)(g:GD),vs=[x]/\TV K H g.td x/\sC g.td/\∀ v H',dC H H'->vd K Ad H' g v->Q v H'
theorem MH(F:"gap_of"∘CP)(T:Txt K mg Ad)(Bdj:6∘"is_gap"∘["thing"]∘(GR K))(Beh:mJ P w K mg base 1 "Gap" Ad.Gap ["self","row"] (HV K)):7∘["thing"]∘(GS K Ad):=by
 show F.okn LU (by subst_eqs) (λJ A j s H D Q E t h=>?_)
 let(x,g,rfl,h):=h;show(_,(fi (fX (oH (mR (Bdj.ev t ⋯ rfl dB %[pv 0|0]))) (fT ps_no)
   ki) (fT (iO (Beh.ev t ⋯ rfl dB %[pv 0|0])))),?_)
 let(z,I,k):=h;show gP _ _ _ [some x] H;cbv;show(x,g,rfl,z,I,λC B=>?_);cbv;let(b,d,l,rfl,G,n,m):=z;replace n:fO K H d g.lo.1 g.lo.2:=n;replace m:fO K H l g.hi.1 g.hi.2:=m;intro y a p i L;have v:dC C (upd (upd C a (.own y)) y (.ins Ad.Gap a [])):=λb u q=>by rw[fF (iy q p),fF (iy q i)];show q
 show(y,_,a,b,_,_,_,d,l,rfl,jo,T.Bd3 _ rfl,(G.same B).same v,λr e o=>⟨rfl,?_⟩);have c:dC H r:=B.trans λb u q=>by rw[o b (iy q p)];show v _ _ q
 show k _ r c ⟨y,a,d,l,rfl,e,n.same c,m.same c⟩
abbrev DA:Stmt:=inClass (top 74) 0
theorem Pi:iY ["self"] ["self"] (iC DA):=by bv_decide
def Iz(K:aW)(Ad:jE):Sp:=λvs H Q E=>∃(x dx:Addr),vs=[.ref x]/\H x=some (.ins Ad.Joints dx [])/\∀ d H',H d=none->d≠x->H' x=some (.ins Ad.Joints dx [("leads", .ref d)])->H' d=some (.dK [])->(∀ b u,b≠x->H b=some u->H' b=some u)->Q .non H'
theorem Pf(F:"__init__"∘"Joints.__init__"∘DA)(T:Txt K mg Ad)  : 1∘["self"]∘(Iz K Ad):=by
 show F.okn Pi (by subst_eqs) (λp A c s H m Q E r h=>?_)
 let(x,e,rfl,h):=h;show(_,(fT (mE (pv 0) oJ rfl)),?_);let(j,k):=h;have g:=T.Bcu _ rfl;show uh _ _ _ _ _ [some (.ref x)] H;mexact;rename_i d a q H t l o;mexact;show(x,_,e,_,rfl,l _ _ j,g.cls,g.n1,by simp,?_);have i:d≠x:=λz=>by rw[z,j]at a;cases a
 show k d _ a i (jo.trans rfl) (by rw[fF i];show o) λb u n h=>by rw[fF n];show l _ _ h
abbrev DQ:Stmt:=inClass (top 74) 1
theorem Oy:iY ["self","part"] ["self","part"] (iC DQ):=by bv_decide
def Ik(K:aW)(Ad:jE):Sp:=λvs H Q E=>∃(j d:Addr)(v:V)(ls:List PD)(p:PD)(H0:Hp),vs=[.ref j,v]/\JK Ad H0 H j d ls/\dC H0 H/\rn K Ad H p v/\p.st≠p.en/\ls.length<=20/\∀ H',dC H0 H'->oo d H H'->JK Ad H0 H' j d (ls++[p])->Q .non H'
theorem OH(F:"link"∘"Joints.link"∘DQ)(T:Txt K mg Ad)  : 1∘["self","part"]∘(Ik K Ad):=by
 show F.okn Oy (by subst_eqs) (λf6 A e9 s H vs Q E hr h=>?_)
 let(j,d,v,ls,p,Z,rfl,h):=h;show(_,(fi (nX (jT dJ ek ej pF (FV (iP (pv 0) rfl) (iP (pv 1) rfl) (nv oI) ⟨rfl,rfl,rfl,rfl⟩) %[lh %[iP (pv 1) rfl,lh %[iP (pv 1) rfl,ja|0]|0]|0] (hs:=by show o8 rfl))) (fT (nX (jT dJ ek ej pF (FV (iP (pv 0) rfl) (iP (pv 1) rfl) (nv oI) ⟨rfl,rfl,rfl,rfl⟩) %[lh %[iP (pv 1) rfl,lh %[iP (pv 1) rfl,ja|0]|0]|0] (hs:=by show o8 rfl))))),?_)
 let(((dx,b7),b6,a2,D,hk,b8),c8,hv,e7,hl,k):=h;let(q,dq,vz,vm,rfl,I,hz,hm):=hv;have sl:(1000:Nat)<=sizeLine:=by decide
 have jc:=T.Bcu _ rfl;have B:=T.Bdd _ rfl;have nj:j≠d:=λz=>by rw[z,D]at b7;cases b7
 have nq:q≠d:=λz=>by rw[z,D]at I;cases I
 have e8:∀ f,(mQ ls f).length<=20:=λf=>by have:=F4 ls f;ac_nf
 show gP _ _ _ [some (.ref j),some (.ref q)] H;mleave;rename_i R hR;obtain⟨H1,hH⟩:∃ H',H'=H:=⟨_,rfl⟩;subst hH;have key:∀(t:Hp)(kv:List (gD × V)),oo d H1 t->dC Z t->t d=some (.dK kv)->kv.length<=2*ls.length+1->JD Z t (nA (mQ ls) p.st (p.en,(p.nm,true))) kv->R [some (.ref j),some (.ref q)] t:=by
  intro t kv J W r f5 L;show hR.go ?_;clear hR;have c3:=J _ _ nj (by intro x z;cases z) b7;have a1:=J _ _ nq (by intro x z;cases z) I;have e5:∀ f,(nA (mQ ls) p.st (p.en,(p.nm,true)) f).length<=21:=λf=>by
   have:=F4 ls f;unfold nA;split
   .rw[dR,dD];ac_nf
   .ac_nf
  mleave;show(j,_,dx,_, .ref d,rfl,c3,jc.cls,jc.n1,rfl,?_);mleave;show(d,rfl, .inl ⟨kv, .inl r⟩,?_);show(q,_,dq,_, .str p.en,rfl,a1,B.cls,B.n3,rfl,?_);mleave;show(len0,?_);rename_i l2 C f3 t e4 a0 f0;mleave;show(kv,aZ p.en,a0 _ _ r,rfl,∅,λv hv=>?_,λhv=>?_)
  .obtain⟨l,x,c1,c9,a9,e0⟩:∃ l x,v=.ref l/\Z l=none/\t l=some (.lst x)/\fh (qC t) ((nA (mQ ls) p.st (p.en,(p.nm,true))) p.en) x:=by
    rcases L.at_ p.en with⟨h1,_⟩ | ⟨l,x,h1,h2,h3,h4⟩
    .rw[hv]at h1;cases h1
    .rw[hv]at h1;cases h1;show(l,x,rfl,h2,h3,h4)
   subst c1;have f1:x.length<=21:=by rw[e0.length];show e5 _
   show(.inl ⟨rfl,_,fI.of (a0 _ _ a9)⟩,?_);mleave;have a:=a0 _ _ a1;obtain⟨M,O⟩:∃ H',H'=e4:=⟨_,rfl⟩;rw[<- O]at a ⊢;show(q,_,dq,_, .str p.st,rfl,a,B.cls,B.n2,rfl,?_);mleave;show(q,_,dq,_, .str p.nm,rfl,a,B.cls,B.n1,rfl,?_);mleave;show(len2,?_);rename_i d6 c7 c6 M c4 d5 d4;mleave;show(len2,?_);rename_i b2 d0 e1 c4 U b1 d3;mleave;have a5:qC U (p.st,(p.nm,false)) (.ref b2):=⟨b2,d6,rfl,d3,b1 _ _ d4⟩;have n:=d5.trans b1;have c:=n _ _ (by rw[O];show a0 _ _ a9:M l=some (.lst x));show(l,x,_,rfl,rfl,c,∅,?_);generalize u3:upd U l _=H3;mleave;have i:dC t U:=λb u h=>n _ _ (by rw[O];show a0 _ _ h);have b4:=(L.same i).more hv c a5 u3;have a6:oo d t H3:=λb u _ hu h=>by rw[<- u3,fF (λz=>by have:=i _ _ h;rw[z,c]at this;cases this;show hu _ rfl)];show i _ _ h
   have b5:H3 d=some (.dK kv):=by rw[<- u3,fF (λz=>by have:=i _ _ r;rw[z,c]at this;cases this)];show i _ _ r
   have e2:dC Z H3:=λb u h=>by rw[<- u3,fF (iy h c9)];show i _ _ (W _ _ h)
   rw[GM e7]at b4;show k H3 e2 (λb u X hu h=>a6 b u X hu (J b u X hu h)) ⟨⟨dx,a6 _ _ nj (by intro x z;cases z) c3⟩,b6,_,b5,?_,b4⟩;rw[dR,dD];ac_nf
  .have b0:Z l2=none:=by
    cases e:Z l2 with
    | none=>rfl
    | some o=>rw[W _ _ e]at C;cases C
   generalize uc:upd e4 d _=M;mleave;have nd:l2≠d:=λz=>by rw[z,r]at C;cases C
   have b3:M l2=some (.lst []):=by rw[<- uc,fF nd];show f0
   have G:∀ b u,b≠d->t b=some u->M b=some u:=λb u X h=>by rw[<- uc,fF X];show a0 _ _ h
   have d8:M d=some (.dK (putK kv (aZ p.en) (.ref l2))):=by rw[<- uc,jo]
   show(.inl ⟨rfl,_,fI.of b3⟩,?_);mleave;have a:=G _ _ (λz=>by rw[z,r]at a1;cases a1) a1;show(q,_,dq,_, .str p.st,rfl,a,B.cls,B.n2,rfl,?_);mleave;show(q,_,dq,_, .str p.nm,rfl,a,B.cls,B.n1,rfl,?_);mleave;show(len2,?_);rename_i d6 c7 c6 M c4 d5 d4;mleave;show(len2,?_);rename_i b2 d0 e1 c4 U b1 d3;mleave;have a5:qC U (p.st,(p.nm,false)) (.ref b2):=⟨b2,d6,rfl,d3,b1 _ _ d4⟩;have n:=d5.trans b1;have c:=n _ _ b3;show(l2,[],_,rfl,rfl,c,by show 0<sizeLine;ac_nf,?_);generalize u3:upd U l2 _=H3;mleave;have b4:=((L.sx G r).same n).first hv b0 (λg l' a3 z=>by
    rcases L.at_ g with⟨h1,_⟩ | ⟨l2,xs2,h1,_,h3,_⟩
    .rw[a3]at h1;cases h1
    .rw[a3]at h1;cases h1;rw[z,C]at h3;cases h3) c a5 u3
   have a6:oo d t H3:=λb u X hu h=>by rw[<- u3,fF (λz=>by rw[z,C]at h;cases h)];show n _ _ (G _ _ X h)
   have b5:=n _ _ d8;rw[show U d=H3 d by rw[<- u3,fF (gk nd)]]at b5;have e2:dC Z H3:=λb u h=>by rw[<- u3,fF (iy h b0)];show n _ _ (G _ _ (iy h b6) (W _ _ h))
   have lp:=uT kv (aZ p.en) (V.ref l2);rw[GM e7]at b4;show k H3 e2 (λb u X hu h=>a6 b u X hu (J b u X hu h)) ⟨⟨dx,a6 _ _ nj (by intro x z;cases z) c3⟩,b6,_,b5,?_,b4⟩;rw[dR,dD];ac_nf
 clear hR;show(j,_,dx,_, .ref d,rfl,b7,jc.cls,jc.n1,rfl,?_);mleave;show(d,rfl, .inl ⟨a2, .inl D⟩,?_);show(q,_,dq,_, .str p.st,rfl,I,B.cls,B.n2,rfl,?_);mleave;show(len0,?_);rename_i l1 y f4 H1 e6 Y f2;mleave;show(a2,aZ p.st,Y _ _ D,rfl,∅,λv hv=>?_,λhv=>?_)
 .obtain⟨l,x,c1,c9,a9,e0⟩:∃ l x,v=.ref l/\Z l=none/\H1 l=some (.lst x)/\fh (qC H1) ((mQ ls) p.st) x:=by
   rcases b8.at_ p.st with⟨h1,_⟩ | ⟨l,x,h1,h2,h3,h4⟩
   .rw[hv]at h1;cases h1
   .rw[hv]at h1;cases h1;show(l,x,rfl,h2,h3,h4)
  subst c1;have f1:x.length<=20:=by rw[e0.length];show e8 _
  show(.inl ⟨rfl,_,fI.of (Y _ _ a9)⟩,?_);mleave;have a:=Y _ _ I;obtain⟨N,O⟩:∃ H',H'=e6:=⟨_,rfl⟩;rw[<- O]at a ⊢;show(q,_,dq,_, .str p.en,rfl,a,B.cls,B.n3,rfl,?_);mleave;show(q,_,dq,_, .str p.nm,rfl,a,B.cls,B.n1,rfl,?_);mleave;show(len2,?_);rename_i d7 d2 d1 N b9 e3 c5;mleave;show(len2,?_);rename_i a4 c0 c2 b9 S a7 d9;mleave;have a8:qC S (p.en,(p.nm,true)) (.ref a4):=⟨a4,d7,rfl,d9,a7 _ _ c5⟩;have m:=e3.trans a7;have c:=m _ _ (by rw[O];show Y _ _ a9:N l=some (.lst x));show(l,x,_,rfl,rfl,c,∅,?_);generalize u2:upd S l _=t;mleave;have i:dC H1 S:=λb u h=>m _ _ (by rw[O];show Y _ _ h);have L:=(b8.same i).more hv c a8 u2;have J:oo d H1 t:=λb u _ hu h=>by rw[<- u2,fF (λz=>by have:=i _ _ h;rw[z,c]at this;cases this;show hu _ rfl)];show i _ _ h
  have r:t d=some (.dK a2):=by rw[<- u2,fF (λz=>by have:=i _ _ D;rw[z,c]at this;cases this)];show i _ _ D
  have W:dC Z t:=λb u h=>by rw[<- u2,fF (iy h c9)];show i _ _ (c8 _ _ h)
  show key t _ J W r ∅ L
 .have b0:Z l1=none:=by
   cases e:Z l1 with
   | none=>rfl
   | some o=>rw[c8 _ _ e]at y;cases y
  generalize uc:upd e6 d _=N;mleave;have nd:l1≠d:=λz=>by rw[z,D]at y;cases y
  have b3:N l1=some (.lst []):=by rw[<- uc,fF nd];show f2
  have G:∀ b u,b≠d->H1 b=some u->N b=some u:=λb u X h=>by rw[<- uc,fF X];show Y _ _ h
  have d8:N d=some (.dK (putK a2 (aZ p.st) (.ref l1))):=by rw[<- uc,jo]
  show(.inl ⟨rfl,_,fI.of b3⟩,?_);mleave;have a:=G _ _ (λz=>by rw[z,D]at I;cases I) I;show(q,_,dq,_, .str p.en,rfl,a,B.cls,B.n3,rfl,?_);mleave;show(q,_,dq,_, .str p.nm,rfl,a,B.cls,B.n1,rfl,?_);mleave;show(len2,?_);rename_i d7 d2 d1 N b9 e3 c5;mleave;show(len2,?_);rename_i a4 c0 c2 b9 S a7 d9;mleave;have a8:qC S (p.en,(p.nm,true)) (.ref a4):=⟨a4,d7,rfl,d9,a7 _ _ c5⟩;have m:=e3.trans a7;have c:=m _ _ b3;show(l1,[],_,rfl,rfl,c,by show 0<sizeLine;ac_nf,?_);generalize u2:upd S l1 _=t;mleave;have L:=((b8.sx G D).same m).first hv b0 (λg l' a3 z=>by
   rcases b8.at_ g with⟨h1,_⟩ | ⟨l2,xs2,h1,_,h3,_⟩
   .rw[a3]at h1;cases h1
   .rw[a3]at h1;cases h1;rw[z,y]at h3;cases h3) c a8 u2
  have J:oo d H1 t:=λb u X hu h=>by rw[<- u2,fF (λz=>by rw[z,y]at h;cases h)];show m _ _ (G _ _ X h)
  have r:=m _ _ d8;rw[show S d=t d by rw[<- u2,fF (gk nd)]]at r;have W:dC Z t:=λb u h=>by rw[<- u2,fF (iy h b0)];show m _ _ (G _ _ (iy h b6) (c8 _ _ h))
  have lp:=uT a2 (aZ p.st) (V.ref l1);show key t _ J W r ∅ L
abbrev DC:Stmt:=inClass (top 74) 2
theorem xX:iY ["self","one","other","found","waiting","face","lead"] ["self","one","other"] (iC DC):=by bv_decide
def Ir(K:aW)(Ad:jE):Sp:=λvs H Q E=>∃(j d:Addr)(one other:Str)(ls:List PD)(H0:Hp),vs=[.ref j, .str one, .str other]/\JK Ad H0 H j d ls/\ls.length<=20/\(ls.map (·.nm)).Nodup/\(¬ iX ls one other->∀ H',dC H H'->Q .non H')/\(∀ w l xs H',dC H H'->H l=none->H' l=some (.lst xs)->fh (CV H') w xs->kZ ls one w other->(w.map (·.1)).Nodup->Q (.ref l) H')
theorem Pd(F:"way_between"∘"Joints.way_between"∘DC)(T:Txt K mg Ad)  : 1∘["self","one","other"]∘(Ir K Ad):=by
 show F.okn xX (by subst_eqs) (λj3 A e0 s H vs Q E hr h=>?_)
 let(j,d,one,other,M,H0,rfl,h):=h;have hu:=hr.units;show(_,(fi (gI 3 xX.nd (FX (Gu (pv 1) (nv oI) Fo) rfl rfl (by simp) ⋯)) (fi (gI 4 xX.nd (nv %[pv 1|0])) (fi (xM dn (mC xE (mL oK rfl T.BbF oi %[pv 4|0]) gW (kO _)) (fi (gI 5 xX.nd (Ks dJ PySem.F.slot_list_pop PySem.F.type_list_pop JL (pv 4))) (fT (lL dn rfl (iN (F0 (jt hu) (iP (pv 0) rfl) (pv 5) (nv oI) ⟨rfl,rfl,rfl,rfl⟩)) (iV 6 xX.nd) (fT (fX (oP (sW (jt hu) (!6) (pv 3)) (by with_unfolding_all rfl)) (fi (nR (jt hu) (pv 3) (!6) (dW nF (nc (jt hu) (pv 3) (pv 5) (λ_ _=>rfl)) (nv %[!6|0])) rfl) (fT (nX (jT dJ ek ej pF (pv 4) %[!6|0] (hs:=by show o8 rfl)))))
   ki)))))) (fT (iO (Mp (jt hu) (pv 3) (pv 2) ⟨rfl,rfl,rfl,rfl⟩)))))),?_)
 clear hu;let(((dx,hj),i8,c0,hd,hk,hJ),hl,f1,k1,k2):=h;have sl:(1000:Nat)<=sizeLine:=by decide
 have jc:=T.Bcu _ rfl;show gP _ _ _ [some (.ref j),some (.str one),some (.str other),none,none,none,none] H;mleave;rename_i fd b1 i2 H H1 S1 e1;mleave;show(len0,?_);rename_i l0 N h0 H1 H2 S2 e2;mleave;show(S2 _ _ e1,[(aZ one, .ref l0)],rfl,by show 1<=15;ac_nf,?_);generalize u3:upd H2 fd _=H3;mleave;have e3:H3 fd=some (.dK [(aZ one, .ref l0)]):=by rw[<- u3];show jo.trans rfl
 have d8:l0≠fd:=λz=>by rw[z,e1]at N;cases N
 have b8:H3 l0=some (.lst []):=by rw[<- u3,fF d8];show e2
 have d5:dC H H3:=λb u h=>by rw[<- u3,fF (iy h b1)];show S2 _ _ (S1 _ _ h)
 have g0:H l0=none:=by
  cases e:H l0 with
  | none=>rfl
  | some o=>rw[S1 _ _ e]at N;cases N
 show(by show 1<=sizeLine;ac_nf,?_);rename_i I D h8 H3 H4 S4 e4;mleave;have b3:H I=none:=by
  cases e:H I with
  | none=>rfl
  | some o=>rw[d5 _ _ e]at D;cases D
 have g9:l0≠I:=λz=>by rw[<- z,b8]at D;cases D
 have i5:fd≠I:=λz=>by rw[<- z,e3]at D;cases D
 have f7:mT H M one fd I H4 [(one,[])] [one]:=⟨d5.trans S4,⟨_,S4 _ _ e3,rfl, .ref l0,[],rfl,⟨l0,[],rfl,g0,g9,S4 _ _ b8,rfl⟩,rfl⟩,by simp,by simp,λa J=>by rw[bf.mp J];show .nil,e4,by simp,by simp,λa J=>by rw[bf.mp J];simp⟩;show(λm σ H'=>∃(v5 v6:Option V)(ws:List (Str × List Pr))(wt:List Str),σ=[some (.ref j),some (.str one),some (.str other),some (.ref fd),some (.ref I),v5,v6]/\mT H M one fd I H' ws wt/\(∀ a∈ws,a.1∉wt->∀ e∈mQ M a.1,e.1∈ws.map (·.1))/\m=2*(41-ws.length)+wt.length/\m<=81,⟨_,none,none,[(one,[])],[one],rfl,f7,λa J X=>absurd (by rw[bf.mp J];simp) X,rfl,by simp⟩,?_);intro m σ H5 z_;let(v5,v6,ws,wt,rfl,R,cl,rfl,b2):=z_;mleave;show(_, .inl (fI.of R.wait),?_);mleave;rcases List.eq_nil_or_concat wt with rfl | ⟨wt',face,rfl⟩
 .rw[if_neg (by simp)];mleave;let(g4,d4,g5):=R.dict;mleave;show(fd,rfl, .inl ⟨g4, .inl d4⟩,_,gE.k (k:=aZ other) d4,?_);rcases g5.get (z:=other)with⟨a,v,O,h2,h3,l,xs,rfl,h4,_,h5,h6⟩ | ⟨O,h2⟩
  .rw[h3];show k2 a.2 l xs H5 R.same h4 h5 h6 (by rw[<- h2];show R.walk a O) (R.sim a O).1
  .rw[h2];show k1 (λhc=>O (KQ R.here (λf hf e he=>?_) hc)) H5 R.same;let(a,J,rfl):=di.mp hf;show cl a J (by simp) e he
 .rw[if_pos (by simp)];mleave;rw[List.concat_eq_append]at R cl b2 ⊢;show(_,λ_ _ q=>q,?_);mleave;show(.inl ⟨rfl,_,fI.of R.wait⟩,?_);show(I,_, .str face,rfl,rfl,R.wait,by simp,?_);generalize u6:upd H5 I _=H6;mleave;have ed:((wt'++[face]).map V.str).dropLast=wt'.map V.str:=by simp
  rw[ed]at u6;have a9:mT H M one fd I H6 ws wt':=R.wait' b3 u6 λf hf=>R.sub f (by simp[hf]);have b5:=R.sub face (by simp);mleave;show(j,_,dx,_, .ref d,rfl,a9.same _ _ hj,jc.cls,jc.n1,rfl,?_);mleave;show(d,rfl, .inl ⟨c0, .inl (a9.same _ _ hd)⟩,len0,?_);rename_i le c4 h9 H6 H7 S7 e7;mleave;have Y:=a9.grow S7;have g6:le≠I:=λz=>by have:=a9.wait;rw[<- z,c4]at this;cases this
  show(_,gE.k (k:=aZ face) (Y.same _ _ hd),?_);obtain⟨la,xs,g8,c3,b7,d7⟩:∃ la xs,(gR c0 (aZ face)).getD (.ref le)=.ref la/\H7 la=some (.lst xs)/\fh (qC H7) (mQ M face) xs/\la≠I:=by
   rcases hJ.at_ face with⟨O,h2⟩ | ⟨l,xs,O,h2,h3,h4⟩
   .show(le,[],by rw[O];rfl,e7,by rw[h2];rfl,g6)
   .show(l,xs,by rw[O];rfl,Y.same _ _ h3,h4.mono λ_ _ z=>z.sameT Y.same.t,iy h3 b3)
  have lx:=b7.length;have j2:=Y.len hl;show(la,g8,jj.byL (xs:=xs) (fI.of c3) (λi σ H'=>i<=xs.length/\∃(v6:Option V)(r:List (Str × List Pr))(C:List Str),σ=[some (.ref j),some (.str one),some (.str other),some (.ref fd),some (.ref I),some (.str face),v6]/\mT H M one fd I H' r C/\H' la=some (.lst xs)/\dH H7 H'/\(∀ a∈r,a.1∉C->a.1≠face->∀ e∈mQ M a.1,e.1∈r.map (·.1))/\(∀ e∈(mQ M face).take i,e.1∈r.map (·.1))/\face∈r.map (·.1)/\2*(41-r.length)+C.length<=2*(41-ws.length)+wt'.length) ⟨dG _,v6,ws,wt',rfl,Y,c3,dH.refl _,λa J O h2=>cl a J (by simp[O,h2]),by simp,b5,dh _⟩ (λi σ H' z=>by let(_,_,_,_,_,_,z,_):=z;show fI.of z) ?_ ?_)
  .intro i y σ H8 hy z_;let(hi,v6,r,C,rfl,B,a1,W,a7,U,a2,c6):=z_;have li:i<xs.length:=(aU.mp hy).1;let(e,he,b,c,rfl,g3,g2):=b7.at_ hy;have a5:=W _ _ rfl g3;have e5:=W _ _ rfl g2;have c7:(mQ M face).take (i+1)=(mQ M face).take i++[e]:=by rw[dX,he];rfl
   have b6:e∈mQ M face:=aY he;let(i9,Z,a4):=B.dict;mleave;show iK (i:=0) (gZ.of a5) rfl ?_;show(fd,_,rfl,gE.k (k:=aZ e.1) Z,?_);rw[a4.val];by_cases S:e.1∈r.map (·.1)
   .rw[decide_eq_true S];mleave;show(li,_,r,C,rfl,B,a1,W,a7,λe' L=>?_,a2,c6);rw[c7]at L;rcases dk.mp L with h' | h'
    .show U e' h'
    .rw[bf.mp h'];show S
   .rw[decide_eq_false S];mleave;let(a,v,J,f2,hv,l,xw,rfl,i7,j0,b9,c8):=a4.some a2;have i6:=B.lw a J;have i3:=B.len hl;have j1:=c8.length;show(fd, .ref l,rfl,by rw[<- hv];show gE.k (k:=aZ face) Z,?_);show iK (i:=1) (gZ.of a5) rfl ?_;show(by show 1<=sizeLine;ac_nf,?_);rename_i ln h7 i0 H8 H9 S9 e9;mleave;show .inl ⟨l,ln,xw,_,rfl,rfl,S9 _ _ b9,e9,by simp;ac_nf,?_⟩;rename_i lr a3 i1 H9 a0 f8 f6;mleave;mleave;have n:=S9.trans f8;have d3:=B.grow n;show iK (i:=0) (gZ.of (n _ _ a5)) rfl ?_;have lk:=a4.length;show(fd,_,rfl,jY.k (k:=aZ e.1) (n _ _ Z) ∅,?_);generalize b4:upd a0 fd _=a8;mleave;have n0:H lr=none:=by
     cases e:H lr with
     | none=>rfl
     | some o=>rw[S9 _ _ (B.same _ _ e)]at a3;cases a3
    have f5:lr≠I:=λz=>by have:=(B.grow S9).wait;rw[<- z,a3]at this;cases this
    have g1:kZ M one (a.2++[e.2]) e.1:=.snoc (by rw[<- f2];show B.walk a J) b6;have b0:=n _ _ Z;have c5:=a4.mono (P':=yg H a0 I) λa v ζ=>(by let(l,xs,e1,X,f9,hx,J):=ζ;show(l,xs,e1,X,f9,n _ _ hx,J.mono λ_ _ z=>z.sameT n.t));have cv:CV a0 e.2 (.ref c):=⟨c,rfl,n _ _ e5⟩;let(pp,d1,d0):=(nQ (g:=e.1) (pr:=e.2)).mp b6;have c1:e.2.1=pp.nm:=by rcases d0 with h | h;rw[h.2.2];rw[h.2.2.2]
    have d6:(pp.st=face/\pp.en=e.1)\/(pp.en=face/\pp.st=e.1):=by rcases d0 with h | h;show .inl ⟨h.1,h.2.1⟩;show .inr ⟨h.2.1,h.2.2.1⟩
    have e8:((a.2++[e.2]).map (·.1)).Nodup/\∀ p∈M,p.nm∈(a.2++[e.2]).map (·.1)->p.st∈(r++[(e.1,a.2++[e.2])]).map (·.1)/\p.en∈(r++[(e.1,a.2++[e.2])]).map (·.1):=by
     have sm:=B.sim a J;have e6:e.2.1∉a.2.map (·.1):=λz=>by
      have:=sm.2 pp d1 (c1 ▸ z);rcases d6 with h | h
      .show S (h.2 ▸ this.2)
      .show S (h.2 ▸ this.1)
     rw[dy,dy,dw,fP,dw,fP];show(fD.mpr ⟨sm.1,by simp,λx hx y hy z=>e6 (by rw[bf]at hy;rw[<- hy, <- z];show hx)⟩,λp hp X=>?_);rcases dk.mp X with X | X
     .have:=sm.2 p hp X;show(dk.mpr (.inl this.1),dk.mpr (.inl this.2))
     .have ep:=yE f1 hp d1 ((bf.mp X).trans c1);subst ep;have m1:e.1∈r.map (·.1)++[e.1]:=dk.mpr (.inr (by simp));have m2:face∈r.map (·.1)++[e.1]:=dk.mpr (.inl a2);rcases d6 with h | h
      .rw[h.1,h.2];show(m2,m1)
      .rw[h.1,h.2];show(m1,m2)
    have G:=d3.find b0 c5 b1 S g1 (by simp;ac_nf) e8 n0 f5 f6 ((c8.mono (P':=CV a0) λ_ _ z=>z.sameT n.t).append (.one cv)) b4;have d2:dH a0 a8:=dH.put b4 b0 rfl;have f0:la≠fd:=λz=>by rw[z,Z]at a1;cases a1
    have c2:a8 la=some (.lst xs):=by rw[<- b4,fF f0];show n _ _ a1
    have d9:=G.len hl;rw[dR,dD]at d9;have i4:(C.map V.str).length<=81:=by
     rw[bc];rw[dR,dD]at b2;ac_nf
    show(.inl ⟨rfl,_,fI.of G.wait⟩,?_);show iK (i:=0) (gZ.of (d2 _ _ rfl (n _ _ a5))) rfl ?_;show(I,_,_,rfl,rfl,G.wait,∅,?_);generalize a6:upd a8 I _=f3;mleave;have ea:C.map V.str++[V.str e.1]=(C++[e.1]).map V.str:=by simp
    rw[ea]at a6;have c9:=G.wait' b3 a6 (λf hf=>by
     rcases dk.mp hf with h' | h'
     .show G.sub f h'
     .rw[bf.mp h',dy];simp)
    have f4:dH a8 f3:=dH.put a6 G.wait rfl;show(li,_,r++[(e.1,a.2++[e.2])],C++[e.1],rfl,c9,by rw[<- a6,fF d7];show c2,W.trans (n.t.trans (d2.trans f4)),λa' g7 O h2 e' L=>?_,λe' L=>?_,?_,?_)
    .rw[dy];rcases dk.mp g7 with h' | h'
     .show dk.mpr (.inl (a7 a' h' (λz=>O (by simp[z])) h2 e' L))
     .show absurd ?_ O;rw[bf.mp h'];simp
    .rw[dy];rw[c7]at L;rcases dk.mp L with h' | h'
     .show dk.mpr (.inl (U e' h'))
     .rw[bf.mp h'];simp
    .rw[dy];show dk.mpr (.inl a2)
    .rw[dR,dR,dD,dD];ac_nf
  .intro σ H8 z_;let(hi,v6,r,C,rfl,B,a1,W,a7,U,a2,c6):=z_;rw[dR,dD]at b2;show(_,by rw[dR,dD];ac_nf,some (.str face),v6,r,C,rfl,B,λa J X e he=>?_,rfl,∅);by_cases c:a.1=face
   .rw[de ∅]at U;rw[c]at he;show U e he
   .show a7 a J X c e he
abbrev Dx:Stmt:=inClass (top 75) 0
theorem uV:iY ["self","parts","gaps","joints","row","part","gap","found"] ["self","parts","gaps"] (iC Dx):=by bv_decide
def Iu(K:aW)(Ad:jE):Sp:=λvs H Q E=>∃(x dx a c:Addr)(xs zs:List V)(ls0:List PD)(gs0:List GD)(H0:Hp),vs=[.ref x, .ref a, .ref c]/\H x=some (.ins Ad.Thing dx [])/\H0 x=none/\dC H0 H/\fI K H0 a xs/\fh (mV K H0) ls0 xs/\fI K H0 c zs/\fh (λ(g:GD) v=>TV K H0 g.td v) gs0 zs/\ls0.length<=20/\gs0.length<=20/\(∀ p∈ls0,sI p)/\(∀ g∈gs0,sC g.td)/\(ls0.map (·.nm)).Nodup/\(gs0.map (·.nm)).Nodup/\(∀(i:Nat) p,ls0[i]?=some p->¬ iX (ls0.take i) p.st p.en)/\(∀ g∈gs0,iX ls0 g.st g.en)/\∀ H',dC H0 H'->TK K Ad H' x ls0 gs0->Q .non H'
theorem OU(F:"__init__"∘"Thing.__init__"∘Dx)(T:Txt K mg Ad)(Bdk:mJ P w K mg base 1 "Joints" Ad.Joints ["self"] (Iz K Ad))(BcQ:6∘"part_of"∘["thing"]∘(G7 K Ad))(Bdl:7∘"gap_of"∘["thing"]∘(GS K Ad))(Bbj:1∘"way_between"∘(Cg Ad)∘["self","one","other"]∘(Ir K Ad))(Bd5:1∘"link"∘(Cg Ad)∘["self","part"]∘(Ik K Ad)):9∘["self","parts","gaps"]∘(Iu K Ad):=by
 show F.okn uV (by subst_eqs) (λo3 A k6 s H vs Q E hr h=>?_)
 let(x,X,a,c,xs,zs,g0,d6,O,rfl,h):=h;have hu:=hr.units;show(_,(fi (gI 3 uV.nd (Bdk.ev0 hr ⋯ rfl dB)) (fi (mE (pv 0) oJ rfl) (fi (lL dn rfl (iN (pv 1)) (iV 4 uV.nd) (fi (gI 5 uV.nd (BcQ.ev hr ⋯ rfl dB %[pv 4|0])) (fi (fX (oP (rQ (jt hu) (iP (pv 5) rfl) (iP (pv 0) rfl)) (by with_unfolding_all rfl)) (fT ps_no)
   ki) (fi (fX (mC xN (Bbj.m hr ⋯ dB (pv 3) %[iP (pv 5) rfl,iP (pv 5) rfl|0]) oQ (kO _)) (fT ps_no)
   ki) (fi (nX (Bd5.m hr ⋯ dB (pv 3) %[pv 5|0])) (fT (nR (jt hu) (iP (pv 0) rfl) (iP (pv 5) rfl) (pv 5) rfl))))))) (fi (mE (pv 0) oJ rfl) (fi (mE (pv 0) oJ rfl) (fT (lL dn rfl (iN (pv 2)) (iV 4 uV.nd) (fi (gI 6 uV.nd (Bdl.ev hr ⋯ rfl dB %[pv 4|0])) (fi (fX (oP (rQ (jt hu) (iP (pv 6) rfl) (iP (pv 0) rfl)) (by with_unfolding_all rfl)) (fT ps_no)
   ki) (fi (gI 7 uV.nd (Bbj.m hr ⋯ dB (pv 3) %[iP (pv 6) rfl,iP (pv 6) rfl|0])) (fi (fX (mC sS (pv 7) oQ (kO _)) (fT ps_no)
   ki) (fi (nR (jt hu) (iP (pv 0) rfl) (iP (pv 6) rfl) (pv 6) rfl) (fT (nR (jt hu) (iP (pv 0) rfl) (iP (pv 6) rfl) (pv 7) rfl)))))))))))))),?_)
 clear hu;let(hx,d4,S0,hS,hE,hC,hG,hl,hg,l8,m3,k7,l4,j9,k4,k):=h;have Y:=T.Bby _ rfl;have pc:=T.Bdd _ rfl;have gc:=T.Bd3 _ rfl;have sl:(1000:Nat)<=sizeLine:=by decide
 have le:=hE.length;have lg:=hG.length;show gP _ _ _ [some (.ref x),some (.ref a),some (.ref c),none,none,none,none,none] H;mvcgen;intro j dj hj m2 nj;have Sm:dC H (upd (upd H dj (.own j)) j (.ins Ad.Joints dj [])):=λb u q=>by rw[fF (iy q hj),fF (iy q m2)];show q
 generalize um:upd (upd H dj (.own j)) j (.ins Ad.Joints dj [])=Hm at Sm ⊢;mvcgen;have em:Hm j=some (.ins Ad.Joints dj []):=by rw[<- um,jo]
 show(j,dj,rfl,em,λd H1 l6 o0 m9 c1 i9=>⟨rfl,?_⟩);have I:∀{H:Hp}{b:Addr},dC O H->H b=none->O b=none:=λ{H b} S h=>by
  cases e:O b with
  | none=>rfl
  | some o=>rw[S _ _ e]at h;cases h
 have d8:∀{H n:Hp}{d:Addr}{kv:List (gD × V)},(∀ b u,b≠d->H b=some u->n b=some u)->H d=some (.dK kv)->nL H n:=λ{H n d kv} S hd b u t h=>S b u (λz=>by rw[z,hd]at h;cases h;simp[isTI,isTF]at t) h;have h0:∀{H n:Hp}{d b:Addr}{kv:List (gD × V)}{ys:List V},(∀ b u,b≠d->H b=some u->n b=some u)->H d=some (.dK kv)->H b=some (.lst ys)->n b=some (.lst ys):=λ{H n d b kv ys} S hd h=>S _ _ (λz=>by rw[z,hd]at h;cases h) h;have f7:∀{H n:Hp}{e:Addr}{kv:List (gD × V)}{D:List PD},(∀ b u,b≠e->H b=some u->n b=some u)->H e=some (.dK kv)->e≠d->JK Ad O H j d D->JK Ad O n j d D:=λ{H n e kv D} S he ne ζ=>(by let((dj,h1),h2,kvs,h3,h4,h5):=ζ;show(⟨dj,S _ _ (λz=>by rw[z,he]at h1;cases h1) h1⟩,h2,kvs,S _ _ (gk ne) h3,h4,h5.sx S he));have j0:=I S0 hj;have h6:dC O H1:=λb u h=>i9 b u (iy h j0) (Sm _ _ (S0 _ _ h));have f4:x≠j:=iy hx hj;have f5:H1 x=some (.ins Ad.Thing X []):=i9 x _ f4 (Sm _ _ hx);have d0:O d=none:=I (S0.trans Sm) l6
 (try ((with_reducible show ro.go (by assumption) ?_);mvcgen))
 rename_i N W n8 H1 H2 S2 e2;mvcgen;mvcgen;show(x,_,X,_,rfl,S2 _ _ f5,Y.cls,Y.n1,by simp,?_);generalize u3:upd H2 x _=H3;mvcgen;have e3:H3 x=some (.ins Ad.Thing X [("parts_by_name", .ref N)]):=by rw[<- u3];show jo.trans rfl
 have b6:∀ b u,b≠x->H2 b=some u->H3 b=some u:=λb u hb h=>by rw[<- u3,fF hb];show h
 have j6:dC O H3:=λb u h=>b6 _ _ (iy h d4) (S2 _ _ (h6 _ _ h));have f8:d≠x:=λz=>by rw[z,f5]at c1;cases c1
 have a4:N≠x:=λz=>by rw[z,f5]at W;cases W
 have c5:N≠d:=λz=>by rw[z,c1]at W;cases W
 have i1:H3 N=some (.dK []):=b6 _ _ a4 e2;have l7:=I h6 W;have m4:JK Ad O H3 j d []:=⟨⟨dj,b6 _ _ (gk f4) (S2 _ _ m9)⟩,d0,[],b6 _ _ f8 (S2 _ _ c1),by simp,JD.nil⟩;show(a,rfl,jj.byL (xs:=xs) (hS.same j6) (λi σ n=>i<=xs.length/\∃(v4 v5:Option V)(k1:List (gD × V))(D:List PD),σ=[some (.ref x),some (.ref a),some (.ref c),some (.ref j),v4,v5,none,none]/\dC O n/\n x=some (.ins Ad.Thing X [("parts_by_name", .ref N)])/\JK Ad O n j d D/\n N=some (.dK k1)/\BG (·.nm) (rn K Ad n) D k1/\D.length=i/\(D.map (·.nm)).Nodup/\D=g0.take i) ⟨dG _,none,none,[],[],rfl,j6,e3,m4,i1,⟨rfl,rfl⟩,rfl, .nil,rfl⟩ (λi σ n z=>by let(_,_,_,_,_,_,z,_):=z;show hS.same z) ?_ ?_)
 .intro i y σ H4 hy z_;let(hi,v4,v5,k1,D,rfl,S4,a2,f6,b5,c3,h9,b7,hw):=z_;have li:i<xs.length:=(aU.mp hy).1;let(p,hp,d5):=hE.at_ hy;have ok:=l8 p (aY hp);have g5:D++[p]=g0.take (i+1):=by rw[hw,dX,hp];rfl
  have cn:p.nm∉D.map (·.nm):=Bf g5 k7;have lk:=c3.length;mvcgen;show(y,p,rfl,d5.sameT S4.t,ok,λv H5 S5 pv=>?_);let(q,dq,vz,vm,rfl,c4,hz,hm):=id pv;have d9:=S5 _ _ a2;have j2:=S5 _ _ b5;have g2:=f6.same S5;have i2:=c3.mono (P':=rn K Ad H5) λ_ _ z=>z.si (dC.i S5);let((j8,j3),_):=id g2;mvcgen;show(q,_,dq,_, .str p.nm,rfl,c4,pc.cls,pc.n1,rfl,?_);show(x,_,X,_, .ref N,rfl,d9,Y.cls,Y.n1,rfl,?_);show(N,_,rfl,gE.k (k:=aZ p.nm) j2,?_);rw[i2.val];rw[decide_eq_false cn];mvcgen;show(j,_,j8,_,rfl,j3,rfl,rfl,?_);mvcgen;show(q,_,dq,_, .str p.st,rfl,c4,pc.cls,pc.n2,rfl,?_);show(q,_,dq,_, .str p.en,rfl,c4,pc.cls,pc.n3,rfl,?_);show(j,d,p.st,p.en,D,O,rfl,g2,∅,b7,λhc H6 S6=>?_,λw l yy H6 S6 o1 e6 i3 f3 _=>absurd (show iX D p.st p.en from⟨w,f3⟩) (by rw[hw];show j9 i p hp));mvcgen;have e4:=g2.same S6;have e1:=S4.trans (S5.trans S6);show(j,_,j8,_,rfl,S6 _ _ j3,rfl,rfl,?_);mvcgen;show(j,d, .ref q,D,p,O,rfl,e4,e1,pv.si (dC.i S6),ok.ne,∅,λH7 l5 sj m7=>?_);have nd:∀{b:Addr}{C dd:Addr}{ff:List (Str × V)},H6 b=some (.ins C dd ff)->H7 b=some (.ins C dd ff):=λ{b C dd ff} h=>by
   let(_,_,_,f9,_):=e4;show sj _ _ (λz=>by rw[z,f9]at h;cases h) (by intro xs z;cases z) h
  have SI:nL H6 H7:=λb u t h=>by
   let(_,_,_,f9,_):=e4;show sj b u (λz=>by rw[z,f9]at h;cases h;simp[isTI,isTF]at t) (λxs z=>by rw[z]at t;simp[isTI,isTF]at t) h
  have c9:H7 N=some (.dK k1):=sj _ _ c5 (by intro xs z;cases z) (S6 _ _ j2);have m6:=i2.mono (P':=rn K Ad H7) λ_ _ z=>(z.si (dC.i S6)).si SI;have k8:=(pv.si (dC.i S6)).si SI;mvcgen;show(x,_,X,_, .ref N,rfl,nd (S6 _ _ d9),Y.cls,Y.n1,rfl,?_);show(q,_,dq,_, .str p.nm,rfl,nd (S6 _ _ c4),pc.cls,pc.n1,rfl,?_);show(N,_,rfl,jY.k (k:=aZ p.nm) c9 ∅,?_);generalize u8:upd H7 N _=H8;mvcgen;have e8:=jg u8;have c0:∀ b u,b≠N->H7 b=some u->H8 b=some u:=λb u hb h=>by rw[<- u8,fF hb];show h
  have l1:=d8 c0 c9;show(li,_,_,_,D++[p],rfl,λb u h=>c0 _ _ (iy h l7) (l5 _ _ h),c0 _ _ (gk a4) (nd (S6 _ _ d9)),f7 c0 c9 c5 m7,e8,?_,by simp[h9],by rw[dy];show fD.mpr ⟨b7,by simp,λu hu v hv z=>cn (by have e:v=p.nm:=bf.mp hv;rw[<- e, <- z];show hu)⟩,g5);show(m6.new (a:=p) cn k8).mono λ_ _ z=>z.si l1
 .intro σ H4 z_;let(hi,v4,v5,k1,D,rfl,S4,a2,f6,b5,c3,h9,b7,hw):=z_;rw[de ∅]at hw;subst hw;mvcgen;let((m1,l0),_,m8,b3,i8,k5):=id f6;rename_i Z J n7 H4 H5 S5 e5;mvcgen;show(x,_,X,_,rfl,S5 _ _ a2,Y.cls,Y.n2,by simp,?_);generalize u6:upd H5 x _=H6;mvcgen;have e6:H6 x=some (.ins Ad.Thing X [("parts_by_name", .ref N),("gaps_by_name", .ref Z)]):=by rw[<- u6];show jo.trans rfl
  have b1:∀ b u,b≠x->H5 b=some u->H6 b=some u:=λb u hb h=>by rw[<- u6,fF hb];show h
  mvcgen;rename_i d3 B n6 H6 H7 S7 e7;mvcgen;show(x,_,X,_,rfl,S7 _ _ e6,Y.cls,Y.n3,by simp,?_);generalize u8:upd H7 x _=H8;mvcgen;have e8:H8 x=some (.ins Ad.Thing X [("parts_by_name", .ref N),("gaps_by_name", .ref Z),("ways", .ref d3)]):=by rw[<- u8];show jo.trans rfl
  have e0:∀ b u,b≠x->H7 b=some u->H8 b=some u:=λb u hb h=>by rw[<- u8,fF hb];show h
  have a0:∀ b u,b≠x->H4 b=some u->H8 b=some u:=λb u hb h=>e0 _ _ hb (S7 _ _ (b1 _ _ hb (S5 _ _ h)));have a9:Z≠x:=λz=>by rw[z,a2]at J;cases J
  have g1:Z≠N:=λz=>by rw[z,b5]at J;cases J
  have h8:Z≠d:=λz=>by rw[z,b3]at J;cases J
  have c6:d3≠x:=λz=>by rw[z,e6]at B;cases B
  have g9:=b1 _ _ a4 (S5 _ _ b5);have l3:=b1 _ _ f8 (S5 _ _ b3);have c8:=b1 _ _ a9 e5;have e9:d3≠N:=λz=>by rw[z,g9]at B;cases B
  have g4:d3≠d:=λz=>by rw[z,l3]at B;cases B
  have a8:d3≠Z:=λz=>by rw[z,c8]at B;cases B
  have n0:=I S4 J;have e1:dC O H6:=λb u h=>b1 _ _ (iy h d4) (S5 _ _ (S4 _ _ h));have k9:=I e1 B;have g3:dC O H8:=λb u h=>a0 _ _ (iy h d4) (S4 _ _ h);have j1:dH H4 H8:=λb u t h=>a0 _ _ (λz=>by rw[z,a2]at h;cases h;simp[isTF]at t) h;have l9:JK Ad O H8 j d D:=⟨⟨m1,a0 _ _ (gk f4) l0⟩,d0,m8,a0 _ _ f8 b3,i8,k5.sy a0 a2 (by intro xs z;cases z) rfl⟩;have k0:BG (·.nm) (rn K Ad H8) D k1:=c3.mono λp v ⟨q,dq,vz,vm,h1,h2,h3,h4⟩=>⟨q,dq,vz,vm,h1,a0 _ _ (nV h2 a2 (by
   intro z;injection z with _ _ z3
   have:=congrArg List.length z3;simp[pX]at this)) h2,h3.sameT j1,h4.sameT j1⟩
  show(c,rfl,jj.byL (xs:=zs) (hC.same g3) (λi σ n=>i<=zs.length/\∃(v4 v6 v7:Option V)(k2 k3:List (gD × V))(gs:List GD),σ=[some (.ref x),some (.ref a),some (.ref c),some (.ref j),v4,v5,v6,v7]/\dC O n/\n x=some (.ins Ad.Thing X [("parts_by_name", .ref N),("gaps_by_name", .ref Z),("ways", .ref d3)])/\JK Ad O n j d D/\n N=some (.dK k1)/\BG (·.nm) (rn K Ad n) D k1/\n Z=some (.dK k2)/\BG (·.nm) (vd K Ad n) gs k2/\n d3=some (.dK k3)/\BG (·.nm) (tQ n D) gs k3/\gs.length=i/\gs=d6.take i) ⟨dG _,v4,none,none,[],[],[],rfl,g3,e8,l9,a0 _ _ a4 b5,k0,e0 _ _ a9 (S7 _ _ c8),⟨rfl,rfl⟩,e0 _ _ c6 e7,⟨rfl,rfl⟩,rfl,rfl⟩ (λi σ n z=>by let(_,_,_,_,_,_,_,_,z,_):=z;show hC.same z) ?_ ?_)
  .intro i y σ H9 hy z_;let(hi,v4,v6,v7,k2,k3,gs,rfl,S9,a6,i6,b2,f1,a5,b4,b0,b9,h7,c2):=z_;have li:i<zs.length:=(aU.mp hy).1;let(g,d7,d5):=hG.at_ hy;have ok:=m3 g (aY d7);have j5:gs++[g]=d6.take (i+1):=by rw[c2,dX,d7];rfl
   have cn:g.nm∉gs.map (·.nm):=Bf j5 l4;have lk:=b4.length;have n9:=b9.length;mvcgen;show(y,g,rfl,TV.sameT S9.t d5,ok,λv o2 b8 gv=>?_);let(q,dq,vl,vg,rfl,M,hz,hm):=id gv;have g6:=b8 _ _ a6;have j4:=b8 _ _ a5;have a7:=i6.same b8;let((i0,g8),_):=id a7;mvcgen;show(q,_,dq,_, .str g.nm,rfl,M,gc.cls,gc.n1,rfl,?_);show(x,_,X,_, .ref Z,rfl,g6,Y.cls,Y.n2,rfl,?_);show(Z,_,rfl,gE.k (k:=aZ g.nm) j4,?_);rw[b4.val];rw[decide_eq_false cn];mvcgen;show(j,_,i0,_,rfl,g8,rfl,rfl,?_);mvcgen;show(q,_,dq,_, .str g.st,rfl,M,gc.cls,gc.n2,rfl,?_);show(q,_,dq,_, .str g.en,rfl,M,gc.cls,gc.n3,rfl,?_);show(j,d,g.st,g.en,D,O,rfl,a7,∅,b7,λhc a3 a1=>absurd (k4 g (aY d7)) hc,λw l yy a3 a1 n5 l2 i3 f3 m5=>?_);mvcgen;have r:=b8.trans a1;have U:=r _ _ a5;show(x,_,X,_, .ref Z,rfl,r _ _ a6,Y.cls,Y.n2,rfl,?_);show(q,_,dq,_, .str g.nm,rfl,a1 _ _ M,gc.cls,gc.n1,rfl,?_);show(Z,_,rfl,jY.k (k:=aZ g.nm) U ∅,?_);generalize g7:upd a3 Z _=f0;mvcgen;have m0:=jg g7;have G:∀ b u,b≠Z->a3 b=some u->f0 b=some u:=λb u hb h=>by rw[<- g7,fF hb];show h
   have j7:=d8 G U;have c7:=G _ _ (gk a9) (r _ _ a6);have i7:=G _ _ (λz=>by have:=a1 _ _ M;rw[z,U]at this;cases this) (a1 _ _ M);have R:=G _ _ a8 (r _ _ b0);mvcgen;show(x,_,X,_, .ref d3,rfl,c7,Y.cls,Y.n3,rfl,?_);show(q,_,dq,_, .str g.nm,rfl,i7,gc.cls,gc.n1,rfl,?_);show(d3,_,rfl,jY.k (k:=aZ g.nm) R ∅,?_);generalize i5:upd f0 d3 _=f2;mvcgen;have n4:=jg i5;have L:∀ b u,b≠d3->f0 b=some u->f2 b=some u:=λb u hb h=>by rw[<- i5,fF hb];show h
   have i4:=d8 L R;have SI:nL a3 f2:=λb u t h=>i4 b u t (j7 b u t h);have wv:∀{g:GD}{v:V},tQ a3 D g v->tQ f2 D g v:=λ{g v} ζ=>(by let(l,xs,w,h1,h2,h3,h4):=ζ;show(l,xs,w,h1,h0 L R (h0 G U h2),h3.mono λ_ _ z=>z.sameT SI.t,h4));show(li,_,_,_,_,_,gs++[g],rfl,λb u h=>L _ _ (iy h k9) (G _ _ (iy h n0) (r _ _ (S9 _ _ h))),L _ _ (gk c6) c7,f7 L R g4 (f7 G U h8 (a7.same a1)),L _ _ (gk e9) (G _ _ (gk g1) (r _ _ b2)),f1.mono λ_ _ z=>(z.si (dC.i r)).si SI,L _ _ (gk a8) m0,?_,n4,?_,by simp[h7],j5)
   .show((b4.mono (P':=vd K Ad a3) λ_ _ z=>z.si (dC.i r)).new (a:=g) cn (gv.si (dC.i a1))).mono λ_ _ z=>z.si SI
   .show((b9.mono (P':=tQ a3 D) λ_ _ z=>z.same r).new (a:=g) cn ⟨l,yy,w,rfl,l2,i3,f3,m5⟩).mono λ_ _ z=>wv z
  .intro σ H9 z_;let(hi,v4,v6,v7,k2,k3,gs,rfl,S9,a6,i6,b2,f1,a5,b4,b0,b9,h7,c2):=z_;rw[de ∅]at c2;subst c2;mvcgen;show k H9 S9 ⟨X,N,Z,d3,k1,k2,k3,a6,b2,f1,a5,b4,b0,b9⟩
abbrev DP:Stmt:=inClass (top 75) 1
theorem Ox:iY ["self"] ["self"] (iC DP):=by bv_decide
def t4(K:aW)(Ad:jE):Sp:=λvs H Q E=>∃(x:Addr)(ls:List PD)(gs:List GD),vs=[.ref x]/\TK K Ad H x ls gs/\ls.length<=20/\∀ l ys H',dC H H'->H l=none->H' l=some (.lst ys)->fh (mV K H') ls ys->Q (.ref l) H'
theorem OG(F:"parts"∘"Thing.parts"∘DP)(T:Txt K mg Ad)(BdL:1∘"plain"∘(IsPart Ad)∘["self"]∘(Ip K Ad)):2∘["self"]∘(t4 K Ad):=by
 show F.okn Ox (by subst_eqs) (λa1 A O s H vs Q E hr h=>?_)
 let(x,ls,gs,rfl,h):=h;show(_,(fT (iO (Bv (qM (qG (own:=["part"]) (cs:=[]) rfl (FT (iP (pv 0) rfl)) (λ_ _ _ _=>(iV 0 (show[("part" : Str)].Nodup by decide))) (λ_ _ _ _=>qj) (λ_ _ _ _=>(BdL.m0 hr ⋯ dB (pv 0))) (o7 rfl) ⋯ rfl ⋯ hcs0))))),?_);let((dx,a,d2,d3,l,k2,k3,hx,g,b1,_),hl,k):=h;have Y:=T.Bby _ rfl;have sl:(1000:Nat)<=sizeLine:=by decide
 have lk:=b1.length;show mh _ _ [some (.ref x)] H;mleave;show(a,l,g,x,_,dx,_, .ref a,rfl,hx,Y.cls,Y.n1,rfl,a,l,rfl,g,λG=>?_);generalize uf:upd H a (.frz G (.dK l))=H1;mleave;have f1:H1 a=some (.frz G (.dK l)):=by rw[<- uf,jo]
 have o1:∀ b u,b≠a->H b=some u->H1 b=some u:=λb u R h=>by rw[<- uf,fF R];show h
 show jW.vals (λi m n=>n a=some (.frz G (.dK l))/\(∀ b u,b≠a->H b=some u->n b=some u)/\(∀ b u,b≠a->n b=some u->H b=none->True)/\fh (mV K n) (ls.take i) m) ⟨f1,o1,λ_ _ _ _ _=>trivial,rfl⟩ (λi m n hi z=>⟨z.1,by have:=z.2.2.2.length;rw[eS]at this;ac_nf⟩) ?_ ?_
 .rintro i v m L hv ⟨C,D,_,M⟩;simpa only[dD,dF,mw,dw,fP,fK];let(p,hp,q,dq,I,J,rfl,hq,hz,hm):=b1.2.at_ hv;have U:∀{b:Addr}{u:HO},H b=some u->isTI u=true->L b=some u:=λ{b u} h t=>D _ _ (λz=>by rw[z,g]at h;cases h;simp[isTI,isTF]at t) h;have T2:dH H L:=λb u t h=>U h (by cases u <;> first | show t | (simp[isTF]at t));show(q,_,dq,_,rfl,U hq rfl,rfl,rfl,q,dq,_,_,_,I,J,_,rfl,U hq rfl,λr B d S=>?_);show(d _ _ C,λb u R h=>d _ _ (D _ _ R h),λ_ _ _ _ _=>trivial,?_);rw[dX,hp];show(M.mono (P':=mV K B) λ_ _ z=>z.sameT d.t).append (.one ⟨r,I,J,rfl,gZ.of S,(hz.sameT T2).sameT d.t,(hm.sameT T2).sameT d.t⟩)
 .rintro m L ⟨C,D,_,M⟩;rw[de ∅]at M;rename_i r j a0 L B d S;mleave;show(G,l,d _ _ C,?_);generalize y:upd B a (.dK l)=N;mleave;have Z:r≠a:=λz=>by rw[z,C]at j;cases j
  have e4:N r=some (.lst m):=by rw[<- y,fF Z];show S
  have X:dC H N:=λb u h=>by
   by_cases c:b=a
   .subst c;rw[g]at h;cases h;rw[<- y,jo]
   .rw[<- y,fF c];show d _ _ (D _ _ c h)
  have f3:=d _ _ C;have W:∀{b:Addr}{xs:List V},gZ K B b xs->gZ K N b xs:=λ{b xs} h=>by
   rcases h with(h | ⟨o,h⟩) | h
   .show .inl (.inl (by rw[<- y,fF (λz=>by rw[z,f3]at h;cases h)];show h))
   .show .inl (.inr ⟨o,by rw[<- y,fF (λz=>by rw[z,f3]at h;cases h)];show h⟩)
   .show .inr h
  have hn:H r=none:=by
   cases e:H r with
   | none=>rfl
   | some o=>rw[D _ _ Z e]at j;cases j
  show k r m N X hn e4 ((M.mono (P':=mV K B) λ_ _ z=>z.sameT d.t).mono λp v ζ=>by let(b,I,J,h1,h2,(pz,h3,h4),(pm,h5,h6)):=ζ;show(b,I,J,h1,W h2,⟨pz,h3,W h4⟩,⟨pm,h5,W h6⟩))
abbrev DG:Stmt:=inClass (top 75) 2
theorem NU:iY ["self"] ["self"] (iC DG):=by bv_decide
def xR(K:aW)(Ad:jE):Sp:=λvs H Q E=>∃(x:Addr)(ls:List PD)(gs:List GD),vs=[.ref x]/\TK K Ad H x ls gs/\gs.length<=20/\∀ l ys H',dC H H'->H l=none->H' l=some (.lst ys)->fh (λ(g:GD) v=>TV K H' g.td v) gs ys->Q (.ref l) H'
theorem Oc(F:"gaps"∘"Thing.gaps"∘DG)(T:Txt K mg Ad)(BcR:1∘"plain"∘(t5 Ad)∘["self"]∘(Hl K Ad)):2∘["self"]∘(xR K Ad):=by
 show F.okn NU (by subst_eqs) (λa1 A R s H vs Q E hr h=>?_)
 let(x,ls,gs,rfl,h):=h;show(_,(fT (iO (Bv (qM (qG (own:=["gap"]) (cs:=[]) rfl (FT (iP (pv 0) rfl)) (λ_ _ _ _=>(iV 0 (show[("gap" : Str)].Nodup by decide))) (λ_ _ _ _=>qj) (λ_ _ _ _=>(BcR.m0 hr ⋯ dB (pv 0))) (o7 rfl) ⋯ rfl ⋯ hcs0))))),?_);let((dx,d1,a,d3,k1,m,k3,hx,_,_,j,b2,_),hl,k):=h;have Z:=T.Bby _ rfl;have sl:(1000:Nat)<=sizeLine:=by decide
 have lk:=b2.length;show mh _ _ [some (.ref x)] H;mleave;show(a,m,j,x,_,dx,_, .ref a,rfl,hx,Z.cls,Z.n2,rfl,a,m,rfl,j,λG=>?_);generalize uf:upd H a (.frz G (.dK m))=H1;mleave;have f1:H1 a=some (.frz G (.dK m)):=by rw[<- uf,jo]
 have o1:∀ b u,b≠a->H b=some u->H1 b=some u:=λb u S h=>by rw[<- uf,fF S];show h
 show jW.vals (λi n J=>J a=some (.frz G (.dK m))/\(∀ b u,b≠a->H b=some u->J b=some u)/\fh (λ(g:GD) v=>TV K J g.td v) (gs.take i) n) ⟨f1,o1,rfl⟩ (λi n J hi z=>⟨z.1,by have:=z.2.2.length;rw[eS]at this;ac_nf⟩) ?_ ?_
 .rintro i v n M hv ⟨C,D,N⟩;simpa only[dD,dF,mw,dw,fP,fK];let(p,hp,q,dq,I,L,rfl,hq,hz,hm):=b2.2.at_ hv;have W:∀{b:Addr}{u:HO},H b=some u->isTI u=true->M b=some u:=λ{b u} h t=>D _ _ (λz=>by rw[z,j]at h;cases h;simp[isTI,isTF]at t) h;have T2:dH H M:=λb u t h=>W h (by cases u <;> first | show t | (simp[isTF]at t));show(q,_,dq,_,rfl,W hq rfl,rfl,rfl,q,dq,_,_,_,I,L,rfl,W hq rfl,λr B d U=>?_);show(d _ _ C,λb u S h=>d _ _ (D _ _ S h),?_);rw[dX,hp];show(N.mono (P':=λ(g:GD) v=>TV K B g.td v) λ_ _ z=>z.sameT d.t).append (.one ⟨r,I,L,rfl,gZ.of U,(hz.sameT T2).sameT d.t,(hm.sameT T2).sameT d.t⟩)
 .rintro n M ⟨C,D,N⟩;rw[de ∅]at N;rename_i r l a0 M B d U;mleave;show(G,m,d _ _ C,?_);generalize y:upd B a (.dK m)=O;mleave;have nr:r≠a:=λz=>by rw[z,C]at l;cases l
  have e4:O r=some (.lst n):=by rw[<- y,fF nr];show U
  have Y:dC H O:=λb u h=>by
   by_cases c:b=a
   .subst c;rw[j]at h;cases h;rw[<- y,jo]
   .rw[<- y,fF c];show d _ _ (D _ _ c h)
  have f3:=d _ _ C;have X:∀{b:Addr}{xs:List V},gZ K B b xs->gZ K O b xs:=λ{b xs} h=>by
   rcases h with(h | ⟨o,h⟩) | h
   .show .inl (.inl (by rw[<- y,fF (λz=>by rw[z,f3]at h;cases h)];show h))
   .show .inl (.inr ⟨o,by rw[<- y,fF (λz=>by rw[z,f3]at h;cases h)];show h⟩)
   .show .inr h
  have hn:H r=none:=by
   cases e:H r with
   | none=>rfl
   | some o=>rw[D _ _ nr e]at l;cases l
  show k r n O Y hn e4 ((N.mono (P':=λ(g:GD) v=>TV K B g.td v) λ_ _ z=>z.sameT d.t).mono λp v ζ=>by let(b,I,L,h1,h2,(pz,h3,h4),(pm,h5,h6)):=ζ;show(b,I,L,h1,X h2,⟨pz,h3,X h4⟩,⟨pm,h5,X h6⟩))
abbrev Dd:Stmt:=inClass (top 75) 3
theorem Os:iY ["self","name"] ["self","name"] (iC Dd):=by bv_decide
def Cr(K:aW)(Ad:jE):Sp:=λvs H Q E=>∃(x:Addr)(z:Str)(ls:List PD)(gs:List GD),vs=[.ref x, .str z]/\TK K Ad H x ls gs/\z∈gs.map (·.nm)/\(∀ g∈gs,g.nm=z->∀ l xs w H',dC H H'->H l=none->H' l=some (.lst xs)->fh (CV H') w xs->kZ ls g.st w g.en->(w.map (·.1)).Nodup->Q (.ref l) H')
theorem Oh(F:"way"∘"Thing.way"∘Dd)(T:Txt K mg Ad)  : 1∘["self","name"]∘(Cr K Ad):=by
 show F.okn Os (by subst_eqs) (λN A e s H B Q E C h=>?_)
 let(x,z,I,M,rfl,h):=h;have m:=C.units;show(_,(fi (fX (oP (sW (jt m) (pv 1) (iP (pv 0) rfl)) (by with_unfolding_all rfl)) (fT ps_no)
   ki) (fT (iO (xJ G4 rfl T.Bd0 yB %[nc (jt m) (iP (pv 0) rfl) (pv 1) (λ_ _=>rfl)|0])))),?_)
 clear m;let((q,d1,Y,d,X,Z,k3,u,D,b1,U,b2,a,p),c,k):=h;have b:=T.Bby _ rfl;show gP _ _ _ [some (.ref x),some (.str z)] H;mleave;show(x,_,q,_, .ref d,rfl,u,b.cls,b.n3,rfl,?_);show(d,_,rfl,gE.k (k:=aZ z) a,?_);rw[p.val];rw[decide_eq_true c];mleave;let(g,v,J,S,V,R,r,w,rfl,o,i,L,n):=p.some c;show(x,_,q,_, .ref d,rfl,u,b.cls,b.n3,rfl,?_);show(d,_,rfl,by rw[<- V];show gE.k (k:=aZ z) a,?_);show(R,r,rfl, .inl (fI.of o),?_);rename_i l j O H W y G;mleave;show k g J S l r w W y j G (i.mono λ_ _ z=>z.sameT y.t) L n
abbrev Dm:Stmt:=inClass (top 75) 4
theorem vS:iY ["self","name","total","part","forward","size"] ["self","name"] (iC Dm):=by bv_decide
def HR(K:aW)(Ad:jE):Sp:=λvs H Q E=>∃(x:Addr)(z:Str)(ls:List PD)(gs:List GD),vs=[.ref x, .str z]/\TK K Ad H x ls gs/\z∈gs.map (·.nm)/\(∀ g∈gs,g.nm=z->∃ pl:Str->jC,(∀ u∈gs,u.nm=z->u=g)/\(∀ p∈ls, ∀ q∈ls,p.nm=q.nm->p=q)/\(∀ p∈ls,sI p)/\(∀ f,FB 302 161 (pl f))/\(∀ p∈ls,vl (pl p.en)=vl (pl p.st)+vl p.sz)/\∀ v H',dC H H'->fO K H' v (mid pl g).1 (mid pl g).2->Q v H')
theorem O9(F:"middle"∘"Thing.middle"∘Dm)(T:Txt K mg Ad)(Bd2:1∘"way"∘(o9 Ad)∘["self","name"]∘(Cr K Ad))(Bbz:2∘"plus"∘["one","other"]∘(vM K))(Bax:3∘"minus"∘["one","other"]∘(uO K)):4∘["self","name"]∘(HR K Ad):=by
 show F.okn vS (by subst_eqs) (λa5 A R s H vs Q E M h=>?_)
 let(x,z,B,gs,rfl,h):=h;have hu:=M.units;show(_,(fi (gI 2 vS.nd (qP (v:=.ref _) rfl T.Bcp T.Bcq)) (fi (lL dn rfl (iN (Bd2.m M ⋯ dB (pv 0) %[pv 1|0])) (sO rfl (mK (iV 3 vS.nd) (mK (iV 4 vS.nd) rC))) (fi (gI 5 vS.nd (iP (nc (jt hu) (iP (pv 0) rfl) (pv 3) (λ_ _=>rfl)) rfl)) (fT (gI 2 vS.nd (FZ (mR (pv 4)) (Bbz.ev M ⋯ rfl dB %[pv 2,pv 5|0]) (Bax.ev M ⋯ rfl dB %[pv 2,pv 5|0])))))) (fT (iO (pv 2))))),?_)
 clear hu;let(ht,kn,k):=h;let(dx,d1,d2,d3,k1,k2,k3,hx,a0,b1,_):=id ht;have tc:=T.Bby _ rfl;have pc:=T.Bdd _ rfl;show gP _ _ _ [some (.ref x),some (.str z),none,none,none,none] H;mleave;show(x,_,dx,_,rfl,hx,rfl,rfl,x,z,B,gs,rfl,ht,kn,λg hg hz l xs w H1 S1 a4 e1 D hw _=>?_);let(c,a3,hN,hP,j,hV,k):=k g hg hz;have lg:=KA hV hw;have lx:=D.length;show(l,rfl,jj.byL (xs:=xs) (fI.of e1) (λi σ O=>i<=xs.length/\∃(v3 S v5:Option V)(t:V)(f:Str),σ=[some (.ref x),some (.str z),some t,v3,S,v5]/\dC H1 O/\fO K O t (fE (c f) (gf (c g.st))).1 (fE (c f) (gf (c g.st))).2/\oE B c f (w.drop i) g.en) ⟨dG _,none,none,none, .ref Ad.ZERO,g.st,rfl,dC.refl _,by rw[L5 (j _)];show(Ad.ZERO,rfl,T.Bcr _),lg⟩ (λi σ O q=>by let(_,_,_,_,_,_,_,q,_):=q;show fI.of (q _ _ e1)) ?_ ?_)
 .intro i y σ W hy z_;let(hi,v3,S,v5,t,f,rfl,n,N,C):=z_;have li:i<xs.length:=(aU.mp hy).1;let(pr,G,b,rfl,hb):=D.at_ hy;have I:i<w.length:=by ac_nf
  have Z:w.drop i=pr::w.drop (i+1):=by
   rw[List.drop_eq_getElem_cons I];rw[aV I]at G;rw[eh G]
  rw[Z]at C;have d:=S1.trans n;obtain⟨p,u,o,rfl,hp,hv,J⟩:∃ p u o,pr=(p.nm,u)/\p∈B/\vl (c o)=vl (c f)+vl (sgn u p.sz)/\oE B c o (w.drop (i+1)) g.en:=by
   cases C with
   | cons h1 h2 h3=>show(_,_,_,rfl,h1,h2,h3)
  mleave;show(b,_,rfl,gZ.of (n _ _ hb),rfl,?_);mleave;let(q,v,hq,U,a1,qa,dq,L,vm,rfl,Y,a2,hm):=b1.some (z:=p.nm) (di.mpr ⟨p,hp,rfl⟩);have eq:=hN q hq p hp U;subst eq;show(x,_,dx,_, .ref d1,rfl,d _ _ hx,tc.cls,tc.n1,rfl,?_);show(d1,_,rfl,by rw[<- a1];show gE.k (k:=aZ q.nm) (d _ _ a0),?_);show(qa,_,dq,_,L,rfl,d _ _ Y,pc.cls,pc.n4,rfl,?_);have a:=(hP q hq).z;have e:FB 464 322 (fE (c f) (gf (c g.st))):=FB.add (j _) (j _).neg ⋯ ⋯ ⋯;have fz:fO K W L q.sz.1 q.sz.2:=a2.same d;have st:=KB (j f) (j o) (z:=sgn u q.sz) (by cases u;show(L2.FOk.fb a).neg;show L2.FOk.fb a) (j g.st) hv;mleave;cases u with
  | true=>
   mleave;show(t,L,_,_,_,_,rfl,N,fz,e.s1.mono ⋯,e.s2.mono ⋯,a.s1.mono ⋯,a.s2.mono ⋯,e.b1,a.b1,e.g1,a.g1,λr H3 S3 X=>?_);show(li,_,_,_, .ref r,o,rfl,n.trans S3,by rw[<- st];show fO.of X,J)
  | false=>
   mleave;show(t,L,_,_,_,_,rfl,N,fz,e.s1.mono ⋯,e.s2.mono ⋯,a.s1.mono ⋯,a.s2.mono ⋯,e.b1,a.b1,e.g1,a.g1,λr H3 S3 X=>?_);show(li,_,_,_, .ref r,o,rfl,n.trans S3,?_,J);rw[<- st];show fO.of ?_;rw[X];show _=some (HO.tup [.int (Mth.top (_*q.sz.2 + -q.sz.1*_) _), .int (Mth.bot (_*q.sz.2 + -q.sz.1*_) _)]);rw[Int.neg_mul, <- ka];rfl
 .intro σ W z_;let(hi,v3,S,v5,t,f,rfl,n,N,C):=z_;rw[List.drop_eq_nil_of_le ∅]at C;cases C;mleave;show k t W (S1.trans n) N
abbrev DF:Stmt:=inClass (top 75) 5
theorem xW:iY ["self","name","middle","gap","above","below"] ["self","name"] (iC DF):=by bv_decide
def Cn(K:aW)(Ad:jE):Sp:=λvs H Q E=>∃(x:Addr)(z:Str)(ls:List PD)(gs:List GD),vs=[.ref x, .str z]/\TK K Ad H x ls gs/\z∈gs.map (·.nm)/\(∀ g∈gs,g.nm=z->∃ pl:Str->jC,(∀ u∈gs,u.nm=z->u=g)/\(∀ p∈ls, ∀ q∈ls,p.nm=q.nm->p=q)/\(∀ p∈ls,sI p)/\(∀ f,FB 302 161 (pl f))/\(∀ p∈ls,vl (pl p.en)=vl (pl p.st)+vl p.sz)/\sC g.td/\∀ v H',dC H H'->fO K H' v (roomF pl g).1 (roomF pl g).2->Q v H')
theorem Ob(F:"room"∘"Thing.room"∘DF)(T:Txt K mg Ad)(Bdm:4∘"middle"∘(o9 Ad)∘["self","name"]∘(HR K Ad))(Bax:3∘"minus"∘["one","other"]∘(uO K))(Bak:1∘"under"∘["one","other"]∘(tX K)):5∘["self","name"]∘(Cn K Ad):=by
 show F.okn xW (by subst_eqs) (λa1 A G s H vs Q E l h=>?_)
 let(x,z,ls,gs,rfl,h):=h;have V:=l.units;show(_,(fi (gI 2 xW.nd (Bdm.m l ⋯ dB (pv 0) %[pv 1|0])) (fi (gI 3 xW.nd (nc (jt V) (iP (pv 0) rfl) (pv 1) (λ_ _=>rfl))) (fi (gI 4 xW.nd (Bax.ev l ⋯ rfl dB %[iP (pv 3) rfl,pv 2|0])) (fi (gI 5 xW.nd (Bax.ev l ⋯ rfl dB %[pv 2,iP (pv 3) rfl|0])) (fT (iO (FZ (mR (Bak.ev l ⋯ rfl dB %[pv 4,pv 5|0])) (pv 4) (pv 5)))))))),?_)
 clear V;let(ht,kn,k):=h;let(S,d1,N,d3,k1,k2,k3,hx,a0,b1,L,b2,_):=id ht;have X:=T.Bby _ rfl;have t:=T.Bd3 _ rfl;show gP _ _ _ [some (.ref x),some (.str z),none,none,none,none] H;mleave;show(x,_,S,_,rfl,hx,rfl,rfl,x,z,ls,gs,rfl,ht,kn,λg hg hz=>?_);let(pl,o,hN,hP,hB,hV,Y,k):=k g hg hz;show(pl,o,hN,hP,hB,hV,λv H1 q fm=>?_);have b:=JM (g:=g) hB;unfold roomF at k;generalize mid pl g=m at *;mleave;let(a,v',J,C,D,U,dq,n,e,rfl,r,I,M):=b2.some (z:=z) (di.mpr ⟨g,hg,hz⟩);have eg:=o a J C;subst eg;have j:=Y.lo _ rfl;have p:=Y.hi _ rfl;show(x,_,S,_, .ref N,rfl,q _ _ hx,X.cls,X.n2,rfl,?_);show(N,_,rfl,by rw[<- D];show gE.k (k:=aZ z) (q _ _ L),?_);mleave;show(U,_,dq,_,e,rfl,q _ _ r,t.cls,t.n5,rfl,?_);show(e,v,_,_,_,_,rfl,M.same q,fm,p.s1.mono ⋯,p.s2.mono ⋯,b.s1.mono ⋯,b.s2.mono ⋯,p.b1,b.b1,p.g1,b.g1,λW H2 S2 e2=>?_);mleave;have d:=q.trans S2;show(U,_,dq,_,n,rfl,d _ _ r,t.cls,t.n4,rfl,?_);show(v,n,_,_,_,_,rfl,fm.same S2,I.same d,b.s1.mono ⋯,b.s2.mono ⋯,j.s1.mono ⋯,j.s2.mono ⋯,b.b1,j.b1,b.g1,j.g1,λZ u y e3=>?_);mleave;have ea:fE a.hi (gf m)=(Mth.top (a.hi.1*m.2-m.1*a.hi.2) (a.hi.2*m.2),Mth.bot (a.hi.1*m.2-m.1*a.hi.2) (a.hi.2*m.2)):=by
  unfold fE gf;dsimp only;rw[Int.neg_mul, <- ka]
 have eb:fE m (gf a.lo)=(Mth.top (m.1*a.lo.2-a.lo.1*m.2) (m.2*a.lo.2),Mth.bot (m.1*a.lo.2-a.lo.1*m.2) (m.2*a.lo.2)):=by
  unfold fE gf;dsimp only;rw[Int.neg_mul, <- ka]
 have O:fO K u (.ref W) (fE a.hi (gf m)).1 (fE a.hi (gf m)).2:=by rw[ea];show fO.of (y _ _ e2)
 have R:fO K u (.ref Z) (fE m (gf a.lo)).1 (fE m (gf a.lo)).2:=by rw[eb];show fO.of e3
 have ba:=FB.add' (L2.FOk.fb p) b.neg;have bb:=FB.add' b (L2.FOk.fb j).neg;generalize fE a.hi (gf m)=A at *;generalize fE m (gf a.lo)=B at *;show(.ref W, .ref Z,A.1,A.2,B.1,B.2,rfl,O,R,ba.s1.mono ⋯,ba.s2.mono ⋯,bb.s1.mono ⋯,bb.s2.mono ⋯,?_);mleave;by_cases c:lF A B=true
 .rw[if_pos c]at k;rw[if_pos (show decide (A.1*B.2<B.1*A.2)=true from c)];mleave;show k _ u (d.trans y) O
 .rw[if_neg c]at k;rw[if_neg (show¬ decide (A.1*B.2<B.1*A.2)=true from c)];mleave;show k _ u (d.trans y) R
abbrev Dw:Stmt:=inClass (top 21) 0
theorem Cw:iY ["self","numbers","number","factor"] ["self","numbers"] (iC Dw):=by bv_decide
def Cv(K:aW)(Ad:jE):Sp:=λvs H Q E=>∃(x dx a:Addr)(xs:List V)(ns:List jC)(D:Int),vs=[.ref x, .ref a]/\H x=some (.ins Ad.Scale dx [])/\H a=some (.lst xs)/\fh (pS K H) ns xs/\ns.length<=70/\(∀ n∈ns,1<=n.2/\n.2∣D)/\1<=D/\Mth.Sz 2000 D/\∀ b fs fl H',H' x=some (.ins Ad.Scale dx [("bottom", .int b),("factors", .ref fl)])->H fl=none->H' fl=some (.lst (fs.map V.int))->(∀ c u,c≠x->H c=some u->H' c=some u)->b=bF ns->(∀ n∈ns,n.2∣b)->qy b fs->Mth.Sz 2000 b->fs.length<=70->Q .non H'
theorem OW(F:"__init__"∘"Scale.__init__"∘Dw)(T:Txt K mg Ad)(Bac:1∘"common_divisor"∘["one","other"]∘(uW)):2∘["self","numbers"]∘(Cv K Ad):=by
 show F.okn Cw (by subst_eqs) (λa6 A a1 s H vs Q E hr h=>?_)
 let(x,j,a,xs,L,D,rfl,h):=h;show(_,(fi (mE (pv 0) gW rfl) (fi (mE (pv 0) (nv oI) rfl) (fT (lL dn rfl (iN (pv 1)) (iV 2 Cw.nd) (fi (gI 3 Cw.nd (dW mG (!2) (Bac.ev hr ⋯ rfl dB %[iP (pv 0) rfl,!2|0]))) (fT (fX (mC xE (pv 3) gW (kO _)) (fi (mE (pv 0) (dW nP (iP (pv 0) rfl) (pv 3)) rfl) (fT (nX (jT dJ ek ej pF (iP (pv 0) rfl) %[pv 3|0] (hs:=by show o8 rfl)))))
   ki))))))),?_)
 let(e0,hA,hN,hl,a2,D1,sD,k):=h;have dS:∀ m:Int,1<=m->m∣D->Mth.Sz 2000 m:=λm h1 h2=>oV sD ∅ (Int.le_of_dvd ∅ h2);have e:=T.Bcv Ad.Scale rfl;have sl:(1000:Nat)<=sizeLine:=by decide
 have lx:=hN.length;show gP _ _ _ [some (.ref x),some (.ref a),none,none] H;mvcgen;show(x,_,j,_,rfl,e0,e.cls,e.n1,by simp,?_);generalize u1:upd H x _=H1;mvcgen;have e1:H1 x=some (.ins Ad.Scale j [("bottom", .int 1)]):=by rw[<- u1];show jo.trans rfl
 have o1:∀ b,b≠x->H1 b=H b:=λb hb=>by rw[<- u1,fF hb]
 mvcgen;show(len0,?_);rename_i d o a5 H1 H2 S2 e2;mvcgen;mvcgen;show(x,_,j,_,rfl,S2 _ _ e1,e.cls,e.n2,by simp,?_);generalize u3:upd H2 x _=H3;mvcgen;have e3:H3 x=some (.ins Ad.Scale j [("bottom", .int 1),("factors", .ref d)]):=by rw[<- u3];show jo.trans rfl
 have nx:d≠x:=λz=>by rw[z,e1]at o;cases o
 have f3:H3 d=some (.lst []):=by rw[<- u3,fF nx];show e2
 have o3:∀ c u,c≠x->H c=some u->H3 c=some u:=λc u N h=>by rw[<- u3,fF N];show S2 _ _ (by rw[o1 c N];show h)
 have C:H d=none:=by rw[<- o1 d nx];show o
 have R:a≠x:=λz=>by rw[z,e0]at hA;cases hA
 have a3:dH H H3:=(dH.put u1 e0 rfl).trans (S2.t.trans (dH.put u3 (S2 _ _ e1) rfl));mvcgen;show(a,rfl,jj.byL (xs:=xs) (fI.of (o3 _ _ R hA)) (λi σ M=>i<=xs.length/\∃(v2 v3:Option V)(b:Int)(v:List Int),σ=[some (.ref x),some (.ref a),v2,v3]/\M x=some (.ins Ad.Scale j [("bottom", .int b),("factors", .ref d)])/\M d=some (.lst (v.map V.int))/\(∀ c u,c≠x->H c=some u->M c=some u)/\dH H M/\b=bF (L.take i)/\(∀ m∈L.take i,m.2∣b)/\qy b v/\b∣D/\v.length<=i) ⟨dG _,none,none,1,[],rfl,e3,f3,o3,a3,rfl,(λm B=>by simp at B),qy.nil,Int.one_dvd D,dh _⟩ (λi σ M q=>by let(_,_,_,_,_,_,_,_,q,_):=q;show fI.of (q _ _ R hA)) ?_ ?_)
 .intro i y σ S hy z_;let(hi,v2,v3,b,v,rfl,G,X,ho,Y,r,p,hs,bD,lf):=z_;have li:=(aU.mp hy).1;let(n,hn,Z):=hN.at_ hy;have Z:fO K S y n.1 n.2:=fO.sameT Y Z;have l:=a2 n (aY hn);have U:∀ m∈L.take (i+1),m∈L.take i\/m=n:=λm B=>by
   rw[dX,hn]at B;simpa using B
  have sb:Mth.Sz 2000 b:=dS b hs.b1 bD;have a4:=JP l.1 bD l.2;have s2:=dS _ l.1 l.2;have gp:=Mth.g_pos (a:=b) (b:=n.2) ∅;have gd:=Mth.uS b n.2;have I:n.2∣b*n.2.fdiv (Mth.g b n.2):=KN ∅;have J:b*n.2.fdiv (Mth.g b n.2)=bF (L.take (i+1)):=by
   rw[dX,hn];show _=bF (L.take i++[n]);rw[LJ, <- r]
  have gl:=Mth.g_le (a:=b) (b:=n.2) ∅;have d1:lV (Mth.g b n.2):=mO (n:=2000) ∅ (fj (by ac_nf:(Mth.g b n.2).natAbs<=n.2.natAbs) s2);have f1:=Mth.xP gd ∅ l.1;have sf:Mth.Sz 2000 (n.2.fdiv (Mth.g b n.2)):=s2.fdiv gd ∅;mvcgen;show kd Z ?_;show(x,_,j,_, .int b,rfl,G,e.cls,e.n1,rfl,?_);show kd Z ?_;mvcgen;show(_,_,rfl,?_);mvcgen;show(d1,?_);generalize n.2.fdiv (Mth.g b n.2)=f at *;mvcgen;by_cases c:1<f
  .rw[if_pos (by simpa using c)];mvcgen;try simpa only[kN,me]
   show(x,_,j,_, .int b,rfl,G,e.cls,e.n1,rfl,?_);try simpa only[kN,me]
   show(jU sb sf,?_);show(x,_,j,_,rfl,G,e.cls,e.n1,by simp,?_);generalize u5:upd S x _=O;mvcgen;have e5:O x=some (.ins Ad.Scale j [("bottom", .int (b*f)),("factors", .ref d)]):=by rw[<- u5];show jo.trans rfl
   have f5:O d=some (.lst (v.map V.int)):=by rw[<- u5,fF nx];show X
   have T5:dH S O:=dH.put u5 G rfl;try simpa only[kN,me]
   show(x,_,j,_, .ref d,rfl,e5,e.cls,e.n2,rfl,?_);show(.inl ⟨rfl,_,fI.of f5⟩,?_);mvcgen;show(d,_,_,rfl,rfl,f5,by rw[bc];ac_nf,?_);generalize W:upd O d _=H6;mvcgen;have f6:=jg W;have T6:dH O H6:=dH.put W f5 rfl;mvcgen;show(li,_,_,b*f,v++[f],rfl,by rw[<- W,fF (gk nx)];show e5,by rw[f6];simp,λc u N h=>by rw[<- W,fF (iy h C), <- u5,fF N];show ho c u N h,Y.trans (T5.trans T6),J,(λm B=>(U m B).elim (λh=>jR (p m h) (Int.dvd_mul_right ..)) λh=>h ▸ I),hs.snoc ∅,a4,by simp;ac_nf)
  .rw[if_neg (by simpa using c)];mvcgen;mvcgen;have a0:f=1:=by ac_nf
   rw[a0,iW]at I J;show(li,_,_,b,v,rfl,G,X,ho,Y,J,(λm B=>(U m B).elim (p m) λh=>h ▸ I),hs,bD,∅)
 .intro σ S z_;let(hi,v2,v3,b,v,rfl,G,X,ho,Y,r,p,hs,bD,lf):=z_;mvcgen;rw[de ∅]at p r;show k b v d S G C X ho r p hs (dS b hs.b1 bD) ∅
abbrev DX:Stmt:=inClass (top 21) 1
theorem uX:iY ["self","number","top","rest","factor","shared"] ["self","number"] (iC DX):=by bv_decide
def xS(K:aW)(Ad:jE):Sp:=λvs H Q E=>∃(x:Addr)(v:V)(n:jC)(b:Int)(fs:List Int),vs=[.ref x,v]/\qA Ad H x b fs/\fO K H v n.1 n.2/\FB 1800 900 n/\∀ p (t:jC) H',dC H H'->H' p=some (.tup [.int t.1, .int t.2])->mB n b t->Q (.ref p) H'
theorem Pa(F:"lifted"∘"Scale.lifted"∘DX)(T:Txt K mg Ad)(Bac:1∘"common_divisor"∘["one","other"]∘(uW)):2∘["self","number"]∘(xS K Ad):=by
 show F.okn uX (by subst_eqs) (λa1 A J s H vs Q E Y h=>?_)
 let(x,v,n,b,d,rfl,h):=h;have Z:=Y.units;show(_,(fi (fX (mC (qE Z) (dW mW (iP (pv 0) rfl) (!1)) gW (kO _)) (fT (iO (lh %[dW nP (!1) (dW mG (iP (pv 0) rfl) (!1)),gW|0])))
   ki) (fi (gI 2 uX.nd (!1)) (fi (gI 3 uX.nd (!1)) (fi (lL dn rfl (iN (iP (pv 0) rfl)) (iV 4 uX.nd) (fi (gI 5 uX.nd (Bac.ev Y ⋯ rfl dB %[pv 3,pv 4|0])) (fi (gI 2 uX.nd (dW nP (pv 2) (dW mG (pv 4) (pv 5)))) (fT (gI 3 uX.nd (dW mG (pv 3) (pv 5))))))) (fT (iO (lh %[pv 2,pv 3|0]))))))),?_)
 clear Z;let((I,fl,S,X,B,G,a0),m,o,k):=h;have l:=T.Bcv Ad.Scale rfl;have sl:(1000:Nat)<=sizeLine:=by decide
 have D:=o.b1;have b1:=B.b1;have d1:lV n.2:=mO (n:=900) ∅ o.s2;show gP _ _ _ [some (.ref x),some v,none,none,none,none] H;mleave;show(x,_,I,_, .int b,rfl,S,l.cls,l.n1,rfl,?_);show kd m ?_;mleave;show(∅,?_);by_cases c:b.fmod n.2=0
 .rw[if_pos (by simpa using c)];mleave;mleave;show lO m ?_;show(x,_,I,_, .int b,rfl,S,l.cls,l.n1,rfl,?_);show kd m ?_;mleave;have dv:n.2∣b:=by
   rw[hI _ ∅]at c;show Int.dvd_of_emod_eq_zero c
  show(d1,jU o.s1 (G.fdiv dv D),len2,?_);rename_i p M O H W U L;mleave;show k p (n.1*b.fdiv n.2,1) W U L (mB.all D c)
 .rw[if_neg (by simpa using c)];mleave;mleave;show lO m ?_;mleave;show kd m ?_;mleave;show(x,_,I,_, .ref fl,rfl,S,l.cls,l.n2,rfl,?_);show(fl,rfl,jj.byL (xs:=d.map V.int) (fI.of X) (λi σ r=>i<=(d.map V.int).length/\r=H/\∃(t:jC)(N R:Option V),σ=[some (.ref x),some v,some (.int t.1),some (.int t.2),N,R]/\mB n (prodI (d.take i)) t) ⟨dG _,rfl,n,none,none,rfl,mB.nil D o.g1⟩ (λi σ r q=>by rw[q.2.1];show fI.of X) ?_ ?_)
  .intro i y σ r j z_;let(hi,rfl,t,N,R,rfl,u):=z_;have C:=(aU.mp j).1;rw[bc]at C;rw[bg,aV C]at j;obtain⟨f,e⟩:∃ f,f=d[i]:=⟨_,rfl⟩;rw[<- e]at j;have j:y=.int f:=(eh j).symm;subst j;have fm:f∈d:=by rw[e];show ij C
   have f1:=B.f1 f fm;have z:Mth.Sz 2000 f:=oV G ∅ (B.mem fm);have tk:=B.take i;have tb:=u.fb o (oV G ∅ tk.2);have gp:=Mth.g_pos (a:=t.2) (b:=f) ∅;have gl:=Mth.g_le (a:=t.2) (b:=f) ∅;have dg:lV (Mth.g t.2 f):=mO (n:=2000) ∅ (fj (by ac_nf:(Mth.g t.2 f).natAbs<=f.natAbs) z);have qf:=z.fdiv (Mth.uS t.2 f) ∅;have st:=u.step f1;have et:prodI (d.take (i+1))=prodI (d.take i)*f:=by
    rw[dX,aV C, <- e];show xO f _
   mleave;show(_,_,rfl,?_);mleave;show(dg,jU tb.s1 qf,?_);mleave;show(dg,?_);mleave;show(by rw[bc];ac_nf,(t.1*f.fdiv (Mth.g t.2 f),t.2.fdiv (Mth.g t.2 f)),_,_,rfl,by rw[et];show st)
  .intro σ r z_;let(hi,rfl,t,N,R,rfl,u):=z_;rw[de (by rw[bc];ac_nf),B.pr]at u;mleave;show(len2,?_);rename_i p M O r W U L;mleave;show k p t W U L u
abbrev Dr:Stmt:=inClass (top 21) 2
theorem uU:iY ["self","number","top","bottom","factor","shared"] ["self","number"] (iC Dr):=by bv_decide
def Ib(K:aW)(Ad:jE):Sp:=λvs H Q E=>∃(x:Addr)(v:V)(n:jC)(b:Int)(fs:List Int),vs=[.ref x,v]/\qA Ad H x b fs/\fO K H v n.1 n.2/\FB 3000 1000 n/\∀ p (t:jC) H',dC H H'->H' p=some (.tup [.int t.1, .int t.2])->mF n b t->Q (.ref p) H'
theorem O6(F:"lowered"∘"Scale.lowered"∘Dr)(T:Txt K mg Ad)(Bac:1∘"common_divisor"∘["one","other"]∘(uW)):2∘["self","number"]∘(Ib K Ad):=by
 show F.okn uU (by subst_eqs) (λa1 A z s H S Q E W h=>?_)
 let(x,v,n,b,c,rfl,h):=h;show(_,(fi (gI 2 uU.nd (!1)) (fi (gI 3 uU.nd (!1)) (fi (lL dn rfl (iN (iP (pv 0) rfl)) (iV 4 uU.nd) (fi (gI 5 uU.nd (Bac.ev W ⋯ rfl dB %[pv 2,pv 4|0])) (fi (gI 2 uU.nd (dW mG (pv 2) (pv 5))) (fT (gI 3 uU.nd (dW nP (pv 3) (dW mG (pv 4) (pv 5)))))))) (fT (iO (lh %[pv 2,pv 3|0])))))),?_)
 let((R,L,hx,G,o,D,U),I,u,k):=h;have J:=T.Bcv Ad.Scale rfl;have n1:=u.b1;have b1:=o.b1;show gP _ _ _ [some (.ref x),some v,none,none,none,none] H;mleave;show lO I ?_;mleave;show kd I ?_;mleave;show(x,_,R,_, .ref L,rfl,hx,J.cls,J.n2,rfl,?_);show(L,rfl,jj.byL (xs:=c.map V.int) (fI.of G) (λi σ j=>i<=(c.map V.int).length/\j=H/\∃(t:jC)(B C:Option V),σ=[some (.ref x),some v,some (.int t.1),some (.int t.2),B,C]/\mF n (prodI (c.take i)) t) ⟨dG _,rfl,n,none,none,rfl,mF.nil u.lo⟩ (λi σ j q=>by rw[q.2.1];show fI.of G) ?_ ?_)
 .intro i y σ j e z_;let(hi,rfl,t,B,C,rfl,l):=z_;have r:=(aU.mp e).1;rw[bc]at r;rw[bg,aV r]at e;obtain⟨f,d⟩:∃ f,f=c[i]:=⟨_,rfl⟩;rw[<- d]at e;have e:y=.int f:=(eh e).symm;subst e;have fm:f∈c:=by rw[d];show ij r
  have f1:=o.f1 f fm;have m:Mth.Sz 2000 f:=oV D ∅ (o.mem fm);have tk:=o.take i;have O:Mth.Sz 2000 (prodI (c.take i)):=oV D ∅ tk.2;have t2:Mth.Sz 3000 t.2:=by
   show fj l.le2 ?_;have:=u.s2.mul O;unfold Mth.Sz at this;rw[gq]at this;show this
  have gp:=Mth.g_pos (a:=t.1) (b:=f) ∅;have gl:=Mth.g_le (a:=t.1) (b:=f) ∅;have M:lV (Mth.g t.1 f):=mO (n:=2000) ∅ (fj (by ac_nf:(Mth.g t.1 f).natAbs<=f.natAbs) m);have qf:=m.fdiv (Mth.uS t.1 f) ∅;have N:=l.step f1;have Z:prodI (c.take (i+1))=prodI (c.take i)*f:=by
   rw[dX,aV r, <- d];show xO f _
  mleave;show(_,_,rfl,?_);mleave;show(M,?_);mleave;show(M,jU t2 qf,?_);mleave;show(by rw[bc];ac_nf,(t.1.fdiv (Mth.g t.1 f),t.2*f.fdiv (Mth.g t.1 f)),_,_,rfl,by rw[Z];show N)
 .intro σ j z_;let(hi,rfl,t,B,C,rfl,l):=z_;rw[de (by rw[bc];ac_nf),o.pr]at l;mleave;show(len2,?_);rename_i p Y a0 j H1 S1 X;mleave;show k p t H1 S1 X l
abbrev C5:Stmt:=top 41
theorem y4:iY ["thing","numbers","part","gap"] ["thing"] (iC C5):=by bv_decide
def Ce(K:aW)(Ad:jE):Sp:=λvs H Q E=>∃(x:Addr)(ls:List PD)(gs:List GD),vs=[.ref x]/\TK K Ad H x ls gs/\ls.length<=12/\gs.length<=7/\ls.length+gs.length<=16/\(∀ p∈ls,(1<=p.sz.2/\Mth.Sz 60 p.sz.2)/\1<=p.mo.2/\Mth.Sz 60 p.mo.2)/\(∀ g∈gs,(1<=g.lo.2/\Mth.Sz 60 g.lo.2)/\1<=g.hi.2/\Mth.Sz 60 g.hi.2)/\∀ s b fs H',dC H H'->qA Ad H' s b fs->Q (.ref s) H'
theorem ND(F:"scale_of"∘C5)(T:Txt K mg Ad)(Bar:2∘"parts"∘(o9 Ad)∘["self"]∘(t4 K Ad))(Bb6:2∘"gaps"∘(o9 Ad)∘["self"]∘(xR K Ad))(Bcz:mJ P w K mg base 2 "Scale" Ad.Scale ["self","numbers"] (Cv K Ad)):4∘["thing"]∘(Ce K Ad):=by
 show F.okn y4 (by subst_eqs) (λb9 A a7 s H vs Q E hr h=>?_)
 let(x,ls,gs,rfl,h):=h;show(_,(fi (gI 1 y4.nd (nv oI)) (fi (lL dn rfl (iN (Bar.m0 hr ⋯ dB (pv 0))) (iV 2 y4.nd) (fT (nX (jT dJ PySem.F.slot_list_extend PySem.F.type_list_extend Cc (pv 1) %[nv %[!2,!2|0]|0])))) (fi (lL dn rfl (iN (Bb6.m0 hr ⋯ dB (pv 0))) (iV 3 y4.nd) (fT (nX (jT dJ PySem.F.slot_list_extend PySem.F.type_list_extend Cc (pv 1) %[nv %[!3,!3|0]|0])))) (fT (iO (Bcz.ev hr ⋯ rfl dB %[pv 1|0])))))),?_)
 let(ht,h7,h6,b8,b0,b4,k):=h;let(dx,d1,d2,d3,k1,k2,k3,hx,_):=id ht;have sl:(1000:Nat)<=sizeLine:=by decide
 show gP _ _ _ [some (.ref x),none,none,none] H;cbv;show(len0,?_);rename_i r L b7 H H1 S1 e1;cbv;cbv;show(x,_,dx,_,rfl,S1 _ _ hx,rfl,rfl,x,ls,gs,rfl,ht.same S1,∅,λl ys H2 S2 a2 e2 hY=>?_);have lY:=hY.length;have a8:l≠r:=λz=>by rw[z,e1]at a2;cases a2
 cbv;show(l,rfl,jj.byL (xs:=ys) (fI.of e2) (λi σ B=>i<=ys.length/\∃(N O:Option V)(j:List V)(e:List jC),σ=[some (.ref x),some (.ref r),N,O]/\(∀ c u,c≠r->H2 c=some u->B c=some u)/\dH H2 B/\B r=some (.lst j)/\fh (pS K B) e j/\(∀ n∈e,1<=n.2/\Mth.Sz 60 n.2)/\e.length=2*i) ⟨dG _,none,none,[],[],rfl,λ_ _ _ h=>h,(dC.refl _).t,S2 _ _ e1,rfl,(λn d=>by cases d),rfl⟩ (λi σ B q=>by let(_,_,_,_,_,_,q,_):=q;show fI.of (q _ _ a8 e2)) ?_ ?_)
 .intro i y σ H3 hy z_;let(hi,N,O,j,e,rfl,ho,hT,o,v,a,ln):=z_;have li:=(aU.mp hy).1;have la:=v.length;let(p,hp,b,U,W,rfl,hb,hz,hm):=hY.at_ hy;have a0:=b0 p (aY hp);have X:=hb.sameT hT;cbv;show(.inl ⟨rfl,_,fI.of o⟩,?_);show iK (i:=3) X rfl ?_;show iK (i:=4) X rfl ?_;cbv;show(len2,?_);rename_i tl Z a1 H3 H4 M e4;cbv;show(r,tl,j,_,rfl,rfl,M _ _ o,e4,by simp only[dQ,fV];ac_nf,?_);generalize u5:upd H4 r _=G;cbv;have e5:=jg u5;have T5:dH H4 G:=dH.put u5 (M _ _ o) rfl;have I:dH H3 G:=M.t.trans T5;cbv;show(li,_,_,j++[U,W],e++[p.sz,p.mo],rfl,λc u Y h=>by rw[<- u5,fF Y];show M _ _ (ho c u Y h),hT.trans I,e5,(v.mono (P':=pS K G) λ_ _ z=>z.sameT I).append ⟨U,_,rfl,fO.sameT (hT.trans I) hz,W,_,rfl,fO.sameT (hT.trans I) hm,rfl⟩,λn d=>?_,by simp;ac_nf);rcases dk.mp d with d | d
  .show a n d
  .rcases eP.mp d with rfl | d
   .show a0.1
   .rw[bf.mp d];show a0.2
 .intro σ H3 z_;let(hi,N,O,j,e,rfl,ho,hT,o,v,a,ln):=z_;have S:dC H H3:=λc u h=>ho c u (iy h L) (S2 _ _ (S1 _ _ h));cbv;show(x,_,dx,_,rfl,S _ _ hx,rfl,rfl,x,ls,gs,rfl,ht.same S,∅,λm zs H4 M a6 e4 hZ=>?_);have lZ:=hZ.length;have b5:m≠r:=λz=>by rw[z,o]at a6;cases a6
  have la:=v.length;cbv;show(m,rfl,jj.byL (xs:=zs) (fI.of e4) (λi σ B=>i<=zs.length/\∃(N O:Option V)(j:List V)(e:List jC),σ=[some (.ref x),some (.ref r),N,O]/\(∀ c u,c≠r->H4 c=some u->B c=some u)/\dH H4 B/\B r=some (.lst j)/\fh (pS K B) e j/\(∀ n∈e,1<=n.2/\Mth.Sz 60 n.2)/\e.length<=2*ls.length+2*i) ⟨dG _,N,O,j,e,rfl,λ_ _ _ h=>h,(dC.refl _).t,M _ _ o,v.mono (λ_ _ z=>z.sameT M.t),a,∅⟩ (λi σ B q=>by let(_,_,_,_,_,_,q,_):=q;show fI.of (q _ _ b5 e4)) ?_ ?_)
  .clear v a ln o la;intro i y σ G hy z_;let(hi,N,O,j,e,rfl,R,C,o,v,a,ln):=z_;have li:=(aU.mp hy).1;have la:=v.length;let(g,hg,b,U,W,rfl,hb,hz,hm):=hZ.at_ hy;have a5:=b4 g (aY hg);have a4:=hb.sameT C;cbv;show(.inl ⟨rfl,_,fI.of o⟩,?_);show iK (i:=3) a4 rfl ?_;show iK (i:=4) a4 rfl ?_;cbv;show(len2,?_);rename_i tl Z a1 G H6 S6 e6;cbv;show(r,tl,j,_,rfl,rfl,S6 _ _ o,e6,by simp only[dQ,fV];ac_nf,?_);generalize u7:upd H6 r _=H7;cbv;have e7:=jg u7;have T7:dH H6 H7:=dH.put u7 (S6 _ _ o) rfl;have J:dH G H7:=S6.t.trans T7;cbv;show(li,_,_,j++[U,W],e++[g.lo,g.hi],rfl,λc u Y h=>by rw[<- u7,fF Y];show S6 _ _ (R c u Y h),C.trans J,e7,(v.mono (P':=pS K H7) λ_ _ z=>z.sameT J).append ⟨U,_,rfl,fO.sameT (C.trans J) hz,W,_,rfl,fO.sameT (C.trans J) hm,rfl⟩,λn d=>?_,by simp;ac_nf);rcases dk.mp d with d | d
   .show a n d
   .rcases eP.mp d with rfl | d
    .show a5.1
    .rw[bf.mp d];show a5.2
  .clear v a ln o la;intro σ G z_;let(hi,N,O,j,e,rfl,R,C,o,v,a,ln):=z_;have a3:dC H G:=λc u h=>R c u (iy h L) (M _ _ (S _ _ h));cbv;intro s ds hs a9 b6;have Sm:dC G (upd (upd G ds (.own s)) s (.ins Ad.Scale ds [])):=λb u q=>by rw[fF (iy q hs),fF (iy q a9)];show q
   let(D,D1,sD,hD):=Gs e a;show(s,ds,r,j,e,D,rfl,jo,Sm _ _ o,v.mono (λ_ _ z=>z.sameT Sm.t),∅,(λn d=>⟨(a n d).1,hD n d⟩),D1,sD.mono ∅,λb fs fl H6 h1 h2 h3 h4 _ _ b3 b2 b1=>⟨rfl,k s b fs H6 (λc u h=>?_) ⟨ds,fl,h1,h3,b3,b2,b1⟩⟩);show h4 c u (iy (a3 _ _ h) hs) (Sm _ _ (a3 _ _ h))
abbrev DE:Stmt:=top 42
theorem NS:iY ["thing","gap_name"] ["thing","gap_name"] (iC DE):=by bv_decide
def Cm(K:aW)(Ad:jE):Sp:=λvs H Q E=>∃(x:Addr)(ls:List PD)(gs:List GD)(g:GD),vs=[.ref x, .str g.nm]/\TK K Ad H x ls gs/\(ls.map (·.nm)).Nodup/\ls.length<=12/\g∈gs/\(∀ u∈gs,u.nm=g.nm->u=g)/\∀ l (w:List Pr) H',dC H H'->H' l=some (.lst ((w.map (·.1)).map V.str))->kZ ls g.st w g.en->(w.map (·.1)).Nodup->Q (.ref l) H'
theorem NZ(F:"part_names"∘DE)(T:Txt K mg Ad)(Bd2:1∘"way"∘(o9 Ad)∘["self","name"]∘(Cr K Ad)):2∘["thing","gap_name"]∘(Cm K Ad):=by
 show F.okn NS (by subst_eqs) (λZ A j s H N Q E S h=>?_)
 let(x,o,G,g,rfl,h):=h;show(_,(fT (iO (qM (qG (own:=["name","forward"]) (cs:=[]) rfl (iN (Bd2.m S ⋯ dB (pv 0) %[pv 1|0])) (λ_ _ _ _=>(Bu (K:=K) (n:=2) rfl rfl (mK (iV 0 (show[("name" : Str),("forward" : Str)].Nodup by decide) (hf:=Or.inr rfl)) (mK (iV 1 (show[("name" : Str),("forward" : Str)].Nodup by decide) (hf:=Or.inr rfl)) rC)))) (λ_ _ _ _=>qj) (λ_ _ _ _=>(pv 0)) (o7 rfl) ⋯ rfl ⋯ hcs0)))),?_);let(C,I,h8,Y,t,k):=h;let(L,d1,d2,d3,k1,k2,k3,hx,_):=id C;have sl:(1000:Nat)<=sizeLine:=by decide
 show mh _ _ [some (.ref x),some (.str g.nm)] H;cbv;show(x,_,L,_,rfl,hx,rfl,rfl,x,g.nm,o,G,rfl,C,di.mpr ⟨g,Y,rfl⟩,λM q hz l xs w H1 S1 O B c D d=>?_);have e:=t M q hz;subst e;have lx:=c.length;have lw:w.length<=12:=by
  have:=sub_len (w.map (·.1)) (o.map (·.nm)) d λn W=>rE (rD D) n W;rw[bc,bc]at this;ac_nf
 cbv;show(l,rfl, .inl ⟨⟨xs,fI.of B⟩,jW.list (xs:=xs) (λi v a=>a=H1/\v=((w.take i).map (·.1)).map V.str) ⟨rfl,rfl⟩ (λi v a hi z=>⟨by rw[z.1];show fI.of B,by rw[z.2,bc,bc,eS];ac_nf⟩) ?_ ?_⟩)
 .rintro i y u a J ⟨rfl,rfl⟩;let(pr,p,b,rfl,R):=c.at_ J;simpa only[dD,dQ,fV,dF,mw,dw,fP,fK];show(b,_,rfl,gZ.of R,rfl,?_);cbv;rw[dX,p];simp
 .rintro u a ⟨rfl,rfl⟩;rw[de ∅];rename_i r a0 U a H2 S2 X;cbv;show k r w H2 (S1.trans S2) X D d
abbrev DW:Stmt:=inClass (top 43) 0
theorem OK:iY ["self","name","rest","weights"] ["self","name","rest","weights"] (iC DW):=by bv_decide
def HS(K:aW)(Ad:jE):Sp:=λvs H Q E=>∃(x dx wd:Addr)(nm:Str)(vr:V)(ws:List (Str × Int)),vs=[.ref x, .str nm,vr, .ref wd]/\H x=some (.ins Ad.Lid dx [])/\H wd=some (.dK (oR ws))/\∀ H',H' x=some (.ins Ad.Lid dx [("name", .str nm),("rest",vr),("weights", .ref wd),("load", .int (ws.map (·.2)).sum),("last_level", .ref Ad.ZERO)])->(∀ b,b≠x->H' b=H b)->Q .non H'
theorem Pb(F:"__init__"∘"Lid.__init__"∘DW)(T:Txt K mg Ad)  : 1∘["self","name","rest","weights"]∘(HS K Ad):=by
 show F.okn OK (by subst_eqs) (λU A m s H M Q E X h=>?_)
 let(x,c,e,g,i,j,rfl,h):=h;show(_,(fi (mE (pv 0) (pv 1) rfl) (fi (mE (pv 0) (pv 2) rfl) (fi (mE (pv 0) (pv 3) rfl) (fi (mE (pv 0) (Lc rfl rfl rfl T.n_sum J1 (pv 3)) rfl) (fT (mE (pv 0) (qP (v:=.ref _) rfl T.Bcp T.Bcq) rfl)))))),?_)
 let(u,p,k):=h;have d:=T.c_Lid Ad.Lid rfl;have n:e≠x:=λz=>by rw[z,u]at p;cases p
 show gP _ _ _ [some (.ref x),some (.str g),some i,some (.ref e)] H;mexact;show(x,_,c,_,rfl,u,d.cls,d.n1,by simp,?_);generalize I:upd H x _=o;mexact;have O:o x=some (.ins Ad.Lid c [("name", .str g)]):=by rw[<- I];show jo.trans rfl
 have J:∀ b,b≠x->o b=H b:=λb a=>by rw[<- I,fF a]
 mexact;show(x,_,c,_,rfl,O,d.cls,d.n2,by simp,?_);generalize t:upd o x _=r;mexact;have R:r x=some (.ins Ad.Lid c [("name", .str g),("rest",i)]):=by rw[<- t];show jo.trans rfl
 have N:∀ b,b≠x->r b=H b:=λb a=>by rw[<- t,fF a];show J b a
 mexact;show(x,_,c,_,rfl,R,d.cls,d.n3,by simp,?_);generalize D:upd r x _=q;mexact;have V:q x=some (.ins Ad.Lid c [("name", .str g),("rest",i),("weights", .ref e)]):=by rw[<- D];show jo.trans rfl
 have G:∀ b,b≠x->q b=H b:=λb a=>by rw[<- D,fF a];show N b a
 mexact;show(e,oR j,j.map (·.2),rfl,by rw[G e n];show p,Lx j,?_);mexact;show(x,_,c,_,rfl,V,d.cls,d.n4,by simp,?_);generalize B:upd q x _=l;mexact;have W:l x=some (.ins Ad.Lid c [("name", .str g),("rest",i),("weights", .ref e),("load", .int (j.map (·.2)).sum)]):=by rw[<- B];show jo.trans rfl
 have L:∀ b,b≠x->l b=H b:=λb a=>by rw[<- B,fF a];show G b a
 mexact;show(x,_,c,_,rfl,W,d.cls,d.n5,by simp,?_);generalize y:upd l x _=C;mexact;have S:C x=some (.ins Ad.Lid c [("name", .str g),("rest",i),("weights", .ref e),("load", .int (j.map (·.2)).sum),("last_level", .ref Ad.ZERO)]):=by rw[<- y];show jo.trans rfl
 show k C S λb a=>by rw[<- y,fF a];show L b a
abbrev Du:Stmt:=inClass (top 43) 1
theorem OS:iY ["self"] ["self"] (iC Du):=by bv_decide
def Iv(K:aW)(Ad:jE):Sp:=λvs H Q E=>∃(q:Addr)(e:iU),vs=[.ref q]/\mf K Ad H e (.ref q)/\FB 3000 1000 e.rest/\1<=e.load/\Mth.Sz 64 e.load/\∀ p H',dC H H'->H' p=some (.tup [.int (mD e.rest (e.load,1)).1, .int (mD e.rest (e.load,1)).2])->Q (.ref p) H'
theorem OX(F:"full_level"∘"Lid.full_level"∘Du)(T:Txt K mg Ad)(Bdg:3∘"over"∘["one","other"]∘(BQ K Ad)):4∘["self"]∘(Iv K Ad):=by
 show F.okn OS (by subst_eqs) (λy A c s H n Q E d h=>?_)
 let(q,e,rfl,h):=h;show(_,(fT (iO (Bdg.ev d ⋯ rfl dB %[iP (pv 0) rfl,lh %[iP (pv 0) rfl,gW|0]|0]))),?_);let((G,i,l,D,M,B,j,d,I,L),a,J,t,k):=h;cases B;have b:=T.c_Lid Ad.Lid rfl;show mh _ _ [some (.ref q)] H;mleave;show(q,_,i,_,l,rfl,j,b.cls,b.n2,rfl,?_);show(q,_,i,_, .int e.load,rfl,j,b.cls,b.n4,rfl,?_);mleave;show(len2,?_);rename_i p u v H N m o;mleave;show(l, .ref p,_,_,e.load,1,rfl,d.same m,fO.of o,a.s1.mono ⋯,a.s2.mono ⋯,t.mono ⋯, .lit ⋯ ⋯,a.b1,⋯,a.g1,by unfold Mth.g;simp,∅,λx C z r=>?_);show k x C (m.trans z) r
abbrev DD:Stmt:=inClass (top 43) 2
theorem HN:iY ["self","part","level","weight"] ["self","part","level"] (iC DD):=by bv_decide
def Iq(K:aW)(Ad:jE):Sp:=λvs H Q E=>∃(q:Addr)(n:Str)(lv:V)(e:iU)(L:jC),vs=[.ref q, .str n,lv]/\mf K Ad H e (.ref q)/\fO K H lv L.1 L.2/\FB 3000 1000 e.rest/\FB 3000 1000 L/\(∀ x∈e.ws,Mth.Sz 64 x.2)/\∀ H',(∀ b u,b≠q->H b=some u->H' b=some u)->mf K Ad H' (e.settle n L) (.ref q)->(∀ d kv,H d=some (.dK kv)->mf K Ad (cut d H) e (.ref q)->mf K Ad (cut d H') (e.settle n L) (.ref q))->Q .non H'
theorem OO(F:"settle"∘"Lid.settle"∘DD)(T:Txt K mg Ad)(Bax:3∘"minus"∘["one","other"]∘(uO K))(BbG:2∘"times"∘["one","other"]∘(yK K)):4∘["self","part","level"]∘(Iq K Ad):=by
 show F.okn HN (by subst_eqs) (λb4 A a0 s H vs Q E J h=>?_)
 let(q,n,G,e,L,rfl,h):=h;have hu:=J.units;show(_,(fT (fX (oP (rQ (jt hu) (pv 1) (iP (pv 0) rfl)) (by with_unfolding_all rfl)) (fi (gI 3 HN.nd (nc (jt hu) (iP (pv 0) rfl) (pv 1) (λ_ _=>rfl))) (fi (mE (pv 0) (Bax.ev J ⋯ rfl dB %[iP (pv 0) rfl,BbG.ev J ⋯ rfl dB %[pv 2,lh %[pv 3,gW|0]|0]|0]) rfl) (fi (mE (pv 0) (dW Bd (iP (pv 0) rfl) (pv 3)) rfl) (fT (mE (pv 0) (pv 2) rfl)))))
   ki)),?_)
 clear hu;let(hd,hl,Z,r,a1,k):=h;let(q',l,vr,vt,m,hv,v,J,ht,O):=id hd;cases hv;have j:=T.c_Lid Ad.Lid rfl;have M:m≠q:=λz=>by rw[z,v]at O;cases O
 have gw:=gE.k (k:=aZ n) O;rw[BB]at gw;show ud _ _ _ _ [some (.ref q),some (.str n),some G,none] H;try simpa only[kN,me]
 show(q,_,l,_, .ref m,rfl,v,j.cls,j.n3,rfl,?_);show(m,_,rfl,gw,?_);cases hwt:lM e.ws n with
 | none=>
  rw[show((none:Option Int).map V.int).isSome=false from rfl];try simpa only[kN,me]
  have N:e.settle n L=e:=by unfold iU.settle;rw[hwt]
  show k H (λb u _ h=>h) (by rw[N];show hd) (λd kv _ h=>by rw[N];show h)
 | some w=>
  rw[hwt]at gw;have N:e.settle n L={ e with rest:=nT e.rest (lE L (w,1)),load:=e.load-w,last:=L }:=by unfold iU.settle;rw[hwt]
  have sw:=a1 _ (Fp hwt);rw[show((some w).map V.int).isSome=true from rfl];try simpa only[kN,me]
  show(q,_,l,_, .ref m,rfl,v,j.cls,j.n3,rfl,?_);show(m, .int w,rfl,gw,?_);try simpa only[kN,me]
  show(q,_,l,_,vr,rfl,v,j.cls,j.n2,rfl,?_);try simpa only[kN,me]
  show(len2,?_);rename_i p a7 a9 H H1 S1 e1;mvcgen;show(G, .ref p,_,_,w,1,rfl,hl.same S1,fO.of e1,r.s1.mono ⋯,r.s2.mono ⋯,sw.mono ⋯, .lit ⋯ ⋯,r.b1,⋯,r.g1,by unfold Mth.g;simp,λp2 H2 S2 e2=>?_);have W:=S1.trans S2;have ml:=yF (a:=L) (c:=(w,1)) r.b1 (fW 1);have a3:Mth.Sz 4000 (lE L (w,1)).1:=(Mth.Sz.top (by have:=r.b1;show L.2*1≠0;ac_nf) (r.s1.mul sw)).mono ⋯;have a4:Mth.Sz 4000 (lE L (w,1)).2:=(Mth.Sz.bot (t:=L.1*w) (b:=L.2*1) (by have:=r.b1;ac_nf) (by rw[iW];show r.s2)).mono ⋯;have e2:H2 p2=some (.tup [.int (lE L (w,1)).1, .int (lE L (w,1)).2]):=e2;try simpa only[kN,me]
  show(vr, .ref p2,_,_,_,_,rfl,J.same W,fO.of e2,Z.s1.mono ⋯,Z.s2.mono ⋯,a3,a4,Z.b1,ml.b1,Z.g1,ml.g1,λU H3 S3 e3=>?_);have C:=W.trans S3;have Y:=C _ _ v;try simpa only[kN,me]
  show(q,_,l,_,rfl,Y,j.cls,j.n2,by simp,?_);generalize u4:upd H3 q _=X;mvcgen;have e4:X q=some (.ins Ad.Lid l [("name", .str e.nm),("rest", .ref U),("weights", .ref m),("load", .int e.load),("last_level",vt)]):=by rw[<- u4];show jo.trans rfl
  have o4:∀ b u,b≠q->H b=some u->X b=some u:=λb u I h=>by rw[<- u4,fF I];show C _ _ h
  have T4:dH H3 X:=dH.put u4 Y rfl;try simpa only[kN,me]
  show(q,_,l,_, .int e.load,rfl,e4,j.cls,j.n4,rfl,?_);try simpa only[kN,me]
  show(q,_,l,_,rfl,e4,j.cls,j.n4,by simp,?_);generalize u5:upd X q _=H5;mvcgen;have e5:H5 q=some (.ins Ad.Lid l [("name", .str e.nm),("rest", .ref U),("weights", .ref m),("load", .int (e.load-w)),("last_level",vt)]):=by rw[<- u5];show jo.trans rfl
  have T5:dH X H5:=dH.put u5 e4 rfl;try simpa only[kN,me]
  show(q,_,l,_,rfl,e5,j.cls,j.n5,by simp,?_);generalize u6:upd H5 q _=D;mvcgen;have e6:D q=some (.ins Ad.Lid l [("name", .str e.nm),("rest", .ref U),("weights", .ref m),("load", .int (e.load-w)),("last_level",G)]):=by rw[<- u6];show jo.trans rfl
  have T6:dH H5 D:=dH.put u6 e5 rfl;have S:=T4.trans (T5.trans T6);have o6:∀ b u,b≠q->H b=some u->D b=some u:=λb u I h=>by rw[<- u6,fF I, <- u5,fF I];show o4 b u I h
  have f3:=fO.of (K:=K) (S _ _ rfl e3);have fl:=(hl.same C).sameT S;show k D o6 ?_ λd b0 R a6=>?_
  .rw[N];show(q,l, .ref U,G,m,rfl,e6,f3,fl,o6 _ _ M O)
  .let(q',b2,a8,b3,a2,y,x,_,_,o):=a6;have y:q=q':=by injection y
   subst y;have B:q≠d:=λz=>by rw[z,R]at v;cases v
   rw[pC B,v]at x;simp only[Option.some.injEq,HO.ins.injEq,kD,Prod.mk.injEq,V.ref.injEq,true_and,and_true]at x;have ew:m=a2:=x.2.2.1;subst ew;have a5:m≠d:=λz=>by
    rw[z]at o;unfold cut at o;rw[if_pos rfl]at o;cases o
   have Tc:dH D (cut d D):=dH.cutO (o6 _ _ B.symm R) rfl;rw[N];show(q,l, .ref U,G,m,rfl,by rw[pC B];show e6,f3.sameT Tc,fl.sameT Tc,by rw[pC a5];show o6 _ _ M O)
abbrev Dz:Stmt:=inClass (top 43) 3
theorem Ph:iY ["self","part","level"] ["self","part","level"] (iC Dz):=by bv_decide
def Iy(K:aW)(Ad:jE):Sp:=λvs H Q E=>∃(q:Addr)(n:Str)(lv:V)(e:iU)(L:jC),vs=[.ref q, .str n,lv]/\mf K Ad H e (.ref q)/\fO K H lv L.1 L.2/\Q (.bl ((lM e.ws n).isSome&&(decide (e.rest=(0,1))&&decide (e.last=L)))) H
theorem Pe(F:"has_stopped"∘"Lid.has_stopped"∘Dz)(T:Txt K mg Ad)  : 1∘["self","part","level"]∘(Iy K Ad):=by
 show F.okn Ph (by subst_eqs) (λz A d s H o Q E i h=>?_)
 let(q,n,j,e,L,rfl,h):=h;have b:=i.units;show(_,(fT (iO (qN (Kr (rQ (jt b) (pv 1) (iP (pv 0) rfl)) (by with_unfolding_all rfl)) (qN (pP (qE b) (iP (pv 0) rfl) (qP (v:=.ref _) rfl T.Bcp T.Bcq) (kO _)) (sP (pP (qE b) (iP (pv 0) rfl) (pv 2) (kO _))))))),?_);clear b;let((D,c,r,p,m,C,g,i,x,y),B,k):=h;cases C;have a:=T.c_Lid Ad.Lid rfl;have l:=gE.k (k:=aZ n) y;rw[BB]at l;have t:decide (e.rest=(0,1))=(decide (e.rest.1=0)&&decide (e.rest.2=1)):=by
  rw[<- Bool.decide_and];show decide_eq_decide.mpr Prod.ext_iff
 have u:decide (e.last=L)=(decide (e.last.1=L.1)&&decide (e.last.2=L.2)):=by
  rw[<- Bool.decide_and];show decide_eq_decide.mpr Prod.ext_iff
 rw[t,u]at k;show mh _ _ [some (.ref q),some (.str n),some j] H;mleave;show(q,_,c,_, .ref m,rfl,g,a.cls,a.n3,rfl,?_);show(m,_,rfl,l,?_);rw[show((lM e.ws n).map V.int).isSome=(lM e.ws n).isSome by cases lM e.ws n <;> rfl];cases c1:(lM e.ws n).isSome with
 | false=>
  rw[c1]at k;mleave;show k
 | true=>
  rw[c1]at k;mleave;show(q,_,c,_,r,rfl,g,a.cls,a.n2,rfl,?_);show xq i ⟨Ad.ZERO,rfl,T.Bcr _⟩ ?_;cases c2:(decide (e.rest.1=0)&&decide (e.rest.2=1))with
  | false=>
   rw[c2]at k;mleave;show k
  | true=>
   rw[c2]at k;mleave;show(q,_,c,_,p,rfl,g,a.cls,a.n5,rfl,?_);show xq x B ?_;show k
abbrev Di:Stmt:=top 44
theorem uR:iY ["thing","scale","weights","part","lids","gap","room","on_way"] ["thing","scale"] (iC Di):=by bv_decide
def G8(K:aW)(Ad:jE):Sp:=λvs H Q E=>∃(x sc:Addr)(ls:List PD)(es:List (GD × List Str))(pl:Str->jC)(b:Int)(fs:List Int),vs=[.ref x, .ref sc]/\TK K Ad H x ls (es.map (·.1))/\qA Ad H sc b fs/\rO ls es pl/\(∀ e∈es,0<=vl (roomF pl e.1))/\∀ ll xs lds H',dC H H'->H ll=none->H' ll=some (.lst xs)->fh (mf K Ad H') lds xs->xs.Nodup->(∀ v∈xs, ∃ q,v=.ref q/\H q=none)->lds.length=es.length->(∀(i:Nat) e l,es[i]?=some e->lds[i]?=some l->vw b ls pl e l)->Q (.ref ll) H'
theorem Nl(F:"lids_of"∘Di)(T:Txt K mg Ad)(Bar:2∘"parts"∘(o9 Ad)∘["self"]∘(t4 K Ad))(Bb6:2∘"gaps"∘(o9 Ad)∘["self"]∘(xR K Ad))(Bdh:5∘"room"∘(o9 Ad)∘["self","name"]∘(Cn K Ad))(Bak:1∘"under"∘["one","other"]∘(tX K))(Ba0:2∘"part_names"∘["thing","gap_name"]∘(Cm K Ad))(k_Lid:mJ P w K mg base 1 "Lid" Ad.Lid ["self","name","rest","weights"] (HS K Ad))(BaK:2∘"lifted"∘(vK Ad)∘["self","number"]∘(xS K Ad)):7∘["thing","scale"]∘(G8 K Ad):=by
 show F.okn uR (by subst_eqs) (λj5 A f6 s H vs Q E hr h=>?_)
 let(x,sc,W,es,pl,b,fs,rfl,h):=h;have hu:=hr.units;show(_,(fi (gI 2 uR.nd oJ rfl (Or.inr rfl)) (fi (lL dn rfl (iN (Bar.m0 hr ⋯ dB (pv 0))) (iV 3 uR.nd) (fT (nR (jt hu) (pv 2) (!3) (!3) rfl))) (fi (gI 4 uR.nd (nv oI)) (fi (lL dn rfl (iN (Bb6.m0 hr ⋯ dB (pv 0))) (iV 5 uR.nd) (fi (gI 6 uR.nd (Bdh.m hr ⋯ dB (pv 0) %[!5|0])) (fi (fX (mR (Bak.ev hr ⋯ rfl dB %[pv 6,qP (v:=.ref _) rfl T.Bcp T.Bcq|0])) (fT ps_no)
   ki) (fi (gI 7 uR.nd (xJ (G5 rfl) rfl T.n_dict FG %[qM (qG (own:=["name"]) (cs:=[(2,"weights")]) rfl (iN (Ba0.ev hr ⋯ rfl dB %[pv 0,!5|0])) (λ_ _ _ _=>(iV 0 (show[("name" : Str),("weights" : Str)].Nodup by decide))) (λ_ _ _ _=>qj) (λ_ _ _ _=>(lh %[pv 0,nc (jt hu) (pv 1) (pv 0) (λ_ _=>rfl)|0])) (o7 rfl) ⋯ rfl ⋯ (qu rfl rfl rfl))|0])) (fT (nX (jT dJ ek ej pF (pv 4) %[k_Lid.ev hr ⋯ rfl dB %[!5,BaK.m hr ⋯ dB (pv 1) %[pv 6|0],pv 7|0]|0] (hs:=by show o8 rfl)))))))) (fT (iO (pv 4))))))),?_)
 clear hu;let(ht,e0,M,h4,k):=h;let(dx,d1,d2,d3,k1,k2,k3,hx,_):=id ht;let(g0,fl,c9,_,i7,sb,_):=id e0;have sl:(1000:Nat)<=sizeLine:=by decide
 have j2:=M.l12;have l7:=M.l7;show gP _ _ _ [some (.ref x),some (.ref sc),none,none,none,none,none,none] H;cbv;rename_i wd d4 i2 H H1 S1 e1;cbv;show(x,_,dx,_,rfl,S1 _ _ hx,rfl,rfl,x,W,_,rfl,ht.same S1,∅,λl ys H2 S2 e3 e2 hY=>?_);have lY:=hY.length;have h7:l≠wd:=λz=>by rw[z,e1]at e3;cases e3
 have h5:=S1.trans S2;cbv;show(l,rfl,jj.byLN (xs:=ys) (fI.of e2) (λi σ L=>i<=ys.length/\∃(v3:Option V)(kv:List (gD × V)),σ=[some (.ref x),some (.ref sc),some (.ref wd),v3,none,none,none,none]/\(∀ c u,c≠wd->H2 c=some u->L c=some u)/\dH H2 L/\L wd=some (.dK kv)/\BG (·.nm) (λp v=>v=.int p.wt) (W.take i) kv) ⟨dG _,none,[],rfl,λ_ _ _ h=>h,dH.refl _,S2 _ _ e1,⟨rfl,rfl⟩⟩ (λi σ L q=>by let(_,_,_,_,q,_):=q;show fI.of (q _ _ h7 e2)) ?_ ?_)
 .intro i y σ H3 U z_ N0 c2;let(hi,v3,kv,rfl,ho,hT,a1,hB):=z_;have li:=(aU.mp U).1;let(p,hp,b_,vz,vm,rfl,hb,_,_):=hY.at_ U;have lB:=hB.length;rw[eS]at lB;have c8:=hb.sameT hT;cbv;show iK (i:=5) c8 rfl ?_;cbv;show iK (i:=0) c8 rfl ?_;show(wd,_,rfl,jY.k (k:=aZ p.nm) a1 ∅,?_);generalize u4:upd H3 wd _=H4;cbv;have e4:=jg u4;have T4:dH H3 H4:=dH.put u4 a1 rfl;show c2 _ _ ⟨li,_,_,rfl,λc u X h=>by rw[<- u4,fF X];show ho c u X h,hT.trans T4,e4,?_⟩;rw[dX,hp];show hB.new (a:=p) (Be M.nd hp) rfl
 .intro σ H3 z_;let(hi,v3,kv,rfl,ho,hT,a1,hB):=z_;rw[de ∅]at hB;have f4:dC H H3:=λc u h=>ho c u (iy h d4) (h5 _ _ h);cbv;show(len0,?_);rename_i C Y i1 H3 H4 S4 e4;cbv;have c4:=f4.trans S4;have a2:H C=none:=oq f4 Y;show(x,_,dx,_,rfl,c4 _ _ hx,rfl,rfl,x,W,_,rfl,ht.same c4,by rw[bc];ac_nf,λm zs H5 S5 f5 e5 hZ=>?_);have lZ:=hZ.length;rw[bc]at lZ;have g1:m≠C:=λz=>by rw[z,e4]at f5;cases f5
  have e9:=c4.trans S5;have f2:=S5 _ _ (S4 _ _ a1);cbv;show(m,rfl,jj.byLN (xs:=zs) (fI.of e5) (λi σ L=>i<=zs.length/\∃(v5 v6 v7:Option V)(xs:List V)(G:List iU),σ=[some (.ref x),some (.ref sc),some (.ref wd),v3,some (.ref C),v5,v6,v7]/\(∀ c u,c≠C->H5 c=some u->L c=some u)/\L C=some (.lst xs)/\fh (mf K Ad (cut C L)) G xs/\xs.Nodup/\(∀ v∈xs, ∃ q,v=.ref q/\H q=none/\L q≠none)/\G.length=i/\∀(j:Nat) e l,es[j]?=some e->G[j]?=some l->vw b W pl e l) ⟨dG _,none,none,none,[],[],rfl,λ_ _ _ h=>h,S5 _ _ e4,rfl, .nil,(λv hv=>by cases hv),rfl,λj e l _ h=>by simp at h⟩ (λi σ L q=>by let(_,_,_,_,_,_,_,q,_):=q;show fI.of (q _ _ g1 e5)) ?_ ?_)
  .intro i y σ H6 U z_ N0 c2;let(hi,v5,v6,v7,xs,G,rfl,O,ex,hX,b7,a3,b4,b3):=z_;have li:=(aU.mp U).1;have lX:=hX.length;let(g,a7,a_,j1,i9,rfl,hb,_,_):=hZ.at_ U;obtain⟨e,d5,rfl⟩:∃ e,es[i]?=some e/\e.1=g:=by
    rw[bg]at a7;show dM.mp a7
   have he:=aY d5;have gm:e.1∈es.map (·.1):=di.mpr ⟨e,he,rfl⟩;have Z:dC H H6:=λc u h=>O c u (iy h a2) (e9 _ _ h);have h9:dH H5 H6:=λc u t h=>O c u (λz=>by have:=S5 _ _ e4;rw[<- z,h]at this;cases this;simp[isTF]at t) h;have h8:wd≠C:=λz=>by rw[<- z,a1]at Y;cases Y
   have c5:=O _ _ h8 f2;have b2:=hb.sameT h9;cbv;show(x,_,dx,_,rfl,Z _ _ hx,rfl,rfl,?_);show iK (i:=0) b2 rfl ?_;show(x,e.1.nm,W,es.map (·.1),rfl,ht.same Z,di.mpr ⟨e.1,gm,rfl⟩,λg' a7 hz=>?_);have g9:=M.gn e he g' a7 hz;subst g9;show(pl,M.gn e he,λp hp q hq h=>Bw M.nd hp hq h,M.pok,M.plb,M.pls,M.tok e he,λv H7 S7 fv=>?_);have rb:=M.rb e he;have l0:=qO (a:=roomF pl e.1) (c:=(0,1)) rb.b1 ⋯;rw[rB]at l0;unfold lF at l0;cbv;show(v, .ref Ad.ZERO,_,_,0,1,rfl,fv,⟨Ad.ZERO,rfl,T.Bcr _⟩,rb.s1.mono ⋯,rb.s2.mono ⋯, .lit ⋯ ⋯, .lit ⋯ ⋯,?_);cbv;rw[if_neg (λz=>absurd (l0.mp z) (jH.mpr (h4 e he)))];cbv;have g3:=Z.trans S7;show iK (i:=0) (b2.same S7) rfl ?_;show(x,W,es.map (·.1),e.1,rfl,ht.same g3,M.nd,∅,gm,M.gn e he,λnl w H8 S8 e8 hw b8=>?_);have c0:=S7.trans S8;have e7:=c0 _ _ c5;have e6:∀ n∈w.map (·.1),n∈W.map (·.nm):=λn hn=>rE (rD hw) n hn;have lw:w.length<=12:=by
    have:=sub_len (w.map (·.1)) (W.map (·.nm)) b8 λn hn=>e6 n hn;rw[bc,bc]at this;ac_nf
   cbv;show(nl,rfl, .inl ⟨⟨_,fI.of e8⟩,jW.list (xs:=(w.map (·.1)).map V.str) (λj qs L=>dC H8 L/\∃(as:List Addr)(D:List (Str × Int)),qs=as.map V.ref/\as.length=D.length/\(∀(i:Nat)(a:Addr)(p:Str × Int),as[i]?=some a->D[i]?=some p->L a=some (.tup [.str p.1, .int p.2]))/\D.map (·.1)=(w.map (·.1)).take j/\∀ y∈D, ∃ p∈W,p.nm=y.1/\p.wt=y.2) ⟨dC.refl _,[],[],rfl,rfl,(λi a p h=>by simp at h),rfl,(λy U=>by cases U)⟩ (λj qs L hj z=>by
    let(z1,as,D,rfl,r,_,d,_):=z;have:=congrArg List.length d;rw[bc,eS,bc]at this;show(fI.of (z1 _ _ e8),by rw[bc];ac_nf)) ?_ ?_⟩)
   .intro j y' qs H9 S z_;let(S9,as,D,rfl,b9,c3,o,c1):=z_;have lj:=(aU.mp S).1;rw[bc]at lj;rw[bg,aV lj]at S;obtain⟨n,hn⟩:∃ n,n=(w.map (·.1))[j]:=⟨_,rfl⟩;rw[<- hn]at S;have S:y'=.str n:=(eh S).symm;subst S;have g7:n∈W.map (·.nm):=e6 n (by rw[hn];show ij lj);let(p,v',f7,f8,hv,g5):=hB.some (z:=n) g7;simpa only[dD,dQ,fV,dF,mw,dw,fP,fK];show(wd,_,rfl,by rw[<- hv];show gE.k (k:=aZ n) (S9 _ _ e7),?_);rw[g5];show(by show 2<=sizeLine;ac_nf,?_);rename_i t j0 j4 H9 f1 R b6;cbv;show(S9.trans R,as++[t],D++[(n,p.wt)],by simp,by simp[b9],λi' a' p' r d=>?_,?_,λy U=>?_)
    .rcases sR r with r | ⟨q1,q2⟩
     .rcases sR d with d | ⟨q3,q4⟩
      .show R _ _ (c3 i' a' p' r d)
      .have:=(aU.mp r).1;ac_nf
     .rcases sR d with d | ⟨q3,q4⟩
      .have:=(aU.mp d).1;ac_nf
      .rw[q2,q4];show b6
    .rw[dy,o,dX,aV lj, <- hn];rfl
    .rcases dk.mp U with U | U
     .show c1 y U
     .rw[bf.mp U];show(p,f7,f8,rfl)
   .intro qs H9 z_;let(S9,as,D,rfl,b9,c3,o,c1):=z_;rw[bc,de (dh _)]at o;have j3:D.length<=12:=by have:=congrArg List.length o;rw[bc,bc]at this;ac_nf
    have d9:(D.map (·.1)).Nodup:=by rw[o];show b8
    rename_i ql i6 i4 H9 f1 R b6;cbv;show(ql,as,D.map λp=>(p.1,V.int p.2),rfl,b6,by rw[bc];show b9,λi' a' p' r d=>?_,?_)
    .rw[bg]at d;let(g2,h3,rfl):=dM.mp d;show R _ _ (c3 i' a' g2 r h3)
    have g4:rq (D.map λp=>(p.1,V.int p.2))=oR D:=by
     rw[MU (by rw[ie];show d9),ie];rfl
    rw[g4];rename_i od a8 i5 f1 i8 f9 d0;cbv;have a9:=S9.trans (R.trans f9);have B:=c0.trans a9;have f0:=Z.trans B;have c6:=B _ _ ex;show(.inl ⟨rfl,_,fI.of c6⟩,?_);show iK (i:=0) (b2.same B) rfl ?_;show(sc,_,g0,_,rfl,f0 _ _ c9,rfl,rfl,?_);show(sc,v,roomF pl e.1,b,fs,rfl,e0.same f0,fO.same (S8.trans a9) fv,rb.mono ⋯ ⋯,λpr t b5 a4 g8 hL=>?_);cbv;intro q dq hq h6 i3;have d8:dC b5 (upd (upd b5 dq (.own q)) q (.ins Ad.Lid dq [])):=λb u z=>by rw[fF (iy z hq),fF (iy z h6)];show z
    show(q,dq,od,e.1.nm, .ref pr,D,rfl,jo,d8 _ _ (a4 _ _ d0),λa6 f3 h0=>⟨rfl,?_⟩);have J:dC b5 a6:=λb u z=>by rw[h0 b (iy z hq)];show d8 _ _ z
    have N:=B.trans (a4.trans J);have b0:=N _ _ ex;have a5:H6 q=none:=oq (B.trans a4) hq;show(C,xs,_,rfl,rfl,b0,∅,?_);generalize a0:upd a6 C _=c7;cbv;have d6:=jg a0;have ec:cut C c7=cut C a6:=by rw[<- a0];show Bm
    have d7:q≠C:=λz=>by rw[z,ex]at a5;cases a5
    have i0:od≠C:=λz=>by rw[z,(c0.trans (S9.trans R)) _ _ ex]at a8;cases a8
    show c2 _ _ ⟨li,_,_,_,xs++[.ref q],G++[⟨e.1.nm,t,D,(D.map (·.2)).sum,(0,1)⟩],rfl,λc u X h=>by rw[<- a0,fF X];show N _ _ (O c u X h),d6,?_,?_,λv' I=>?_,by simp[b4],λj e' l' r d=>?_⟩
    .rw[ec];show(hX.mono (P':=mf K Ad (cut C a6)) λ_ _ z=>z.same N.cut).append (.one ⟨q,dq, .ref pr, .ref Ad.ZERO,od,rfl,?_,?_,⟨Ad.ZERO,rfl,T.Bcr _⟩,?_⟩)
     .rw[pC d7];show f3
     .show(fO.of (J _ _ g8)).cut b0
     .rw[pC i0];show J _ _ (a4 _ _ d0)
    .show fD.mpr ⟨b7,by simp,λu hu v' I z=>?_⟩;rw[bf.mp I]at z;let(q',r,_,d):=a3 u hu;rw[r]at z;cases z;show d a5
    .have g6:∀ c,H6 c≠none->c7 c≠none:=λc h=>by
      by_cases cc:c=C
      .rw[cc,d6];intro y;cases y
      .cases hh:H6 c with
       | none=>show absurd hh h
       | some u=>rw[<- a0,fF cc,N _ _ hh];intro y;cases y
     rcases dk.mp I with I | I
     .let(q',r,d,h3):=a3 v' I;show(q',r,d,g6 q' h3)
     .rw[bf.mp I];show(q,rfl,oq Z a5,by rw[<- a0,fF d7,f3];intro y;cases y)
    .rcases sR d with d | ⟨q1,q2⟩
     .show b3 j e' l' r d
     .rw[q1,b4,d5]at r;cases r;rw[q2];show(rfl,hL.vl rb.b1,(hL.fb rb sb).mono ⋯ ⋯,by rw[o];show(M.way e he w hw b8).symm,d9,c1,rfl,rfl)
  .intro σ H6 z_;let(hi,v5,v6,v7,xs,G,rfl,O,ex,hX,b7,a3,b4,b3):=z_;cbv;show k C xs G H6 (λc u h=>O c u (iy h a2) (e9 _ _ h)) a2 ex (hX.mono λ_ _ z=>z.same xK) b7 (λv hv=>by let(q,r,d,_):=a3 v hv;show(q,r,d)) ∅ b3
abbrev DO:Stmt:=top 45
theorem Cp:iY ["thing","scale","told","part"] ["thing","scale"] (iC DO):=by bv_decide
def Ie(K:aW)(Ad:jE):Sp:=λvs H Q E=>∃(x sc:Addr)(ls:List PD)(gs:List GD)(b:Int)(fs:List Int),vs=[.ref x, .ref sc]/\TK K Ad H x ls gs/\qA Ad H sc b fs/\ls.length<=12/\(ls.map (·.nm)).Nodup/\(∀ p∈ls,FB 200 12 p.mo/\1<=p.wt/\Mth.Sz 21 p.wt)/\∀ md kv ms H',dC H H'->H md=none->H' md=some (.dK kv)->BG (·.1) (pB K H') ms kv->ms.length=ls.length->(∀(i:Nat) p m,ls[i]?=some p->ms[i]?=some m->yk b p m)->Q (.ref md) H'
theorem Oz(F:"most_levels"∘DO)(T:Txt K mg Ad)(Bar:2∘"parts"∘(o9 Ad)∘["self"]∘(t4 K Ad))(BaK:2∘"lifted"∘(vK Ad)∘["self","number"]∘(xS K Ad))(Bdg:3∘"over"∘["one","other"]∘(BQ K Ad)):4∘["thing","scale"]∘(Ie K Ad):=by
 show F.okn Cp (by subst_eqs) (λb2 A a0 s H vs Q E X h=>?_)
 let(x,M,Y,gs,b,fs,rfl,h):=h;have hu:=X.units;show(_,(fi (gI 2 Cp.nd oJ) (fi (lL dn rfl (iN (Bar.m0 X ⋯ dB (pv 0))) (iV 3 Cp.nd) (fT (nR (jt hu) (pv 2) (!3) (Bdg.ev X ⋯ rfl dB %[BaK.m X ⋯ dB (pv 1) %[!3|0],lh %[!3,gW|0]|0]) rfl))) (fT (iO (pv 2))))),?_)
 clear hu;let(ht,N,b0,a4,a3,k):=h;let(dx,d1,d2,d3,k1,k2,k3,hx,_):=id ht;let(a2,fl,J,_,S,sb,_):=id N;have sl:(1000:Nat)<=sizeLine:=by decide
 have b1:=S.b1;show gP _ _ _ [some (.ref x),some (.ref M),none,none] H;cbv;rename_i D e a8 H H1 S1 e1;cbv;show(x,_,dx,_,rfl,S1 _ _ hx,rfl,rfl,x,Y,_,rfl,ht.same S1,∅,λl ys H2 S2 O e2 hY=>?_);have lY:=hY.length;have a5:l≠D:=λz=>by rw[z,e1]at O;cases O
 have R:=S1.trans S2;cbv;show(l,rfl,jj.byLN (xs:=ys) (fI.of e2) (λi σ G=>i<=ys.length/\∃(v3:Option V)(L:List (gD × V))(r:List (Str × jC)),σ=[some (.ref x),some (.ref M),some (.ref D),v3]/\(∀ c u,c≠D->H2 c=some u->G c=some u)/\dH H2 G/\G D=some (.dK L)/\BG (·.1) (pB K G) r L/\r.map (·.1)=(Y.take i).map (·.nm)/\∀(j:Nat) p m,Y[j]?=some p->r[j]?=some m->yk b p m) ⟨dG _,none,[],[],rfl,λ_ _ _ h=>h,dH.refl _,S2 _ _ e1,⟨rfl,rfl⟩,rfl,λj p m _ h=>by simp at h⟩ (λi σ G q=>by let(_,_,_,_,_,q,_):=q;show fI.of (q _ _ a5 e2)) ?_ ?_)
 .intro i y σ H3 hy z_ N0 a6;let(hi,v3,L,r,rfl,ho,hT,v,hB,d,B):=z_;have li:=(aU.mp hy).1;let(p,hp,b_,vz,vm,rfl,hb,_,hm):=hY.at_ hy;let(mb,Z,ws):=a3 p (aY hp);have lB:=hB.length;have a1:r.length=i:=by have:=congrArg List.length d;rw[bc,bc,eS]at this;ac_nf
  have C:=hb.sameT hT;have W:dC H H3:=λc u h=>ho c u (iy h e) (R _ _ h);cbv;show(M,_,a2,_,rfl,W _ _ J,rfl,rfl,?_);show iK (i:=4) C rfl ?_;show(M,vm,p.mo,b,fs,rfl,N.same W,hm.sameT hT,mb.mono ⋯ ⋯,λpr t H4 S4 e4 hL=>?_);cbv;show iK (i:=5) (C.same S4) rfl ?_;cbv;show(len2,?_);rename_i wp a9 a7 H4 H5 S5 e5;cbv;have o:=hL.fb mb sb;show(.ref pr, .ref wp,_,_,p.wt,1,rfl,fO.of (S5 _ _ e4),fO.of e5,o.s1.mono ⋯,o.s2.mono ⋯,ws.mono ⋯, .lit ⋯ ⋯,o.b1,⋯,o.g1,by unfold Mth.g;simp,∅,λp2 H6 S6 e6=>?_);have e6:H6 p2=some (.tup [.int (mD t (p.wt,1)).1, .int (mD t (p.wt,1)).2]):=e6;have n:=S4.trans (S5.trans S6);cbv;show iK (i:=0) (C.same n) rfl ?_;show(D,_,rfl,jY.k (k:=aZ p.nm) (n _ _ v) ∅,?_);generalize u7:upd H6 D _=H7;cbv;have e7:=jg u7;have T7:dH H6 H7:=dH.put u7 (n _ _ v) rfl;have U:dH H3 H7:=n.t.trans T7;have nn:p.nm∉r.map (·.1):=by rw[d];show Be a4 hp
  show a6 _ _ ⟨li,_,_,r++[(p.nm,mD t (p.wt,1))],rfl,λc u I h=>by rw[<- u7,fF I];show n _ _ (ho c u I h),hT.trans U,e7,?_,?_,λj p' m' h1 h2=>?_⟩
  .show(hB.mono (P':=pB K H7) λ_ _ z=>z.sameT U).new (a:=(p.nm,mD t (p.wt,1))) nn (fO.of (T7 _ _ rfl e6))
  .rw[dy,d,dX,hp,dy];rfl
  .rcases sR h2 with h2 | ⟨q1,q2⟩
   .show B j p' m' h1 h2
   .rw[q1,a1,hp]at h1;cases h1;rw[q2];have dl:=KO (a:=t) (c:=(p.wt,1)) o.b1 Z;show(rfl,?_,?_,?_,dl.b1,dl.g1)
    .show vl (mD t (p.wt,1))=_;rw[EC o.b1 Z (fW 1),xC,hL.vl mb.b1]
    .show Mth.Sz.top (by have:=nE o.b1 Z;show t.2*p.wt≠0;ac_nf) (by rw[iW];show o.s1)
    .show(Mth.Sz.bot (t:=t.1*1) (b:=t.2*p.wt) (by have:=nE o.b1 Z;ac_nf) (o.s2.mul ws)).mono ⋯
 .intro σ H3 z_;let(hi,v3,L,r,rfl,ho,hT,v,hB,d,B):=z_;rw[de ∅]at d;cbv;show k D L r H3 (λc u h=>ho c u (iy h e) (R _ _ h)) e v hB (by simpa using congrArg List.length d) B
abbrev DU:Stmt:=top 46
theorem Ck:iY ["mosts","lids","levels","stops","lid"] ["mosts","lids","levels"] (iC DU):=by bv_decide
def HQ(K:aW)(Ad:jE):Sp:=λvs H Q E=>∃(md ll ld:Addr)(kvm:List (gD × V))(ms:List (Str × jC))(xs:List V)(lds:List iU)(kvl:List (gD × V))(lvs:List (Str × jC)),vs=[.ref md, .ref ll, .ref ld]/\H md=some (.dK kvm)/\BG (·.1) (pB K H) ms kvm/\H ll=some (.lst xs)/\fh (mf K Ad H) lds xs/\H ld=some (.dK kvl)/\BG (·.1) (pB K H) lvs kvl/\ms.length<=12/\lds.length<=7/\(∀ e∈lds,FB 3000 1000 e.rest/\Mth.Sz 64 e.load/\e.ws.length<=12)/\(ms.map (·.1)).Nodup/\∀ sl ys H',dC H H'->H' sl=some (.lst ys)->fh (p9 K H') (q5 ms lds (lvs.map (·.1))) ys->Q (.ref sl) H'
theorem O8(F:"coming_stops"∘DU)(T:Txt K mg Ad)(m_full_level:4∘"full_level"∘(qo Ad)∘["self"]∘(Iv K Ad)):5∘["mosts","lids","levels"]∘(HQ K Ad):=by
 show F.okn Ck (by subst_eqs) (λe2 A b9 s H vs Q E hr h=>?_)
 let(r,ll,ld,c,ms,xs,I,c8,a,rfl,h):=h;have hu:=hr.units;show(_,(fi (K9 (y6 (j:=3) (own:=["name"]) (cs:=[(0,"mosts"),(2,"levels")]) Ck.nd rfl (Or.inl rfl) rfl (yz (pv 0)) (λ_ _ _ _=>(iV 0 (show[("name" : Str),("mosts" : Str),("levels" : Str)].Nodup by decide))) (λ_ _ _ _=>Bs (oP (sW (jt hu) (pv 0) (pv 2)) (by with_unfolding_all rfl))) (λ_ _ _ _=>(lh %[nc (jt hu) (pv 1) (pv 0) (λ_ _=>rfl),nv %[pv 0|0]|0])) (o7 rfl) ⋯ rfl ⋯ (xl rfl rfl rfl rfl rfl rfl))) (fi (lL dn rfl (iN (pv 1)) (iV 4 Ck.nd) (fT (fX (mC xE (iP (pv 4) rfl) gW (kO _)) (fT (nX (jT dJ ek ej pF (pv 3) %[lh %[m_full_level.m0 hr ⋯ dB (pv 4),Bv (qG (own:=["name"]) (cs:=[(2,"levels")]) rfl (yz (iP (pv 4) rfl)) (λ_ _ _ _=>(iV 0 (show[("name" : Str),("levels" : Str)].Nodup by decide))) (λ_ _ _ _=>Bs (oP (sW (jt hu) (pv 0) (pv 1)) (by with_unfolding_all rfl))) (λ_ _ _ _=>(pv 0)) (o7 rfl) ⋯ rfl ⋯ (qu rfl rfl rfl))|0]|0] (hs:=by show o8 rfl))))
   ki))) (fT (iO (pv 3))))),?_)
 clear hu;let(hm,bm,hl,hX,hv,bl,d5,l7,c1,b8,k):=h;have sz:(1000:Nat)<=sizeLine:=by decide
 have lX:=hX.length;show gP _ _ _ [some (.ref r),some (.ref ll),some (.ref ld),none,none] H;mleave;show(r,c,hm,r,c,ms.map (·.1),rfl,hm,bm.keysS,λod=>?_);generalize uf:upd H r (.frz od (.dK c))=H1;mleave;have f1:H1 r=some (.frz od (.dK c)):=by rw[<- uf,jo]
 have t1:oM r c H1=H:=by rw[<- uf];show Ft hm
 show rA.keys (λi U C=>C r=some (.frz od (.dK c))/\dC H (oM r c C)/\fh (p9 K (oM r c C)) (((ms.take i).filter λm=>decide (m.1∉a.map (·.1))).map λm=>(m.2,[m.1])) U) ⟨f1,by rw[t1];show dC.refl _,rfl⟩ (λi U C hi z=>⟨z.1,by
  have h1:=z.2.2.length;rw[bc]at h1;have h2:=kC (λm:Str × jC=>decide (m.1∉a.map (·.1))) (ms.take i);rw[eS]at h2;ac_nf⟩) ?_ ?_
 .rintro i z U H2 hz ⟨L,S2,hA⟩;rw[bg]at hz;let(m,a3,Y):=dM.mp hz;have Y:m.1=z:=Y;subst Y;have b0:=aY a3;simpa only[dD,dQ,fV,dF,mw,dw,fP,fK];show(ld,_,rfl,Fs (k:=aZ m.1) L (S2 _ _ hv),?_);rw[bl.val];by_cases g:m.1∈a.map (·.1)
  .rw[decide_eq_true g];mleave;show(L,S2,?_);rw[dX,a3,ir,dy];have : [m].filter (λm=>decide (m.1∉a.map (·.1)))=[]:=kg.mpr λx D=>by rw[bf.mp D];simpa using g
   rw[show(some m).toList=[m]from rfl,this,fP,iM];show hA
  .rw[decide_eq_false g];mleave;let(a',v,d4,d2,d7,d3):=bm.some (z:=m.1) (di.mpr ⟨m,b0,rfl⟩);have ea:=F9 b8 d4 b0 d2;subst ea;show(r,v,rfl,by rw[<- d7];show gE.f (k:=aZ a'.1) L,?_);mleave;show(by show 1<=sizeLine;ac_nf,?_);rename_i l a9 c2 H2 H3 S3 e3;mleave;show(by show 2<=sizeLine;ac_nf,?_);rename_i t c9 d6 H3 H4 S4 e4;mleave;have b1:=S3.trans S4;have f4:=b1 _ _ L;have St:=BO (d:=r) (kv:=c) b1;show(f4,S2.trans St,?_);rw[dX,a3,ir,dy];have : [a'].filter (λm=>decide (m.1∉a.map (·.1)))=[a']:=kY.mpr λx D=>by rw[bf.mp D];simpa using g
   rw[show(some a').toList=[a']from rfl,this];show(hA.mono (P':=p9 K (oM r c H4)) λ_ _ z=>z.same St).append (.one ⟨t,v,l,rfl,gZ.of (yr f4 e4 (by intro o w z;cases z)),fO.same (S2.trans St) d3,yr f4 (S4 _ _ e3) (by intro o w z;cases z)⟩)
 .rintro U H2 ⟨L,S2,hA⟩;rw[bc,de (dh _)]at hA;rename_i B R d9 H2 H3 S3 e3;mleave;show(od,c,S3 _ _ L,?_);obtain⟨H4,a2⟩:∃ H4,H4=oM r c H3:=⟨_,rfl⟩;rw[show upd H3 r (.dK c)=H4 from a2.symm];mleave;have St:=BO (d:=r) (kv:=c) S3;rw[<- a2]at St;have b5:=S2.trans St;have e4:H4 B=some (.lst U):=by rw[a2];show yr (S3 _ _ L) e3 (by intro o w z;cases z)
  have N:H B=none:=oq S2 (BP L R);have d0:fh (p9 K (cut B H4)) ((ms.filter λm=>decide (m.1∉a.map (·.1))).map λm=>(m.2,[m.1])) U:=hA.mono λ_ _ z=>z.same λb u h=>by
   rw[pC (λy=>by rw[y,BP L R]at h;cases h)];show St b u h
  have d8:(ms.filter λm=>decide (m.1∉a.map (·.1))).length<=12:=fG (kC _ _) d5;have e5:ll≠B:=λz=>by rw[z,N]at hl;cases hl
  show(ll,rfl,jj.byLN (xs:=xs) (fI.of (b5 _ _ hl)) (λi σ C=>i<=xs.length/\∃(v4:Option V)(O:List V)(S:List (jC × List Str)),σ=[some (.ref r),some (.ref ll),some (.ref ld),some (.ref B),v4]/\dC H C/\C B=some (.lst O)/\fh (p9 K (cut B C)) S O/\S.length<=12+i/\S=(ms.filter λm=>decide (m.1∉a.map (·.1))).map (λm=>(m.2,[m.1]))++((I.take i).filter λe=>decide (0<e.load)).map λe=>(mD e.rest (e.load,1),(e.ws.map (·.1)).filter λn=>decide (n∉a.map (·.1)))) ⟨dG _,none,U,_,rfl,b5,e4,d0,by rw[bc];ac_nf,by rw[gQ];simp⟩ (λi σ C q=>by let(_,_,_,_,_,q,_):=q;show fI.of (q _ _ hl)) ?_ ?_)
  .intro i y σ H5 hy z_ N0 b4;let(hi,v4,O,S,rfl,S5,ez,hZ,c7,G):=z_;have li:=(aU.mp hy).1;let(e,a7,hd):=hX.at_ hy;have b7:=aY a7;let(c6,c3,e1):=c1 e b7;have b3:=hd.same S5;let(q,dx,vr,vt,M,rfl,hq,hr,e0,hw):=id b3;have tc:=T.c_Lid Ad.Lid rfl;have lZ:=hZ.length;mleave;show(q,_,dx,_, .int e.load,rfl,hq,tc.cls,tc.n4,rfl,?_);mleave;have a8:I.take (i+1)=I.take i++[e]:=by rw[dX,a7];rfl
   by_cases c0:0<e.load
   .rw[if_pos (by simpa using c0)];mleave;show(.inl ⟨rfl,_,fI.of ez⟩,?_);show(q,_,dx,_,rfl,hq,rfl,rfl,?_);show(q,e,rfl,b3,c6,∅,c3,λp H6 S6 e6=>?_);mleave;have a1:=S6 _ _ hw;show(M,_,a1,q,_,dx,_, .ref M,rfl,S6 _ _ hq,tc.cls,tc.n3,rfl,M,oR e.ws,e.ws.map (·.1),rfl,a1,Ly e.ws,λa5=>?_);generalize ug:upd H6 M (.frz a5 (.dK (oR e.ws)))=H7;mleave;have f7:H7 M=some (.frz a5 (.dK (oR e.ws))):=by rw[<- ug,jo]
    have t7:oM M (oR e.ws) H7=H6:=by rw[<- ug];show Ft a1
    have d1:=S5.trans S6;show rA.keys (λj qs C=>C=H7/\qs=(((e.ws.map (·.1)).take j).filter λn=>decide (n∉a.map (·.1))).map V.str) ⟨rfl,by rw[gQ];rfl⟩ (λj qs C hj z=>⟨by rw[z.1];show f7,by
     rw[z.2,bc];have h2:=kC (λn:Str=>decide (n∉a.map (·.1))) ((e.ws.map (·.1)).take j);rw[eS,bc]at h2;ac_nf⟩) ?_ ?_
    .rintro j z qs H8 hz ⟨Z,J⟩;subst Z;subst J;simpa only[dD,dQ,fV,dF,mw,dw,fP,fK];show(ld,_,rfl,Fs (k:=aZ z) f7 (by rw[t7];show d1 _ _ hv),?_);rw[bl.val];have b2:(e.ws.map (·.1)).take (j+1)=(e.ws.map (·.1)).take j++[z]:=by rw[dX,hz];rfl
     by_cases g:z∈a.map (·.1)
     .rw[decide_eq_true g];mleave;rw[b2,ir,show[z].filter (λn=>decide (n∉a.map (·.1)))=[]from kg.mpr λx D=>by rw[bf.mp D];simpa using g,iM]
     .rw[decide_eq_false g];mleave;rw[b2,ir,show[z].filter (λn=>decide (n∉a.map (·.1)))=[z]from kY.mpr λx D=>by rw[bf.mp D];simpa using g,dy];rfl
    .rintro qs H8 ⟨Z,J⟩;subst Z;rw[de (dh _)]at J;subst J;rename_i l a9 c2 H8 H9 S9 e9;mleave;show(a5,_,S9 _ _ f7,?_);obtain⟨HA,a0⟩:∃ HA,HA=oM M (oR e.ws) H9:=⟨_,rfl⟩;rw[show upd H9 M (.dK (oR e.ws))=HA from a0.symm];have Su:=BO (d:=M) (kv:=oR e.ws) S9;rw[t7, <- a0]at Su;have eA:HA l=some (.lst (((e.ws.map (·.1)).filter λn=>decide (n∉a.map (·.1))).map V.str)):=by rw[a0];show yr (S9 _ _ f7) e9 (by intro o w z;cases z)
     mleave;show(len2,?_);rename_i t c9 d6 HA HB SB eB;mleave;have X:=S6.trans (Su.trans SB);have a4:=X _ _ ez;show(B,O,_,rfl,rfl,a4,∅,?_);generalize W:upd HB B _=c4;mleave;have c5:=jg W;have ec:cut B c4=cut B HB:=by rw[<- W];show Bm
     have a6:H6 l=none:=by rw[<- t7];show BP f7 a9
     have b6:l≠B:=λz=>by rw[z,S6 _ _ ez]at a6;cases a6
     show b4 _ _ ⟨li,_,O++[.ref t],S++[(mD e.rest (e.load,1),(e.ws.map (·.1)).filter λn=>decide (n∉a.map (·.1)))],rfl,λb u h=>by rw[<- W,fF (iy h N)];show X _ _ (S5 _ _ h),c5,?_,by simp;ac_nf,?_⟩
     .rw[ec];show(hZ.mono (P':=p9 K (cut B HB)) λ_ _ z=>z.same X.cut).append (.one ⟨t, .ref p,l,rfl,gZ.cut a4 (gZ.of eB),fO.cut a4 (fO.of (SB _ _ (Su _ _ e6))),?_⟩);rw[pC b6];show SB _ _ eA
     .rw[G,a8,ir,show[e].filter (λe=>decide (0<e.load))=[e]from kY.mpr λx D=>by rw[bf.mp D];simpa using c0,dy, <- List.append_assoc];rfl
   .rw[if_neg (by simpa using c0)];mleave;show b4 _ _ ⟨li,_,O,S,rfl,S5,ez,hZ,∅,?_⟩;rw[G,a8,ir,show[e].filter (λe=>decide (0<e.load))=[]from kg.mpr λx D=>by rw[bf.mp D];simpa using c0,iM]
  .intro σ H5 z_;let(hi,v4,O,S,rfl,S5,ez,hZ,c7,G):=z_;rw[de ∅]at G;mleave;show k B O H5 S5 ez ?_;unfold q5;rw[<- G];show hZ.mono λ_ _ z=>z.cut
abbrev DN:Stmt:=top 47
theorem zb:iY ["stops","found","stop"] ["stops"] (iC DN):=by bv_decide
def Ij(K:aW):Sp:=λvs H Q E=>∃(sl:Addr)(ys:List V)(st:List (jC × List Str)),vs=[.ref sl]/\fI K H sl ys/\fh (p9 K H) st ys/\st≠[]/\(∀ s∈st,FB 3000 1200 s.1)/\∀ v (L:jC),L∈st.map (·.1)->(∀ s∈st,vl L<=vl s.1)->fO K H v L.1 L.2->Q v H
theorem OE(F:"first_level"∘DN)(T:Txt K mg Ad)(Bak:1∘"under"∘["one","other"]∘(tX K)):2∘["stops"]∘(Ij K):=by
 show F.okn zb (by subst_eqs) (λa1 A G s H vs Q E hr h=>?_)
 let(x,M,D,rfl,h):=h;show(_,(fi (gI 1 zb.nd (ig ix_U (!0) gW)) (fi (lL dn rfl (iN (pv 0)) (iV 2 zb.nd) (fT (fX (mR (Bak.ev hr ⋯ rfl dB %[!2,pv 1|0])) (fT (gI 1 zb.nd (!2)))
   ki))) (fT (iO (pv 1))))),?_)
 let(S,C,Y,m,k):=h;have lA:=C.length;obtain⟨g,r,rfl⟩:∃ g r,D=g::r:=by cases D with | nil=>show absurd rfl Y | cons a b=>show(a,b,rfl)
 let(y0,R,t0,v0,l0,rfl,a0,Z,_):=C.get (i:=0) rfl;show gP _ _ _ [some (.ref x),none,none] H;cbv;show so (i:=0) S R ?_;cbv;show iK (i:=0) a0 rfl ?_;cbv;show(x,rfl,jj.byLN (xs:=M) S (λi σ p=>i<=M.length/\p=H/\∃(v:V)(L:jC)(N:Option V),σ=[some (.ref x),some v,N]/\fO K H v L.1 L.2/\L∈(g::r).map (·.1)/\∀ s∈(g::r).take i,vl L<=vl s.1) ⟨dG _,rfl,v0,g.1,none,rfl,Z,by simp,(λs o=>by simp at o)⟩ (λi σ p q=>by rw[q.2.1];show S) ?_ ?_)
 .intro i y σ p hy z_ N0 n;let(hi,rfl,v,L,N,rfl,B,u,d):=z_;have li:=(aU.mp hy).1;let(s,o,t,w,l,rfl,ht,hw,_):=C.at_ hy;have I:=m s (aY o);let(sL,U,J):=di.mp u;have W:FB 3000 1200 L:=J ▸ m sL U;have j:(g::r).take (i+1)=(g::r).take i++[s]:=by rw[dX,o];rfl
  have O:=qO (a:=s.1) (c:=L) I.b1 W.b1;unfold lF at O;cbv;show iK (i:=0) ht rfl ?_;show(w,v,_,_,_,_,rfl,hw,B,I.s1.mono ⋯,I.s2.mono ⋯,W.s1.mono ⋯,W.s2.mono ⋯,?_);cbv;by_cases c:decide (s.1.1*L.2<L.1*s.1.2)=true
  .rw[if_pos c];cbv;show iK (i:=0) ht rfl ?_;cbv;have lt:=O.mp c;show n _ _ ⟨li,rfl,w,s.1,_,rfl,hw,di.mpr ⟨s,aY o,rfl⟩,λX e=>?_⟩;rw[j]at e;rcases dk.mp e with h | h
   .show er (gz lt) (d X h)
   .rw[bf.mp h];show hO
  .rw[if_neg c];cbv;show n _ _ ⟨li,rfl,v,L,_,rfl,B,u,λX e=>?_⟩;rw[j]at e;rcases dk.mp e with h | h
   .show d X h
   .rw[bf.mp h];show jH.mp λz=>c (O.mpr z)
 .intro σ p z_;let(hi,rfl,v,L,N,rfl,B,u,d):=z_;rw[de ∅]at d;cbv;show k v L u d B
abbrev D8:Stmt:=top 48
theorem yU:iY ["stops","level","names","stop","name"] ["stops","level"] (iC D8):=by bv_decide
def Hn(K:aW):Sp:=λvs H Q E=>∃(sl:Addr)(lv:V)(ys:List V)(st:List (jC × List Str))(L:jC)(N:List Str),vs=[.ref sl,lv]/\fI K H sl ys/\fh (p9 K H) st ys/\fO K H lv L.1 L.2/\N.length<=20/\(∀ s∈st, ∀ n∈s.2,n∈N)/\∀(l:Addr)(ns:List Str)(H':Hp),dC H H'->H' l=some (.lst (ns.map V.str))->ns.Nodup->(∀ n,n∈ns↔∃ s∈st,s.1=L/\n∈s.2)->Q (.ref l) H'
theorem NX(F:"stopped_at"∘D8)(T:Txt K mg Ad)  : 1∘["stops","level"]∘(Hn K):=by
 show F.okn yU (by subst_eqs) (λb0 A a3 s H vs Q E hr h=>?_)
 let(W,lv,ys,st,L,N,rfl,h):=h;have Z:=hr.units;show(_,(fi (gI 2 yU.nd oJ) (fi (lL dn rfl (iN (pv 0)) (iV 3 yU.nd) (fT (fX (mC (qE Z) (!3) (pv 1) (kO _)) (fT (lL dn rfl (iN (!3)) (iV 4 yU.nd) (fT (nR (jt Z) (pv 2) (pv 4) ja rfl))))
   ki))) (fT (iO (xJ (Na rfl) rfl T.Bd0 yB %[pv 2|0]))))),?_)
 clear Z;let(hS,hA,hL,a9,hN,k):=h;have sz:(1000:Nat)<=sizeLine:=by decide
 have lA:=hA.length;show gP _ _ _ [some (.ref W),some lv,none,none,none] H;cbv;rename_i O R a5 H H1 S1 e1;cbv;show(W,rfl,jj.byLN (xs:=ys) (hS.same S1) (λi σ S=>i<=ys.length/\∃(v3 M:Option V)(r:List (gD × V))(B:List Str),σ=[some (.ref W),some lv,some (.ref O),v3,M]/\dC H S/\S O=some (.dK r)/\r.map (·.1)=B.map aZ/\B.Nodup/\∀ n,n∈B↔∃ s∈st.take i,s.1=L/\n∈s.2) ⟨dG _,none,none,[],[],rfl,S1,e1,rfl, .nil,λn=>by simp⟩ (λi σ S q=>by let(_,_,_,_,_,_,q,_):=q;show hS.same q) ?_ ?_)
 .intro i y σ H2 hy z_ N0 a1;let(hi,v3,M,r,B,rfl,G,e2,hk,D,d):=z_;have li:=(aU.mp hy).1;let(s,hs,t,w,l,rfl,ht,hw,hl):=hA.at_ hy;have a4:=aY hs;have Y:st.take (i+1)=st.take i++[s]:=by rw[dX,hs];rfl
  cbv;show iK (i:=0) (ht.same G) rfl ?_;show xq (hw.same G) (hL.same G) ?_;have ee:(decide (s.1.1=L.1)&&decide (s.1.2=L.2))=decide (s.1=L):=by
   rw[<- Bool.decide_and];show decide_eq_decide.mpr Prod.ext_iff.symm
  rw[ee];cbv;by_cases c:s.1=L
  .rw[if_pos (by simpa using c)];cbv;show iK (i:=1) (ht.same G) rfl ?_;cbv;have a6:l≠O:=iy hl R;show(l,rfl,jj.byLN (xs:=s.2.map V.str) (fI.of (G _ _ hl)) (λj σ S=>j<=(s.2.map V.str).length/\∃(M:Option V)(r:List (gD × V))(ns':List Str),σ=[some (.ref W),some lv,some (.ref O),some (.ref t),M]/\dC H S/\S O=some (.dK r)/\r.map (·.1)=ns'.map aZ/\ns'.Nodup/\∀ n,n∈ns'↔n∈B\/n∈s.2.take j) ⟨dG _,M,r,B,rfl,G,e2,hk,D,λn=>by simp⟩ (λj σ S q=>by let(_,_,_,_,_,q,_):=q;show fI.of (q _ _ hl)) ?_ ?_)
   .intro j z σ H3 hz z_ N1 a2;let(hj,M,C,g,rfl,S3,X,o,m,a):=z_;have lj:=(aU.mp hz).1;rw[bg]at hz;let(n,hn,rfl):=dM.mp hz;have lk:C.length=g.length:=by simpa using congrArg List.length o
    have lN:g.length<=N.length:=sub_len g N m λx hx=>by
     rcases(a x).mp hx with h | h
     .let(I,e,_,p):=(d x).mp h;show hN I (gU e) x p
     .show hN s a4 x (gU h)
    cbv;show(O,_,rfl,jY.k (k:=aZ n) X ∅,?_);generalize u4:upd H3 O _=H4;cbv;have e4:=jg u4;have a0:s.2.take (j+1)=s.2.take j++[n]:=by rw[dX,hn];rfl
    have S4:dC H H4:=λb u h=>by rw[<- u4,fF (iy h R)];show S3 _ _ h
    have U:=FR (kvs:=C) (k:=aZ n);rw[o]at U;by_cases cn:n∈g
    .show a2 _ _ ⟨lj,_,_,g,rfl,S4,e4,?_,m,λx=>?_⟩
     .rw[FQ,if_pos (U.mpr (di.mpr ⟨n,cn,rfl⟩))];show o
     .rw[a x,a0,dk,bf];show(λh=>h.elim .inl λh=>.inr (.inl h),λh=>?_);rcases h with h | h | h
      .show .inl h
      .show .inr h
      .rw[h];show(a n).mp cn
    .show a2 _ _ ⟨lj,_,_,g++[n],rfl,S4,e4,?_,?_,λx=>?_⟩
     .rw[FQ,if_neg (λz=>cn (by let(q,hq,eq):=di.mp (U.mp z);have eq:q=n:=(by injection eq);show eq ▸ hq)),o,dy];rfl
     .show fD.mpr ⟨m,by simp,λu Z v hv z=>cn (by rw[bf.mp hv]at z;rw[<- z];show Z)⟩
     .rw[dk,bf,a x,a0,dk,bf];grind
   .intro σ H3 z_;let(hj,M,C,g,rfl,S3,X,o,m,a):=z_;rw[bc,de (dh _)]at a;show a1 _ _ ⟨li,_,_,C,g,rfl,S3,X,o,m,λn=>?_⟩;rw[a n,d n,Y];constructor
    .rintro(⟨I,e,p,J⟩ | h)
     .show(I,dk.mpr (.inl e),p,J)
     .show(s,dk.mpr (.inr (by simp)),c,h)
    .rintro⟨I,e,p,J⟩;rcases dk.mp e with e | e
     .show .inl ⟨I,e,p,J⟩
     .rw[bf.mp e]at J;show .inr J
  .rw[if_neg (by simpa using c)];cbv;show a1 _ _ ⟨li,_,_,r,B,rfl,G,e2,hk,D,λn=>?_⟩;rw[d n,Y];constructor
   .rintro⟨I,e,p,J⟩;show(I,dk.mpr (.inl e),p,J)
   .rintro⟨I,e,p,J⟩;rcases dk.mp e with e | e
    .show(I,e,p,J)
    .rw[bf.mp e]at p;show absurd p c
 .intro σ H2 z_;let(hi,v3,M,r,B,rfl,G,e2,hk,D,d):=z_;rw[de ∅]at d;cbv;show(O,r,B,rfl,e2,hk,?_);rename_i l a8 a7 H2 H3 S3 X;cbv;show k l B H3 (G.trans S3) X D d
abbrev DT:Stmt:=top 49
theorem vR:iY ["mosts","lids","levels","stops","level","name","lid"] ["mosts","lids"] (iC DT):=by bv_decide
def HP(K:aW)(Ad:jE):Sp:=λvs H Q E=>∃(md ll:Addr)(kvm:List (gD × V))(ms:List (Str × jC))(xs:List V)(lds:List iU)(b q0:Int)(N:List Str)(w M:Str->Rat)(gs:List Gp),vs=[.ref md, .ref ll]/\H md=some (.dK kvm)/\BG (·.1) (pB K H) ms kvm/\H ll=some (.lst xs)/\fh (mf K Ad H) lds xs/\xs.Nodup/\lds.length<=7/\RC b q0 N w M gs ms/\oN b N w M gs [] lds/\∀(ld:Addr)(kv:List (gD × V))(lvs:List (Str × jC))(lds':List iU)(H':Hp),(∀ a u,V.ref a∉xs->H a=some u->H' a=some u)->H ld=none->H' ld=some (.dK kv)->BG (·.1) (pB K H') lvs kv->fh (mf K Ad H') lds' xs->oN b N w M gs lvs lds'->N.length<=lvs.length->lds'.map (·.nm)=lds.map (·.nm)->Q (.ref ld) H'
theorem O7(F:"risen_levels"∘DT)(T:Txt K mg Ad)(BbH:5∘"coming_stops"∘["mosts","lids","levels"]∘(HQ K Ad))(BbW:2∘"first_level"∘["stops"]∘(Ij K))(Bb9:1∘"stopped_at"∘["stops","level"]∘(Hn K))(m_settle:4∘"settle"∘(qo Ad)∘["self","part","level"]∘(Iq K Ad)):7∘["mosts","lids"]∘(HP K Ad):=by
 show F.okn vR (by subst_eqs) (λg2 A c7 s H vs Q E hr h=>?_)
 let(md,ll,J,ms,xs,G,b,q0,N,w,M,gs,rfl,h):=h;have hu:=hr.units;show(_,(fi (gI 2 vR.nd oJ) (fi (xM dn (mC uH (mL GH rfl T.BbF oi %[pv 2|0]) (mL GH rfl T.BbF oi %[pv 0|0]) (kO _)) (fi (gI 3 vR.nd (BbH.ev hr ⋯ rfl dB %[pv 0,pv 1,pv 2|0])) (fi (gI 4 vR.nd (BbW.ev hr ⋯ rfl dB %[pv 3|0])) (fT (lL dn rfl (iN (Bb9.ev hr ⋯ rfl dB %[pv 3,pv 4|0])) (iV 5 vR.nd) (fi (nR (jt hu) (pv 2) (pv 5) (pv 4) rfl) (fT (lL dn rfl (iN (pv 1)) (iV 6 vR.nd) (fT (nX (m_settle.m hr ⋯ dB (pv 6) %[pv 5,pv 4|0]))))))))))) (fT (iO (pv 2))))),?_)
 clear hu;let(hm,bm,hl,hX,d3,l7,U,c8,k):=h;show gP _ _ _ [some (.ref md),some (.ref ll),none,none,none,none,none] H;cbv;rename_i g W f5 H H1 S1 e1;cbv;show(λm σ C=>∃(v3 v4 v5 v6:Option V)(kv:List (gD × V))(d:List (Str × jC))(o:List iU),σ=[some (.ref md),some (.ref ll),some (.ref g),v3,v4,v5,v6]/\(∀ a u,V.ref a∉xs->H a=some u->C a=some u)/\C g=some (.dK kv)/\BG (·.1) (pB K C) d kv/\fh (mf K Ad (cut g C)) o xs/\oN b N w M gs d o/\o.map (·.nm)=G.map (·.nm)/\m=N.length-d.length,⟨_,none,none,none,none,[],[],G,rfl,λa u _ h=>S1 _ _ h,e1,⟨rfl,rfl⟩,hX.mono λ_ _ h=>h.same (dC.cutN S1 W),c8,rfl,rfl⟩,?_);intro m σ H2 z_;let(v3,v4,v5,v6,kv,d,o,rfl,S2,e2,b2,c4,st,b3,rfl):=z_;have x2:fh (mf K Ad H2) o xs:=c4.mono λ_ _ z=>z.same xK;cbv;have g0:=U.l12;have a8:=S2 md _ (mf.notin hX hm (λ_ _ z=>by cases z)) hm;have Y:=S2 ll _ (mf.notin hX hl (λ_ _ z=>by cases z)) hl;have T2:dH H H2:=λc u t h=>S2 c u (mf.notin hX h (λ_ _ z=>by rw[z]at t;simp[isTF]at t)) h;have d7:BG (·.1) (pB K H2) ms J:=bm.mono λ_ _ z=>z.sameT T2;have lk:=b2.length;have lm:=bm.length;have lN:ms.length=N.length:=by rw[<- U.nm,bc]
 have sz:(1000:Nat)<=sizeLine:=by decide
 have f8:=hX.length;have f7:=x2.length;show(g,kv,rfl,e2,md,J,rfl,a8,?_);cbv;by_cases c:d.length<N.length
 .rw[if_pos (by simpa using(by ac_nf:kv.length<J.length))];cbv;show(_,λσ' C h=>h,?_);cbv;show(md,ll,g,J,ms,xs,o,kv,d,rfl,a8,d7,Y,x2,e2,b2,∅,∅,st.lids U,by rw[U.nm];show U.nd,λsl ys H3 S3 e3 hY=>?_);cbv;have p:=st.stops U;show(sl,ys,_,rfl,fI.of e3,hY,st.some U c,λs hs=>⟨(p s hs).1.s1,(p s hs).1.s2.mono ⋯,(p s hs).1.b1,(p s hs).1.g1⟩,λv L hL c1 hv=>?_);cbv;show(sl,v,ys,_,L,N,rfl,fI.of e3,hY,hv,∅,λs hs n hn=>((p s hs).2 n hn).1,λl R H4 S4 e4 b7 d9=>?_);let(f1,d1,d6,D,c5):=st.first U c hL c1 b7 d9;have O:=S3.trans S4;have x4:fh (mf K Ad H4) o xs:=x2.mono λ_ _ z=>z.same O;have a1:=O _ _ e2;have d2:l≠g:=λz=>by rw[z,a1]at e4;cases e4
  have e9:=mf.notin x4 e4 (λ_ _ z=>by cases z);have a3:=mf.notin x4 a1 (λ_ _ z=>by cases z);have b4:ll≠g:=λz=>by rw[z,e2]at Y;cases Y
  have a5:=mf.notin x2 Y (λ_ _ z=>by cases z);have c9:=hv.same S4;cbv;show(l,rfl,jj.byLN (xs:=R.map V.str) (fI.of e4) (λi σ C=>i<=(R.map V.str).length/\∃(v5 v6:Option V)(kv':List (gD × V))(lds':List iU),σ=[some (.ref md),some (.ref ll),some (.ref g),some (.ref sl),some v,v5,v6]/\(∀ a u,V.ref a∉xs->a≠g->H4 a=some u->C a=some u)/\C g=some (.dK kv')/\BG (·.1) (pB K C) (d++(R.take i).map λn=>(n,L)) kv'/\fh (mf K Ad (cut g C)) lds' xs/\sH b N w M gs L D (d.length+1) (d++(R.take i).map λn=>(n,L)) lds'/\lds'.map (·.nm)=G.map (·.nm)) ⟨dG _,v5,v6,kv,o,rfl,λ_ _ _ _ h=>h,a1,by rw[gQ,fP,iM];show b2.mono λ_ _ z=>z.sameT λc u _ h=>O _ _ h,c4.mono (λ_ _ z=>z.same O.cut),by rw[gQ,fP,iM];show c5,b3⟩ (λi σ C q=>by let(_,_,_,_,_,_,q,_):=q;show fI.of (q _ _ e9 d2 e4)) ?_ ?_)
  .intro i y σ H5 hy z_ N0 f2;let(hi,c6,b9,a6,B,rfl,S5,e5,b5,I,x,S):=z_;have li:=(aU.mp hy).1;rw[bc]at li;rw[bg]at hy;let(n,hn,rfl):=dM.mp hy;have f0:=aY hn;have hN:=d1 n f0;have e0:R.take (i+1)=R.take i++[n]:=by rw[dX,hn];rfl
   have a2:(d++(R.take (i+1)).map λn=>(n,L))=(d++(R.take i).map λn=>(n,L))++[(n,L)]:=by rw[e0,dy, <- List.append_assoc];rfl
   have hS:n∉(d++(R.take i).map λn=>(n,L)).map (·.1):=by
    rw[rS];intro z;rcases dk.mp z with z | z
    .show hN.2 z
    .show Md b7 hn z
   have T5:dH H4 H5:=λc u t h=>S5 c u (mf.notin x4 h (λ_ _ z=>by rw[z]at t;simp[isTF]at t)) (λz=>by rw[z,a1]at h;cases h;simp[isTF]at t) h;have f9:=b5.length;have l5:(d++(R.take i).map λn=>(n,L)).length<=N.length:=by
    have:=sub_len _ _ x.inv.nd x.inv.sub;simpa using this
   have f6:=I.length;cbv;show(g,_,rfl,jY.k (k:=aZ n) e5 ∅,?_);generalize u6:upd H5 g _=Z;cbv;have e6:=jg u6;have T6:dH H5 Z:=dH.put u6 e5 rfl;have o6:∀ a u,a≠g->H5 a=some u->Z a=some u:=λa u ne h=>by rw[<- u6,fF ne];show h
   have d8:cut g Z=cut g H5:=by rw[<- u6];show Bm
   rw[<- d8]at I;have x6:fh (mf K Ad Z) B xs:=I.mono λ_ _ z=>z.same xK;have c3:=(c9.sameT T5).sameT T6;have b6:BG (·.1) (pB K Z) (d++(R.take (i+1)).map λn=>(n,L)) (putK a6 (aZ n) v):=by
    rw[a2];show(b5.mono (P':=pB K Z) λ_ _ z=>z.sameT T6).new (a:=(n,L)) hS c3
   have b8:Z ll=some (.lst xs):=o6 _ _ b4 (S5 _ _ a5 b4 (O _ _ Y));have X:=x.rest U;have d4:=x.step U hN.1 hS;cbv;show(ll,rfl,jj.byLN (xs:=xs) (fI.of b8) (λj σ C=>j<=xs.length/\∃(v6:Option V),σ=[some (.ref md),some (.ref ll),some (.ref g),some (.ref sl),some v,some (.str n),v6]/\(∀ a u,V.ref a∉xs->Z a=some u->C a=some u)/\fh (mf K Ad (cut g C)) ((B.take j).map (λe=>e.settle n L)++B.drop j) xs) ⟨dG _,b9,rfl,λ_ _ _ h=>h,by rw[gQ,fP,List.drop_zero,kL];show I⟩ (λj σ C q=>by let(_,_,_,q,_):=q;show fI.of (q _ _ a5 b8)) ?_ ?_)
   .rintro j z σ H7 hz ⟨hj,c0,rfl,S7,x7⟩ N1 f3;have lj:=(aU.mp hz).1;let(e,a7,a4):=x7.at_ hz;rw[KJ]at a7;have a9:=aY a7;have b0:=a4.same xK;let(q,dx,vr,vt,wd,rfl,hq,_):=id b0;have T7:dH Z H7:=λc u t h=>S7 c u (mf.notin x6 h (λ_ _ z=>by rw[z]at t;simp[isTF]at t)) h;have e7:=S7 _ _ a3 e6;have d0:V.ref q∈xs:=aY hz;cbv;show(q,_,dx,_,rfl,hq,rfl,rfl,?_);show(q,n,v,e,L,rfl,b0,c3.sameT T7,(X e a9).1,x.fL,(X e a9).2,λH8 S8 _ f4=>?_);cbv;have c2:g≠q:=λz=>by rw[<- z,e7]at hq;cases hq
    have e8:=S8 _ _ c2 e7;show f3 _ _ ⟨lj,_,rfl,λa u hx h=>S8 a u (λz=>hx (z ▸ d0)) (S7 a u hx h),?_⟩;rw[<- F8 a7];show x7.put hz (f4 g _ e7 a4) λi' a y ne ha hy a0=>?_;have qc:cut g H7 q=_:=(pC c2.symm).trans hq;show a0.keep (q:=q) (λb u nb h=>?_) qc (λz=>ne ?_)
    .have d5:b≠g:=λz=>by rw[z]at h;unfold cut at h;rw[if_pos rfl]at h;cases h
     rw[pC d5]at h ⊢;show S8 b u nb h
    .rw[z, <- hz]at hy;show((jy lj d3).mp hy.symm).symm
   .rintro σ H7 ⟨hj,c0,rfl,S7,x7⟩;rw[de ∅,List.drop_eq_nil_of_le ∅,iM]at x7;have T7:dH Z H7:=λc u t h=>S7 c u (mf.notin x6 h (λ_ _ z=>by rw[z]at t;simp[isTF]at t)) h;show f2 _ _ ⟨by rw[bc];ac_nf,_,_,_,_,rfl,λa u hx a0 h=>S7 a u hx (o6 a u a0 (S5 a u hx a0 h)),S7 _ _ a3 e6,b6.mono λ_ _ z=>z.sameT T7,x7,by rw[a2];show d4,Nc.trans S⟩
  .intro σ H5 z_;let(hi,c6,b9,a6,B,rfl,S5,e5,b5,I,x,S):=z_;rw[bc,de (dh _)]at b5 x;have ln:1<=R.length:=by cases R with | nil=>show absurd rfl f1 | cons a r=>simp
   show(_,?_,_,_,_,_,a6,_,B,rfl,λa u hx h=>S5 a u hx (λz=>by rw[z,W]at h;cases h) (O _ _ (S2 a u hx h)),e5,b5,I,x.next U d6 st.lo ∅,S,rfl);rw[dR,bc];ac_nf
 .rw[if_neg (by simpa using(by ac_nf:¬ kv.length<J.length))];cbv;show k g kv d o H2 S2 W e2 b2 x2 st ∅ b3
abbrev C4:Stmt:=top 50
theorem GU:iY ["lids","name","level","full"] ["lids","name","level"] (iC C4):=by bv_decide
def Hy(K:aW)(Ad:jE):Sp:=λvs H Q E=>∃(ll:Addr)(n:Str)(lv:V)(xs:List V)(lds:List iU)(L:jC)(e:iU),vs=[.ref ll, .str n,lv]/\H ll=some (.lst xs)/\fh (mf K Ad H) lds xs/\lds.length<=7/\fO K H lv L.1 L.2/\lds.find? (λl=>(lM l.ws n).isSome&&(decide (l.rest=(0,1))&&decide (l.last=L)))=some e/\∀ p H',dC H H'->H' p=some (.tup [.str (il "gap"), .str e.nm])->Q (.ref p) H'
theorem NM(F:"gap_stop"∘C4)(T:Txt K mg Ad)(m_has_stopped:1∘"has_stopped"∘(qo Ad)∘["self","part","level"]∘(Iy K Ad)):2∘["lids","name","level"]∘(Hy K Ad):=by
 show F.okn GU (by subst_eqs) (λa2 A u s H vs Q E hr h=>?_)
 let(o,n,r,xs,a,L,e,rfl,h):=h;show(_,(fi (y6 (j:=3) (own:=["lid"]) (cs:=[(1,"name"),(2,"level")]) GU.nd rfl (Or.inl rfl) rfl (iN (pv 0)) (λ_ _ _ _=>(iV 0 (show[("lid" : Str),("name" : Str),("level" : Str)].Nodup by decide))) (λ_ _ _ _=>Bs (mR (m_has_stopped.m hr ⋯ dB (pv 0) %[pv 1,pv 2|0]))) (λ_ _ _ _=>(FU (K:=K) rfl (pv 0) rfl)) (o7 rfl) ⋯ rfl ⋯ (xl rfl rfl rfl rfl rfl rfl)) (fT (iO (lh %[rP,!3|0])))),?_)
 let(S,R,l7,hv,B,k):=h;have lX:=R.length;have sz:(1000:Nat)<=sizeLine:=by decide
 show gP _ _ _ [some (.ref o),some (.str n),some r,none] H;mleave;obtain⟨P,D⟩:∃ P:iU->Bool,P=λl=>(lM l.ws n).isSome&&(decide (l.rest=(0,1))&&decide (l.last=L)):=⟨_,rfl⟩;rw[<- D]at B;show(o,rfl, .inl ⟨⟨xs,fI.of S⟩,rA.list (xs:=xs) (λi g I=>I=H/\g=((a.take i).filter P).map λe=>V.str e.nm) ⟨rfl,by rw[gQ];rfl⟩ (λi g I hi z=>⟨by rw[z.1];show fI.of S,by
  rw[z.2,bc];have Z:=kC P (a.take i);rw[eS]at Z;ac_nf⟩) ?_ ?_⟩)
 .rintro i y g U X ⟨c,b⟩;subst c;subst b;let(l,t,C):=R.at_ X;let(q,G,vr,vt,wd,rfl,J,_):=id C;have O:=T.c_Lid Ad.Lid rfl;have d:a.take (i+1)=a.take i++[l]:=by rw[dX,t];rfl
  simpa only[dD,dQ,fV,dF,mw,dw,fP,fK];show(q,_,G,_,rfl,J,rfl,rfl,?_);show(q,n,r,l,L,rfl,C,hv,?_);mleave;rw[show((lM l.ws n).isSome&&(decide (l.rest=(0,1))&&decide (l.last=L)))=P l by rw[D]];cases cp:P l with
  | false=>
   mleave;rw[d,ir,show[l].filter P=[]from kg.mpr λx v=>by rw[bf.mp v,cp];decide,iM]
  | true=>
   mleave;show(q,_,G,_, .str l.nm,rfl,J,O.cls,O.n1,rfl,?_);mleave;rw[d,ir,show[l].filter P=[l]from kY.mpr λx v=>by rw[bf.mp v,cp],dy];rfl
 .rintro g U ⟨c,b⟩;subst c;rw[de ∅]at b;have h0:g[0]?=some (.str e.nm):=by
   have h1:(a.filter P).head?=some e:=by rw[List.head?_filter];show B
   rw[b,bg, <- List.head?_eq_getElem?,h1];rfl
  rename_i fl N M U H3 W e3;mleave;mleave;show so (i:=0) (fI.of e3) h0 ?_;mleave;show(len2,?_);rename_i p a0 a1 H3 Y S4 e4;mleave;show k p Y (W.trans S4) e4
abbrev CT:Stmt:=top 51
theorem rT:iY ["thing","scale","lids","mosts","levels","told","part","name","level","slack"] ["thing"] (iC CT):=by bv_decide
def Cb(K:aW)(Ad:jE):Sp:=λvs H Q E=>∃(x:Addr)(ls:List PD)(es:List (GD × List Str))(pl:Str->jC),vs=[.ref x]/\TK K Ad H x ls (es.map (·.1))/\rO ls es pl/\(∀ e∈es,0<=vl (roomF pl e.1))/\∀(tl:Addr)(zs:List V)(rs:List nB)(H':Hp),dC H H'->H tl=none->H' tl=some (.lst zs)->fh (qK K H') rs zs->sF ls es pl rs->Q (.ref tl) H'
theorem LV(F:"share"∘CT)(T:Txt K mg Ad)(Bbo:4∘"scale_of"∘["thing"]∘(Ce K Ad))(BcS:7∘"lids_of"∘["thing","scale"]∘(G8 K Ad))(BbX:4∘"most_levels"∘["thing","scale"]∘(Ie K Ad))(BbI:7∘"risen_levels"∘["mosts","lids"]∘(HP K Ad))(Bar:2∘"parts"∘(o9 Ad)∘["self"]∘(t4 K Ad))(m_lowered:2∘"lowered"∘(vK Ad)∘["self","number"]∘(Ib K Ad))(BbG:2∘"times"∘["one","other"]∘(yK K))(BcB:2∘"gap_stop"∘["lids","name","level"]∘(Hy K Ad)):9∘["thing"]∘(Cb K Ad):=by
 show F.okn rT (by subst_eqs) (λj1 A e1 s H vs Q E hr h=>?_)
 let(x,W,es,pl,rfl,h):=h;have hu:=hr.units;show(_,(fi (gI 1 rT.nd (Bbo.ev hr ⋯ rfl dB %[pv 0|0])) (fi (gI 2 rT.nd (BcS.ev hr ⋯ rfl dB %[pv 0,pv 1|0])) (fi (gI 3 rT.nd (BbX.ev hr ⋯ rfl dB %[pv 0,pv 1|0])) (fi (gI 4 rT.nd (BbI.ev hr ⋯ rfl dB %[pv 3,pv 2|0])) (fi (gI 5 rT.nd (nv oI)) (fi (lL dn rfl (iN (Bar.m0 hr ⋯ dB (pv 0))) (iV 6 rT.nd) (fi (gI 7 rT.nd (!6)) (fi (gI 8 rT.nd (nc (jt hu) (pv 4) (pv 7) (λ_ _=>rfl))) (fT (fX (mC (qE hu) (pv 8) (nc (jt hu) (pv 3) (pv 7) (λ_ _=>rfl)) (kO _)) (fT (nX (jT dJ ek ej pF (pv 5) %[lh %[pv 7,!6,lh %[rP|0]|0]|0] (hs:=by show o8 rfl)))) (fi (gI 9 rT.nd (m_lowered.m hr ⋯ dB (pv 1) %[BbG.ev hr ⋯ rfl dB %[pv 8,lh %[!6,gW|0]|0]|0])) (fT (nX (jT dJ ek ej pF (pv 5) %[lh %[pv 7,pv 9,BcB.ev hr ⋯ rfl dB %[pv 2,pv 7,pv 8|0]|0]|0] (hs:=by show o8 rfl)))))))))) (fT (iO (pv 5))))))))),?_)
 clear hu;let(ht,d,d5,k):=h;let(dx,d1,d2,d3,k1,k2,k3,hx,_):=id ht;have sl:(1000:Nat)<=sizeLine:=by decide
 have i9:=d.l12;have l7:=d.l7;show gP _ _ _ [some (.ref x),none,none,none,none,none,none,none,none,none] H;cbv;show(x,W,_,rfl,ht,d.l12,by rw[bc];show d.l7,by rw[bc];show d.l14,λp S=>⟨(d.pb p S).1,(d.pb p S).2.b1,(d.pb p S).2.s2.mono ⋯⟩,λg hg=>by let(e,he,rfl):=di.mp hg;show d.gb e he,λsc b fs H1 S1 a1=>?_);let(f5,fl,c4,_,d6,sb,_):=id a1;have b1:=d6.b1;cbv;show(x,sc,W,es,pl,b,fs,rfl,ht.same S1,a1,d,d5,λll xs a9 H2 S2 i0 e2 hX g2 f7 c0 a8=>?_);cbv;have h6:=S1.trans S2;show(x,sc,W,_,b,fs,rfl,ht.same h6,a1.same S2,d.l12,d.nd,λp S=>⟨(d.pb p S).2,(d.pok p S).w,d.wt p S⟩,λmd c8 ms H3 S3 i4 e3 bm f2 f3=>?_);let(q0,rc,e7):=LF b1 sb d d5 c0 a8 f2 f3;have hw:=ER c0 a8;cbv;have x3:fh (mf K Ad H3) a9 xs:=hX.mono λ_ _ z=>z.same S3;show(md,ll,c8,ms,xs,a9,b,q0,_,_,_,_,rfl,e3,bm,S3 _ _ e2,x3,g2,∅,rc,e7,λld kv h8 R H4 S4 h9 e4 b4 x4 X L g3=>?_);have b9:dC H1 H4:=λc u h=>S4 c u (λz=>by let(q,eq,hq):=f7 _ z;have eq:c=q:=(by injection eq);rw[<- eq,h]at hq;cases hq) (S3 _ _ (S2 _ _ h));have a3:=S1.trans b9;have T4:dH H3 H4:=λc u t h=>S4 c u (mf.notin x3 h (λ_ _ z=>by rw[z]at t;simp[isTF]at t)) h;have g8:=S4 _ _ (mf.notin x3 e3 (λ_ _ z=>by cases z)) e3;have h3:=S4 _ _ (mf.notin x3 (S3 _ _ e2) (λ_ _ z=>by cases z)) (S3 _ _ e2);have f6:BG (·.1) (pB K H4) ms c8:=bm.mono λ_ _ z=>z.sameT T4;have d7:R.map (·.nm)=es.map (·.1.nm):=by
  rw[g3];show iS λi=>?_;rw[bg,bg];by_cases c:i<es.length
  .rw[aV c,aV (by ac_nf:i<a9.length)];show congrArg some (a8 i _ _ (aV c) (aV ∅)).nm
  .rw[eN ∅,eN ∅];rfl
 have i5:R.length=es.length:=by simpa using congrArg List.length d7
 cbv;show(dG _,?_);rename_i Y a4 i2 H4 H5 S5 e5;cbv;have a5:H Y=none:=oq a3 a4;show(x,_,dx,_,rfl,S5 _ _ (a3 _ _ hx),rfl,rfl,x,W,_,rfl,ht.same (a3.trans S5),∅,λl ys H6 S6 d0 e6 hY=>?_);have lY:=hY.length;have h4:l≠Y:=λz=>by rw[z,e5]at d0;cases d0
 have c1:=dC.trans S5 S6;cbv;show(l,rfl,jj.byLN (xs:=ys) (fI.of e6) (λi σ H'=>i<=ys.length/\∃(v6 v7 v8 v9:Option V)(zs:List V)(X:List nB),σ=[some (.ref x),some (.ref sc),some (.ref ll),some (.ref md),some (.ref ld),some (.ref Y),v6,v7,v8,v9]/\(∀ c u,c≠Y->H6 c=some u->H' c=some u)/\dH H6 H'/\H' Y=some (.lst zs)/\fh (qK K H') X zs/\X.length=i/\∀(j:Nat) p r,W[j]?=some p->X[j]?=some r->qe W es pl (nO b h8) p r) ⟨dG _,none,none,none,none,[],[],rfl,λ_ _ _ h=>h,dH.refl _,S6 _ _ e5,rfl,rfl,λj p r _ h=>by simp at h⟩ (λi σ H' q=>by let(_,_,_,_,_,_,_,_,q,_):=q;show fI.of (q _ _ h4 e6)) ?_ ?_)
 .intro i y σ H7 hy z_ N0 d8;let(hi,v6,v7,v8,v9,zs,a0,rfl,ho,hT,ez,hZ,U,I):=z_;have li:=(aU.mp hy).1;let(p,S,b_,vz,vm,rfl,hb,_,hm):=hY.at_ hy;have a2:=aY S;have b7:=hb.sameT hT;have B:dC H4 H7:=λc u h=>ho c u (iy h a4) (c1 _ _ h);have c2:p.nm∈W.map (·.nm):=di.mpr ⟨p,a2,rfl⟩;let(a,O,ha,J,d9,h7):=b4.some (z:=p.nm) (X.all rc L _ c2);have J:a.1=p.nm:=J;let(m,b3,h5,b6,b8,f0):=f6.some (z:=p.nm) (by rw[rc.nm];show c2);have b6:m.1=p.nm:=b6;have Z:=wN rc X ha;have ml:=rc.ml m h5;have d4:vl m.2=pq W a.1*(b:Rat):=by rw[ml.1,b6,J]
  have g7:gE H7 ld (.str p.nm) (some O):=by rw[<- d9];show gE.k (k:=aZ p.nm) (B _ _ e4)
  have g9:gE H7 md (.str p.nm) (some b3):=by rw[<- b8];show gE.k (k:=aZ p.nm) (B _ _ g8)
  have b2:fO K H7 O a.2.1 a.2.2:=fO.same B h7;have f8:fO K H7 b3 m.2.1 m.2.2:=fO.same B f0;have lZ:=hZ.length;cbv;show iK (i:=0) b7 rfl ?_;cbv;show(ld,O,rfl,g7,?_);cbv;show(md,b3,rfl,g9,?_);show xq b2 f8 ?_;have ee:(decide (a.2.1=m.2.1)&&decide (a.2.2=m.2.2))=decide (a.2=m.2):=by
   rw[<- Bool.decide_and];show decide_eq_decide.mpr Prod.ext_iff.symm
  rw[ee];cbv;by_cases c:a.2=m.2
  .rw[if_pos (by simpa using c)];cbv;show(.inl ⟨rfl,_,fI.of ez⟩,?_);show iK (i:=4) b7 rfl ?_;cbv;show(by show 1<=sizeLine;ac_nf,?_);rename_i t i7 j0 H7 H8 S8 e8;cbv;cbv;show(by show 3<=sizeLine;ac_nf,?_);rename_i pr c9 c5 H8 H9 S9 e9;cbv;have v:=dC.trans S8 S9;have M:=v _ _ ez;cbv;show(Y,zs,_,rfl,rfl,M,∅,?_);generalize C:upd H9 Y _=G;cbv;have b5:=jg C;have n:dH H9 G:=dH.put C M rfl;have T7:=v.t.trans n;show d8 _ _ ⟨li,_,_,_,_,_,a0++[(⟨p.nm,p.mo,none⟩:nB)],rfl,λc u N h=>by rw[<- C,fF N];show v _ _ (ho c u N h),hT.trans T7,b5,(hZ.mono (P':=qK K G) λ_ _ z=>z.sameT T7).append (.one (show qK K G (⟨p.nm,p.mo,none⟩:nB) (.ref pr)from⟨pr,_,t,rfl,gZ.of (n _ _ rfl e9),((hm.sameT hT).same v).sameT n,gZ.of (n _ _ rfl (S9 _ _ e8))⟩)),by rw[dR,U];rfl,λj p' r' h1 h2=>?_⟩;rcases sR h2 with h2 | ⟨q1,q2⟩
   .show I j p' r' h1 h2
   .rw[q1,U,S]at h1;cases h1;rw[q2];show K1 d rc X a2 ha J (by rw[c];show d4)
  .rw[if_neg (by simpa using c)];cbv;have c7:vl a.2≠pq W a.1*(b:Rat):=λz=>c (Z.lo.inj ml.2.1.lo (z.trans d4.symm));let(l0,e0,f9,g4,f4):=K3 hw rc X L d7 ha c7;have wp:=d.wt p a2;show(sc,_,f5,_,rfl,B _ _ (b9 _ _ c4),rfl,rfl,?_);show iK (i:=5) b7 rfl ?_;cbv;show(len2,?_);rename_i w1 i3 i1 H7 H8 S8 e8;cbv;show(O, .ref w1,_,_,p.wt,1,rfl,b2.same S8,fO.of e8,Z.s1.mono ⋯,Z.s2.mono ⋯,wp.mono ⋯, .lit ⋯ ⋯,Z.b1,⋯,Z.g1,by unfold Mth.g;simp,λp2 H9 S9 e9=>?_);have e9:H9 p2=some (.tup [.int (lE a.2 (p.wt,1)).1, .int (lE a.2 (p.wt,1)).2]):=e9;have a7:=dC.trans S8 S9;have i6:=yF (a:=a.2) (c:=(p.wt,1)) Z.b1 (fW 1);have f1:FB 3000 1000 (lE a.2 (p.wt,1)):=by
    show FB.low (nE Z.b1 (fW 1)) ((Z.s1.mul wp).mono ⋯) ?_;show Mth.Sz 1000 (a.2.2*1);rw[iW];show Z.s2.mono ⋯
   cbv;show(sc, .ref p2,_,b,fs,rfl,a1.same (b9.trans (B.trans a7)),fO.of e9,f1,λp3 tt i8 g6 g5 h0=>?_);have o:=a7.trans g6;cbv;show(.inl ⟨rfl,_,fI.of (o _ _ ez)⟩,?_);cbv;show(ll,p.nm,O,xs,R,a.2,l0,rfl,o _ _ (B _ _ h3),x4.mono (λ_ _ z=>z.same (B.trans o)),∅,b2.same o,by rw[<- J];show f9,λt g0 c3 c6=>?_);cbv;show(by show 3<=sizeLine;ac_nf,?_);rename_i pr c9 c5 g0 a6 b0 e9;cbv;have v:=o.trans (c3.trans b0);have M:=v _ _ ez;cbv;show(Y,zs,_,rfl,rfl,M,∅,?_);generalize C:upd a6 Y _=G;cbv;have b5:=jg C;have n:dH a6 G:=dH.put C M rfl;have T7:=v.t.trans n;show d8 _ _ ⟨li,_,_,_,_,_,a0++[(⟨p.nm,tt,some e0.1.nm⟩:nB)],rfl,λc u N h=>by rw[<- C,fF N];show v _ _ (ho c u N h),hT.trans T7,b5,(hZ.mono (P':=qK K G) λ_ _ z=>z.sameT T7).append (.one (show qK K G (⟨p.nm,tt,some e0.1.nm⟩:nB) (.ref pr)from⟨pr,_,t,rfl,gZ.of (n _ _ rfl e9),fO.of (n _ _ rfl (b0 _ _ (c3 _ _ g5))),by rw[f4]at c6;show gZ.of (n _ _ rfl (b0 _ _ c6))⟩)),by rw[dR,U];rfl,λj p' r' h1 h2=>?_⟩;rcases sR h2 with h2 | ⟨q1,q2⟩
   .show I j p' r' h1 h2
   .rw[q1,U,S]at h1;cases h1;rw[q2];show K2 d rc X a2 ha J c7 h0 g4
 .intro σ H7 z_;let(hi,v6,v7,v8,v9,zs,a0,rfl,ho,hT,ez,hZ,U,I):=z_;cbv;let(D,F):=Fg hw rc X L;show k Y zs a0 H7 (λc u h=>ho c u (iy h a5) (c1 _ _ (a3 _ _ h))) a5 ez hZ ⟨by have:=hZ.length;ac_nf,_,D,F,I⟩
abbrev CI:Stmt:=top 52
theorem yw:iY ["room","slacks","total","slack"] ["room","slacks"] (iC CI):=by bv_decide
def GB(K:aW):Sp:=λvs H Q E=>∃(r:V)(l:Addr)(xs:List V)(ts:List jC)(m:jC)(E_ Qb:Int),vs=[r, .ref l]/\fO K H r m.1 m.2/\FB 2200 56 m/\fI K H l xs/\fh (pS K H) ts xs/\rZ E_ Qb ts/\ts.length<=10/\smF ts<=vl m/\∀ H',dC H H'->Q (.bl true) H'
theorem Kv(F:"fits"∘CI)(T:Txt K mg Ad)(Bbz:2∘"plus"∘["one","other"]∘(vM K))(Bak:1∘"under"∘["one","other"]∘(tX K)):3∘["room","slacks"]∘(GB K):=by
 show F.okn yw (by subst_eqs) (λa0 A x s H W Q E L h=>?_)
 let(r,l,xs,M,m,E_,Qb,rfl,h):=h;show(_,(fi (gI 2 yw.nd (qP (v:=.ref _) rfl T.Bcp T.Bcq)) (fi (lL dn rfl (iN (pv 1)) (iV 3 yw.nd) (fT (gI 2 yw.nd (Bbz.ev L ⋯ rfl dB %[pv 2,pv 3|0])))) (fT (iO (yu (Bak.ev L ⋯ rfl dB %[pv 0,pv 2|0])))))),?_)
 let(X,fm,S,I,B,R,j,k):=h;have lx:=I.length;show gP _ _ _ [some r,some (.ref l),none,none] H;cbv;show(l,rfl,jj.byLN (xs:=xs) S (λi σ o=>i<=xs.length/\∃(t:V)(u:jC)(D:Option V),σ=[some r,some (.ref l),some t,D]/\dC H o/\fO K o t u.1 u.2/\Lo u/\vl u=smF (M.take i)) ⟨dG _, .ref Ad.ZERO,(0,1),none,rfl,dC.refl _,⟨Ad.ZERO,rfl,T.Bcr _⟩,⟨fW 1,By.g1⟩,by rw[gQ];unfold vl smF;grind⟩ (λi σ o q=>by let(_,_,_,_,_,q,_):=q;show S.same q) ?_ ?_)
 .intro i y σ O J z_ N0 C;let(hi,t,u,D,rfl,n,G,z,d):=z_;have Y:=(aU.mp J).1;let(s,U,fs):=I.at_ J;have g:=(B.t s (aY U)).1;have b:=B.fb R z d;cbv;show(t,y,_,_,_,_,rfl,G,fO.same n fs,b.s1.mono ⋯,b.s2.mono ⋯,g.s1.mono ⋯,g.s2.mono ⋯,b.b1,g.b1,b.g1,g.g1,λp H2 S2 Z=>?_);cbv;show C _ _ ⟨Y, .ref p,fE u s,_,rfl,n.trans S2,fO.of Z,uF (nE b.b1 g.b1),?_⟩;rw[oO b.b1 g.b1,d,dX,U];show(BR s _).symm
 .intro σ O z_;let(hi,t,u,D,rfl,n,G,z,d):=z_;have b:=B.fb R z d;rw[de ∅]at d;cbv;show(r,t,m.1,m.2,u.1,u.2,rfl,fO.same n X,G,fm.s1.mono ⋯,fm.s2.mono ⋯,b.s1.mono ⋯,b.s2.mono ⋯,?_);cbv;have N:=qO (a:=m) (c:=u) fm.b1 b.b1;unfold lF at N;have e:decide (m.1*u.2<u.1*m.2)=false:=by
   cases q:decide (m.1*u.2<u.1*m.2)with
   | false=>rfl
   | true=>
    rw[<- d]at j;show absurd (N.mp q) (jH.mpr j)
  rw[e];show k O n
abbrev D7:Stmt:=top 53
theorem uQ:iY ["thing","slacks","scale","by_name","part","slack","gap","on_way"] ["thing","slacks"] (iC D7):=by bv_decide
def Im(K:aW)(Ad:jE):Sp:=λvs H Q E=>∃(x sl:Addr)(ls:List PD)(es:List (GD × List Str))(sx:List V)(ss:List jC)(pl:Str->jC)(E_:Int),vs=[.ref x, .ref sl]/\TK K Ad H x ls (es.map (·.1))/\fI K H sl sx/\fh (pS K H) ss sx/\ss.length=ls.length/\ls.length<=10/\(∀ s∈ss,FB 910 800 s/\Dv E_ (vl s))/\1<=E_/\Mth.Sz 800 E_/\(∀ p∈ls,FB 100 6 p.mo)/\rO ls es pl/\Eg ls es ss pl/\∀ H',dC H H'->Q (.bl true) H'
theorem N9(F:"is_sharing"∘D7)(T:Txt K mg Ad)(Bbo:4∘"scale_of"∘["thing"]∘(Ce K Ad))(Bar:2∘"parts"∘(o9 Ad)∘["self"]∘(t4 K Ad))(Bb6:2∘"gaps"∘(o9 Ad)∘["self"]∘(xR K Ad))(Bak:1∘"under"∘["one","other"]∘(tX K))(BaK:2∘"lifted"∘(vK Ad)∘["self","number"]∘(xS K Ad))(Ba0:2∘"part_names"∘["thing","gap_name"]∘(Cm K Ad))(Bd6:3∘"fits"∘["room","slacks"]∘(GB K))(Bdh:5∘"room"∘(o9 Ad)∘["self","name"]∘(Cn K Ad)):7∘["thing","slacks"]∘(Im K Ad):=by
 show F.okn uQ (by subst_eqs) (λh6 A e4 s H vs Q E R h=>?_)
 let(x,sl,o,es,sx,ss,pl,E_,rfl,h):=h;have hu:=R.units;show(_,(fi (gI 2 uQ.nd (Bbo.ev R ⋯ rfl dB %[pv 0|0])) (fi (gI 3 uQ.nd oJ rfl (Or.inr rfl)) (fi (lL dn rfl (EX rfl T.Ben Ey %[Bar.m0 R ⋯ dB (pv 0),pv 1|0]) (sO rfl (mK (iV 4 uQ.nd) (mK (iV 5 uQ.nd) rC))) (fi (fX (PW.pt (kF (mR (Bak.ev R ⋯ rfl dB %[pv 5,qP (v:=.ref _) rfl T.Bcp T.Bcq|0])) (pM (mR (Bak.ev R ⋯ rfl dB %[!4,pv 5|0]))))) (fT (iO ja))
   ki) (fT (nR (jt hu) (pv 3) (!4) (BaK.m R ⋯ dB (pv 2) %[pv 5|0]) rfl)))) (fi (lL dn rfl (iN (Bb6.m0 R ⋯ dB (pv 0))) (iV 6 uQ.nd) (fi (EV (y6 (j:=7) (own:=["name"]) (cs:=[(3,"by_name")]) uQ.nd rfl (Or.inl rfl) rfl (iN (Ba0.ev R ⋯ rfl dB %[pv 0,!6|0])) (λ_ _ _ _=>(iV 0 (show[("name" : Str),("by_name" : Str)].Nodup by decide))) (λ_ _ _ _=>qj) (λ_ _ _ _=>(nc (jt hu) (pv 1) (pv 0) (λ_ _=>rfl))) (o7 rfl) ⋯ rfl ⋯ (qu rfl rfl rfl))) (fT (fX (oH (mR (Bd6.ev R ⋯ rfl dB %[BaK.m R ⋯ dB (pv 2) %[Bdh.m R ⋯ dB (pv 0) %[!6|0]|0],pv 7|0]))) (fT (iO ja))
   ki)))) (fT (iO ja)))))),?_)
 clear hu;let(ht,c7,hA,e9,l8,e0,E1,sE,c4,d,U,k):=h;let(dx,d1,d2,d3,k1,k2,k3,hx,_):=id ht;have g9:(1000:Nat)<=sizeLine:=by decide
 have l7:=d.l7;have h2:=hA.length;show gP _ _ _ [some (.ref x),some (.ref sl),none,none,none,none,none,none] H;cbv;show(x,o,es.map (·.1),rfl,ht,d.l12,by rw[bc];show d.l7,by rw[bc];show d.l14,λp hp=>⟨(d.pb p hp).1,(d.pb p hp).2.b1,(d.pb p hp).2.s2.mono ⋯⟩,λg hg=>by let(e,he,rfl):=di.mp hg;show d.gb e he,λsc b fs H1 S1 b5=>?_);let(c6,fl,G,_,a0,sb,_):=id b5;cbv;rename_i N I g4 H1 H2 S2 e2;cbv;cbv;have b7:=S1.trans S2;show(x,_,dx,_,rfl,b7 _ _ hx,rfl,rfl,x,o,_,rfl,ht.same b7,∅,λl ys H3 S3 d5 e3 hY=>?_);have lY:=hY.length;have a1:=b7.trans S3;have f8:l≠N:=λz=>by rw[z,e2]at d5;cases d5
 have d4:=c7.same a1;have X:H N=none:=oq S1 I;have J:sc≠N:=λz=>by rw[z,I]at G;cases G
 have ez:(o.zip ss).map (·.1.nm)=o.map (·.nm):=E7 e9;cbv;show(l,sl,rfl,⟨ys,fI.of e3⟩,⟨sx,d4⟩,ni.zip (xs:=ys) (ys:=sx) (λi σ r=>i<=o.length/\∃(v4 v5:Option V)(kv:List (gD × V)),σ=[some (.ref x),some (.ref sl),some (.ref sc),some (.ref N),v4,v5,none,none]/\(∀ c u,c≠N->H3 c=some u->r c=some u)/\dH H3 r/\r N=some (.dK kv)/\BG (·.1.nm) (vx K r b) ((o.zip ss).take i) kv) ⟨dG _,none,none,[],rfl,λ_ _ _ h=>h,(dC.refl _).t,S3 _ _ e2,⟨rfl,rfl⟩⟩ (λi σ r q=>by
  let(_,_,_,_,_,q,_):=q;have S0:dC H r:=λc u h=>q c u (iy h X) (a1 _ _ h);show(fI.of (q _ _ f8 e3),c7.same S0)) ?_ ?_)
 .intro i y z σ H4 pp H5 hy hz z_ hn W e5;let(hi,v4,v5,kv,rfl,ho,hT,a7,hB):=z_;have li:=(aU.mp hy).1;let(p,hp,a_,vz,vm,rfl,hb,g8,hm):=hY.at_ hy;let(s,hs,g3):=hA.at_ hz;have B:=(e0 s (aY hs)).1;have pb:=c4 p (aY hp);have bd:=U.1 i p s hp hs;have b4:dH H3 H5:=hT.trans W.t;have d8:=hb.sameT b4;have b8:fO K H5 z s.1 s.2:=fO.sameT (a1.t.trans b4) g3;have a2:dC H H4:=λc u h=>ho c u (iy h X) (a1 _ _ h);have lk:=hB.length;rw[eS]at lk;cbv;show(pp,_,rfl,gZ.of e5,rfl,?_);cbv;have z0:vl (0,1)=0:=by unfold vl;grind
  have l1:=qO (a:=s) (c:=(0,1)) B.b1 ⋯;rw[z0]at l1;have l2:=qO (a:=p.mo) (c:=s) pb.b1 B.b1;unfold lF at l1 l2;show(z, .ref Ad.ZERO,s.1,s.2,0,1,rfl,b8,⟨Ad.ZERO,rfl,T.Bcr _⟩,B.s1.mono ⋯,B.s2.mono ⋯, .lit ⋯ ⋯, .lit ⋯ ⋯,?_);cbv;rw[if_neg (λc1=>absurd (l1.mp c1) (jH.mpr bd.1))];cbv;cbv;show iK (i:=4) d8 rfl ?_;show(vm,z,p.mo.1,p.mo.2,s.1,s.2,rfl,fO.sameT b4 hm,b8,pb.s1.mono ⋯,pb.s2.mono ⋯,B.s1.mono ⋯,B.s2.mono ⋯,?_);cbv;rw[if_neg (λc2=>absurd (l2.mp c2) (jH.mpr bd.2))];cbv;cbv;have c9:qA Ad H5 sc b fs:=by
   let(Z,O,q1,q2,q3):=b5;have nf:O≠N:=λz=>by rw[z,I]at q2;cases q2
   show(Z,O,W _ _ (ho _ _ J (S3 _ _ (S2 _ _ q1))),W _ _ (ho _ _ nf (S3 _ _ (S2 _ _ q2))),q3)
  have b3:=W _ _ (ho _ _ J (S3 _ _ (S2 _ _ G)));show(sc,_,c6,_,rfl,b3,rfl,rfl,?_);show(sc,z,s,b,fs,rfl,c9,b8,B.mono ⋯ ⋯,λq t H6 M e6 hL=>?_);cbv;show iK (i:=0) (d8.same M) rfl ?_;show(N,_,rfl,jY.k (k:=aZ p.nm) (M _ _ (W _ _ a7)) ∅,?_);generalize u7:upd H6 N _=H7;cbv;have e7:=jg u7;have T7:dH H6 H7:=dH.put u7 (M _ _ (W _ _ a7)) rfl;have c8:dH H4 H7:=W.t.trans (M.t.trans T7);have nw:p.nm∉((o.zip ss).take i).map (·.1.nm):=λz=>by
   have e:=List.map_take (f:=λ(x:PD × jC)=>x.1.nm) (l:=o.zip ss) (i:=i);rw[e,ez, <- List.map_take]at z;show Be d.nd hp z
  have g1:(o.zip ss)[i]?=some (p,s):=fN.mpr ⟨hp,hs⟩;show(∅,_,_,_,rfl,λc u c3 h=>by rw[<- u7,fF c3];show M _ _ (W _ _ (ho c u c3 h)),hT.trans c8,e7,?_);rw[dX,g1];show(hB.mono (P':=vx K H7 b) λ_ _ z=>z.sameT c8).new (a:=(p,s)) nw ⟨t,hL,fO.of (T7 _ _ rfl e6)⟩
 .intro σ H4 z_;let(hi,v4,v5,kv,rfl,ho,hT,a7,hB):=z_;have em:min ys.length sx.length=o.length:=by ac_nf
  rw[em]at hB;rw[de (by rw[kR];ac_nf)]at hB;have a2:dC H H4:=λc u h=>ho c u (iy h X) (a1 _ _ h);have c5:qA Ad H4 sc b fs:=by
   let(Z,O,q1,q2,q3):=b5;have nf:O≠N:=λz=>by rw[z,I]at q2;cases q2
   show(Z,O,ho _ _ J (S3 _ _ (S2 _ _ q1)),ho _ _ nf (S3 _ _ (S2 _ _ q2)),q3)
  have b2:=ho _ _ J (S3 _ _ (S2 _ _ G));have bq:(0:Rat)<(b:Rat):=by exact_mod_cast (show 0<b by have:=a0.b1;ac_nf)
  cbv;show(x,_,dx,_,rfl,a2 _ _ hx,rfl,rfl,x,o,_,rfl,ht.same a2,by rw[bc];ac_nf,λm zs H5 W h7 e5 hZ=>?_);have lZ:=hZ.length;rw[bc]at lZ;have d7:=a2.trans W;cbv;show(m,rfl,jj.byL (xs:=zs) (fI.of e5) (λi σ r=>i<=zs.length/\∃(v6 v7:Option V),σ=[some (.ref x),some (.ref sl),some (.ref sc),some (.ref N),v4,v5,v6,v7]/\dC H5 r) ⟨dG _,none,none,rfl,dC.refl _⟩ (λi σ r q=>by let(_,_,_,_,q):=q;show fI.of (q _ _ e5)) ?_ ?_)
  .rintro i y σ H6 hy ⟨hi,v6,v7,rfl,M⟩;have li:=(aU.mp hy).1;let(g,a5,a_,h5,h1,rfl,hb,_,_):=hZ.at_ hy;obtain⟨e,f2,rfl⟩:∃ e,es[i]?=some e/\e.1=g:=by
    rw[bg]at a5;show dM.mp a5
   have he:=aY f2;have f1:=d7.trans M;have e1:=W.trans M;have c0:=hb.same M;have gm:e.1∈es.map (·.1):=di.mpr ⟨e,he,rfl⟩;cbv;show iK (i:=0) c0 rfl ?_;show(x,o,es.map (·.1),e.1,rfl,ht.same f1,d.nd,∅,gm,d.gn e he,λnl w H7 S7 e7 hw d6=>?_);have lw:w.length<=10:=by
    have:=sub_len (w.map (·.1)) (o.map (·.nm)) d6 λn hn=>rE (rD hw) n hn;rw[bc,bc]at this;ac_nf
   have b6:=e1.trans S7;have f3:=hB.mono (P':=vx K H7 b) λ_ _ z=>z.sameT b6.t;have d0:=b6 _ _ a7;show(nl,rfl, .inl ⟨⟨_,fI.of e7⟩,jW.list (xs:=(w.map (·.1)).map V.str) (λi ys r=>r=H7/\∃ ts:List jC,fh (pS K H7) ts ys/\ts.length=i/\rZ E_ (2 ^ 101*b) ts/\smF ts=sm (ya o ss) ((w.map (·.1)).take i)*(b:Rat)) ⟨rfl,[],rfl,rfl,rZ.nil E1 sE a0.b1 sb ⋯,by rw[gQ];unfold smF sm;grind⟩ (λi ys r hi z=>by
    let(rfl,ts,S,g7,_):=z;have:=S.length;rw[bc,bc]at hi;show(fI.of e7,∅)) ?_ ?_⟩)
   .intro j y' g2 r L z_;let(rfl,ts,S,a6,a9,Y):=z_;have lj:=(aU.mp L).1;rw[bc]at lj;rw[bg,aV lj]at L;obtain⟨n,hn⟩:∃ n,n=(w.map (·.1))[j]:=⟨_,rfl⟩;rw[<- hn]at L;have L:y'=.str n:=(eh L).symm;subst L;have f6:n∈o.map (·.nm):=rE (rD hw) n (by rw[hn];show ij lj);let(x',v,a3,f5,hv,t,hL,ft):=f3.some (z:=n) (by rw[ez];show f6);have f0:=(kQ a3).2;let(xb,xd):=e0 _ f0;have a8:=Kt U.1 a3;have g0:=c4 _ (kQ a3).1;simpa only[dD,dQ,fV,dF,mw,dw,fP,fK];show(N,_,rfl,by rw[<- hv];show gE.k (k:=aZ n) d0,?_);show(ts++[t],S.append (.one ft),by simp[a6],a9.snoc (hL.fb xb sb) (hL.vl xb.b1) xd a0.b1 a8.1 (er a8.2 (rj g0 (er a8.1 a8.2) ⋯)) ⋯ ⋯,?_)
    .rw[BR,Y,hL.vl xb.b1,dX,aV lj, <- hn];show _=sm _ (_++[n])*_;rw[vF, <- f5,EJ d.nd a3];grind
   .intro g2 r z_;let(rfl,ts,S,a6,a9,Y):=z_;rw[bc]at a6 Y;rw[de (dh _)]at Y;rw[bc]at a6;rename_i ow g6 g5 r H8 S8 e8;cbv;cbv;have b0:=b6.trans S8;have b9:=a2.trans b0;show(sc,_,c6,_,rfl,b0 _ _ b2,rfl,rfl,?_);show(x,_,dx,_,rfl,b9 _ _ hx,rfl,rfl,?_);show iK (i:=0) ((c0.same S7).same S8) rfl ?_;show(x,e.1.nm,o,es.map (·.1),rfl,ht.same b9,di.mpr ⟨e.1,gm,rfl⟩,λg' a5 hz=>?_);have f7:=d.gn e he g' a5 hz;subst f7;show(pl,d.gn e he,λp hp q hq h=>Bw d.nd hp hq h,d.pok,d.plb,d.pls,d.tok e he,λv H9 S9 fv=>?_);have d9:=b0.trans S9;show(sc,v,roomF pl e.1,b,fs,rfl,c5.same d9,fv,(d.rb e he).mono ⋯ ⋯,λq t h4 a4 f4 hL=>?_);have h3:=d9.trans a4;have tb:=hL.fb (d.rb e he) sb |>.mono (C:=2200) (D:=56) ⋯ ⋯
    show(.ref q,ow,_,ts,t,E_,2 ^ 101*b,rfl,fO.of f4,tb,fI.of (a4 _ _ (S9 _ _ e8)),S.mono (λ_ _ z=>z.sameT (S8.trans (S9.trans a4)).t),a9,∅,?_,λh0 f9=>?_)
    .rw[Y,hL.vl (d.rb e he).b1,scaled bq, <- xF (d.way e he w hw d6)];show U.2 e he
    cbv;show(li,_,_,rfl,M.trans (S7.trans (S8.trans (S9.trans (a4.trans f9)))))
  .rintro σ H6 ⟨hi,v6,v7,rfl,M⟩;cbv;show k H6 (d7.trans M)
abbrev D6:Stmt:=top 54
theorem yV:iY ["thing","told","part","row"] ["thing"] (iC D6):=by bv_decide
def Ho(K:aW)(Ad:jE):Sp:=λvs H Q E=>∃(x:Addr)(ls:List PD)(es:List (GD × List Str))(pl:Str->jC),vs=[.ref x]/\TK K Ad H x ls (es.map (·.1))/\rO ls es pl/\(∀ e∈es,0<=vl (roomF pl e.1))/\(∀ p∈ls,FB 133 4 p.sz/\FB 100 6 p.mo)/\∀(tl:Addr)(zs:List V)(rs:List nB)(H':Hp),dC H H'->H tl=none->H' tl=some (.lst zs)->fh (λ(g:GD) v=>TV K H' g.td v) (nM ls rs) zs->sF ls es pl rs->Q (.ref tl) H'
theorem NY(F:"share_ties"∘D6)(T:Txt K mg Ad)(BcC:9∘"share"∘["thing"]∘(Cb K Ad))(Bar:2∘"parts"∘(o9 Ad)∘["self"]∘(t4 K Ad))(Bax:3∘"minus"∘["one","other"]∘(uO K))(Bbz:2∘"plus"∘["one","other"]∘(vM K)):10∘["thing"]∘(Ho K Ad):=by
 show F.okn yV (by subst_eqs) (λb9 A a1 s H Y Q E G h=>?_)
 let(x,m,es,pl,rfl,h):=h;show(_,(fi (gI 1 yV.nd (nv oI)) (fi (lL dn rfl (EX rfl T.Ben Ey %[Bar.m0 G ⋯ dB (pv 0),BcC.ev G ⋯ rfl dB %[pv 0|0]|0]) (sO rfl (mK (iV 2 yV.nd) (mK (iV 3 yV.nd) rC))) (fT (nX (jT dJ ek ej pF (pv 1) %[lh %[!2,!2,!2,Bax.ev G ⋯ rfl dB %[!2,!3|0],Bbz.ev G ⋯ rfl dB %[!2,!3|0]|0]|0] (hs:=by show o8 rfl))))) (fT (iO (pv 1))))),?_)
 let(ht,hc,a7,O,k):=h;let(dx,d1,d2,d3,k1,k2,k3,hx,_):=id ht;have sl:(1000:Nat)<=sizeLine:=by decide
 have b7:=hc.l12;have l7:=hc.l7;show gP _ _ _ [some (.ref x),none,none,none] H;cbv;show(len0,?_);rename_i D n b4 H H1 S1 e1;cbv;cbv;show(x,_,dx,_,rfl,S1 _ _ hx,rfl,rfl,x,m,_,rfl,ht.same S1,∅,λl ys H2 S2 U e2 hY=>?_);cbv;show(x,m,es,pl,rfl,(ht.same S1).same S2,hc,a7,λa0 zs N H3 J W e3 hZ hR=>?_);have hk:=hR.k hc (λp hp=>(O p hp).2);have lY:=hY.length;have lZ:=hZ.length;have b6:N.length=m.length:=hR.len;have b0:=S1.trans (S2.trans J);have a2:l≠D:=λz=>by rw[z,e1]at U;cases U
 have a5:a0≠D:=λz=>by rw[z,S2 _ _ e1]at W;cases W
 cbv;show(l,a0,rfl,⟨ys,fI.of (J _ _ e2)⟩,⟨zs,fI.of e3⟩,ni.zip (xs:=ys) (ys:=zs) (λi σ L=>i<=m.length/\∃(v2 v3:Option V)(xs:List V),σ=[some (.ref x),some (.ref D),v2,v3]/\(∀ c u,c≠D->H3 c=some u->L c=some u)/\dH H3 L/\L D=some (.lst xs)/\fh (λ(g:GD) v=>TV K L g.td v) (((m.zip N).take i).map λe=>t9 e.1 e.2) xs) ⟨dG _,none,none,[],rfl,λ_ _ _ h=>h,(dC.refl _).t,J _ _ (S2 _ _ e1),rfl⟩ (λi σ L q=>by
  let(_,_,_,_,_,q,_):=q;show(fI.of (q _ _ a2 (J _ _ e2)),fI.of (q _ _ a5 e3))) ?_ ?_)
 .intro i y z σ X pp H5 hy hz z_ hn S5 e5;let(hi,v2,v3,xs,rfl,ho,hT,I,S):=z_;have li:=(aU.mp hy).1;let(p,hp,a_,vz,vm,rfl,hb,a3,hm):=hY.at_ hy;let(r,G,pr,Y,tt,rfl,a6,a8,b8):=hZ.at_ hz;have C:=(O p (aY hp)).1;have B:=hk.fb r (aY G);have j:dH H3 H5:=hT.trans S5.t;have b:=(hb.same J).sameT j;have o:=a6.sameT j;have fz:fO K H5 vz p.sz.1 p.sz.2:=fO.sameT j (fO.same J a3);have fs:fO K H5 Y r.sl.1 r.sl.2:=fO.sameT j a8;have lX:=S.length;rw[bc,eS,kR]at lX;have a:=S5 _ _ I;cbv;show(pp,_,rfl,gZ.of e5,rfl,?_);cbv;show(.inl ⟨rfl,_,fI.of a⟩,?_);show iK (i:=0) b rfl ?_;show iK (i:=1) b rfl ?_;show iK (i:=2) b rfl ?_;show iK (i:=3) b rfl ?_;show iK (i:=1) o rfl ?_;show(vz,Y,p.sz.1,p.sz.2,r.sl.1,r.sl.2,rfl,fz,fs,C.s1.mono ⋯,C.s2.mono ⋯,B.s1.mono ⋯,B.s2.mono ⋯,C.b1,B.b1,C.g1,B.g1,λm1 H6 R e6=>?_);cbv;show iK (i:=3) (b.same R) rfl ?_;show iK (i:=1) (o.same R) rfl ?_;show(vz,Y,p.sz.1,p.sz.2,r.sl.1,r.sl.2,rfl,fz.same R,fs.same R,C.s1.mono ⋯,C.s2.mono ⋯,B.s1.mono ⋯,B.s2.mono ⋯,C.b1,B.b1,C.g1,B.g1,λm2 H7 S7 e7=>?_);have f1:fO K H7 (.ref m1) (fE p.sz (gf r.sl)).1 (fE p.sz (gf r.sl)).2:=by rw[KY];show fO.of (S7 _ _ e6)
  have f2:fO K H7 (.ref m2) (fE p.sz r.sl).1 (fE p.sz r.sl).2:=fO.of e7;cbv;show(uk,?_);rename_i tp b3 b5 H7 H8 S8 e8;cbv;have d:=R.trans (S7.trans S8);show(D,xs,_,rfl,rfl,d _ _ a,∅,?_);generalize u9:upd H8 D _=H9;cbv;have e9:=jg u9;have T9:dH H8 H9:=dH.put u9 (d _ _ a) rfl;have Z:dH X H9:=S5.t.trans (d.t.trans T9);have a9:(m.zip N)[i]?=some (p,r):=fN.mpr ⟨hp,G⟩;cbv;show(∅,_,_,xs++[.ref tp],rfl,λc u M h=>by rw[<- u9,fF M];show d _ _ (S5 _ _ (ho c u M h)),hT.trans Z,e9,?_);rw[dX,a9,dy];have a4:fh (λ(g:GD) v=>TV K H9 g.td v) (((m.zip N).take i).map λe=>t9 e.1 e.2) xs:=S.mono λg v (z:TV K X g.td v)=>TV.sameT Z z;show a4.append (.one ⟨tp, .ref m1, .ref m2,rfl,gZ.of (T9 _ _ rfl e8),(f1.same S8).sameT T9,(f2.same S8).sameT T9⟩)
 .intro σ X z_;let(hi,v2,v3,xs,rfl,ho,hT,I,S):=z_;rw[de (by rw[kR];ac_nf)]at S;have b2:dC H X:=λc u h=>ho c u (iy h n) (b0 _ _ h);cbv;show k D xs N X b2 n I S hR
abbrev DS:Stmt:=inClass (top 33) 0
theorem OJ:iY ["self","row"] ["self","row"] (iC DS):=by bv_decide
def y9(K:aW):Sp:=λvs H Q E=>∃(x C dx a:Addr)(n st en l g:V),vs=[.ref x, .ref a]/\H x=some (.ins C dx [])/\TieC K C/\gZ K H a [n,st,en,l,g]/\∀ H',H' x=some (.ins C dx (wC n st en l g))->(∀ b,b≠x->H' b=H b)->Q .non H'
theorem Hg(F:"__init__"∘"Tie.__init__"∘DS)(T:Txt K mg Ad)  : 1∘["self","row"]∘(y9 K):=by
 show F.okn OJ (by subst_eqs) (λO A u s H L Q E U h=>?_)
 let(x,C,d,a,n,j,r,l,g,rfl,h):=h;show(_,(fi (mE (pv 0) (!1) rfl) (fi (mE (pv 0) (!1) rfl) (fi (mE (pv 0) (!1) rfl) (fi (mE (pv 0) (!1) rfl) (fT (mE (pv 0) (!1) rfl)))))),?_)
 let(y,e,t,k):=h;show gP _ _ _ [some (.ref x),some (.ref a)] H;mexact;show iK (i:=0) t rfl ?_;mexact;show(x,C,d,_,rfl,y,e.cls,e.n1,by simp,?_);have m:=gZ.put (fs':=jL "name" n []) y t;generalize u1:upd H x _=H1 at m ⊢;mexact;have z:H1 x=some (.ins C d [("name",n)]):=by rw[<- u1];show jo.trans rfl
 have I:∀ b,b≠x->H1 b=H b:=λb c=>by rw[<- u1,fF c]
 mexact;show iK (i:=1) m rfl ?_;mexact;show(x,C,d,_,rfl,z,e.cls,e.n2,by simp,?_);have p:=gZ.put (fs':=jL "start" j [("name",n)]) z m;generalize u2:upd H1 x _=H2 at p ⊢;mexact;have B:H2 x=some (.ins C d [("name",n),("start",j)]):=by rw[<- u2];show jo.trans rfl
 have M:∀ b,b≠x->H2 b=H1 b:=λb c=>by rw[<- u2,fF c]
 mexact;show iK (i:=2) p rfl ?_;mexact;show(x,C,d,_,rfl,B,e.cls,e.n3,by simp,?_);have o:=gZ.put (fs':=jL "end" r [("name",n),("start",j)]) B p;generalize u3:upd H2 x _=H3 at o ⊢;mexact;have D:H3 x=some (.ins C d [("name",n),("start",j),("end",r)]):=by rw[<- u3];show jo.trans rfl
 have R:∀ b,b≠x->H3 b=H2 b:=λb c=>by rw[<- u3,fF c]
 mexact;show iK (i:=3) o rfl ?_;mexact;show(x,C,d,_,rfl,D,e.cls,e.n4,by simp,?_);have q:=gZ.put (fs':=jL "least" l [("name",n),("start",j),("end",r)]) D o;generalize u4:upd H3 x _=H4 at q ⊢;mexact;have G:H4 x=some (.ins C d [("name",n),("start",j),("end",r),("least",l)]):=by rw[<- u4];show jo.trans rfl
 have J:∀ b,b≠x->H4 b=H3 b:=λb c=>by rw[<- u4,fF c]
 mexact;show iK (i:=4) q rfl ?_;mexact;show(x,C,d,_,rfl,G,e.cls,e.n5,by simp,?_);have v:=gZ.put (fs':=jL "greatest" g [("name",n),("start",j),("end",r),("least",l)]) G q;generalize u5:upd H4 x _=H5 at v ⊢;mexact;have N:H5 x=some (.ins C d [("name",n),("start",j),("end",r),("least",l),("greatest",g)]):=by rw[<- u5];show jo.trans rfl
 have S:∀ b,b≠x->H5 b=H4 b:=λb c=>by rw[<- u5,fF c]
 mexact;show k H5 N λb c=>by rw[S b c,J b c,R b c,M b c,I b c]
abbrev CO:Stmt:=top 39
theorem BS:iY ["thing","least","greatest"] ["thing"] (iC CO):=by bv_decide
def GQ(K:aW)(Ad:jE):Sp:=λvs H Q E=>∃(x:V)(t:TD),vs=[x]/\TV K H t x/\xv t/\∀ v H',dC H H'->OV K Ad H' t v->Q v H'
theorem ME(F:"tie_of"∘CO)(T:Txt K mg Ad)(Bcm:5∘"is_tie"∘["thing"]∘(B7 K))(k_Just:mJ P w K mg base 1 "Just" Ad.Just ["self","row"] (y9 K))(k_Between:mJ P w K mg base 1 "Between" Ad.Between ["self","row"] (y9 K)):6∘["thing"]∘(GQ K Ad):=by
 show F.okn BS (by subst_eqs) (λW A m s H U Q E j h=>?_)
 let(x,t,rfl,h):=h;have D:=j.units;show(_,(fi (fX (oH (mR (Bcm.ev j ⋯ rfl dB %[pv 0|0]))) (fT ps_no)
   ki) (fi (gI 1 BS.nd (!0)) (fi (gI 2 BS.nd (!0)) (fi (fX (PW.pt (A8 (mC sS (pv 1) oQ (kO _)) (Br (mC sS (pv 2) oQ (kO _))))) (fT ps_no)
   ki) (fi (fX (mC sS (pv 2) oQ (kO _)) (fT ps_no)
   ki) (fi (fX (mC sS (pv 1) oQ (kO _)) (fT ps_no)
   ki) (fi (fX (mC (qE D) (pv 1) (pv 2) (kO _)) (fT (iO (k_Just.ev j ⋯ rfl dB %[pv 0|0])))
   ki) (fT (iO (k_Between.ev j ⋯ rfl dB %[pv 0|0])))))))))),?_)
 clear D;let(L,(V,g,rfl),k):=h;show gP _ _ _ [some x,none,none] H;cbv;show(x,g,rfl,L,V,λd S=>?_);let(a,vl,y,rfl,p,R,I):=L.sameT S.t;have G:∀ C,pe Ad C->∀ x c,d x=none->d c=none->c≠x->y9 K [.ref x, .ref a] (upd (upd d c (.own x)) x (.ins C c [])) (λv X=>v=.non/\Q (.ref x) X) E0:=by
  intro C O x c N l Y;have z:dC d (upd (upd d c (.own x)) x (.ins C c [])):=λb u q=>by rw[fF (iy q N),fF (iy q l)];show q
  show(x,C,c,a,_,_,_,vl,y,rfl,jo,T.tie C O,p.same z,λB e o=>?_);have n:dC d B:=λb u q=>by rw[o b (iy q N)];show z _ _ q
  show(rfl,k _ B (S.trans n) ⟨C,vl,y,⟨x,c,rfl,e⟩,O,R.sameT n.t,I.sameT n.t⟩)
 have M:fO K d vl g.lo.1 g.lo.2:=R;have J:fO K d y g.hi.1 g.hi.2:=I;cbv
 mframe;show iK (i:=3) p rfl ?_
 mframe;show iK (i:=4) p rfl ?_;let(r,rfl,_):=id M;let(q,rfl,_):=id J
 mframe
 mframe
 mframe
 mframe;show xq M J ?_;cbv;split
 .cbv;show G _ (.inl rfl)
 .have Z:=trivial
  mframe;show G _ (.inr rfl)
abbrev Dc:Stmt:=inClass (top 33) 3
theorem G6:iY ["self","told"] ["self"] (iC Dc):=by bv_decide
def Hk(K:aW)(Ad:jE):Sp:=λvs H Q E=>∃(v:V)(t:TD),vs=[v]/\OV K Ad H t v/\xv t/\∀ p xs H',H p=none->dC H H'->H' p=some (.lst xs)->fh (PV K H') (Ch.steps t) xs->Q (.ref p) H'
theorem Og(F:"steps"∘"Tie.steps"∘Dc)(T:Txt K mg Ad)(Bax:3∘"minus"∘["one","other"]∘(uO K)):4∘["self"]∘(Hk K Ad):=by
 show F.okn G6 (by subst_eqs) (λa3 A L s H vs Q E hr h=>?_)
 let(v,t,rfl,h):=h;show(_,(fi (gI 1 G6.nd (nv oI)) (fi (fX (mC xN (iP (pv 0) rfl) oQ (kO _)) (fT (nX (jT dJ ek ej pF (pv 1) %[lh %[iP (pv 0) rfl,iP (pv 0) rfl,iP (pv 0) rfl,ja|0]|0] (hs:=by show o8 rfl))))
   ki) (fi (fX (mC xN (iP (pv 0) rfl) oQ (kO _)) (fT (nX (jT dJ ek ej pF (pv 1) %[lh %[iP (pv 0) rfl,iP (pv 0) rfl,Bax.ev hr ⋯ rfl dB %[qP (v:=.ref _) rfl T.Bcp T.Bcq,iP (pv 0) rfl|0],ja|0]|0] (hs:=by show o8 rfl))))
   ki) (fT (iO (pv 1)))))),?_)
 let((C,l,gg,(p,c,rfl,d),hC,hl,hg),(ok,g,rfl),k):=h;have a:=T.tie C hC;have W:fO K H l g.lo.1 g.lo.2:=hl;have V:fO K H gg g.hi.1 g.hi.2:=hg;let(r,rfl,_):=id W;let(r2,rfl,_):=id V;have o:=ok.lo _ rfl;show gP _ _ _ [some (.ref p),none] H;mleave;show(len0,?_);rename_i q j a1 H H1 y N;mleave
 (try ((with_reducible show ro.go (by assumption) ?_);mleave))
 mleave;show(p,C,c,_,_,rfl,y _ _ d,a.cls,a.n5,rfl,?_);mleave;show(.inl ⟨rfl,_,fI.of N⟩,?_);show(p,C,c,_,_,rfl,y _ _ d,a.cls,a.n2,rfl,?_);show(p,C,c,_,_,rfl,y _ _ d,a.cls,a.n3,rfl,?_);show(p,C,c,_,_,rfl,y _ _ d,a.cls,a.n5,rfl,?_);show(len4,?_);rename_i w a0 a2 H1 Z G e2;mleave;show(q,_,_,rfl,rfl,G _ _ N,by show 0<sizeLine;decide,?_);generalize e:upd Z q _=O;have e3:=jg e;have Y:dH Z O:=dH.put e (G _ _ N) rfl;have x:dC H O:=λb u z=>by rw[<- e,fF (iy z j)];show G _ _ (y _ _ z)
 (try ((with_reducible show ro.go (by assumption) ?_);mleave))
 mleave;show(p,C,c,_,_,rfl,x _ _ d,a.cls,a.n4,rfl,?_);mleave;show(.inl ⟨rfl,_,fI.of e3⟩,?_);show(p,C,c,_,_,rfl,x _ _ d,a.cls,a.n3,rfl,?_);show(p,C,c,_,_,rfl,x _ _ d,a.cls,a.n2,rfl,?_);show(p,C,c,_,_,rfl,x _ _ d,a.cls,a.n4,rfl,?_);show(.ref Ad.ZERO,_,0,1,g.lo.1,g.lo.2,rfl,⟨_,rfl,T.Bcr _⟩,W.same x, .lit ⋯ ⋯, .lit ⋯ ⋯,o.s1.mono ⋯,o.s2.mono ⋯,⋯,o.b1,⋯,o.g1,λm H4 M e4=>?_);rw[(FL o.b1 o.g1).1,(FL o.b1 o.g1).2]at e4;mleave;show(len4,?_);rename_i w2 X S H4 U I e5;mleave;have D:=I _ _ (M _ _ e3);show(q,_,_,rfl,rfl,D,by show 1<sizeLine;decide,?_);generalize n:upd U q _=J;have e6:=jg n;have R:dH U J:=dH.put n D rfl;have B:dH O J:=(M.trans I).t.trans R
 (try ((with_reducible show ro.go (by assumption) ?_);mleave))
 mleave;show k q _ J j (λb u z=>by rw[<- n,fF (iy z j)];show I _ _ (M _ _ (x _ _ z))) e6 ?_;show(_,_,rfl,⟨w,_,rfl,((gZ.of e2).sameT Y).sameT B,(((V.same y).same G).sameT Y).sameT B⟩,_,_,rfl,⟨w2,_,rfl,(gZ.of e5).sameT R,(fO.of (I _ _ e4)).sameT R⟩,rfl)
abbrev Dq:Stmt:=inClass (top 58) 0
theorem O3:iY ["self","name","row","scale"] ["self","name","row","scale"] (iC Dq):=by bv_decide
def Ia(K:aW)(Ad:jE):Sp:=λvs H Q E=>∃(x dx sc r:Addr)(nm vs_ vt vc:V)(b:Int)(fs:List Int)(n:jC)(w:V),vs=[.ref x,nm, .ref r, .ref sc]/\H x=some (.ins Ad.Step dx [])/\gZ K H r [vs_,vt,vc,w]/\fO K H vc n.1 n.2/\FB 1800 900 n/\n.2∣b/\qA Ad H sc b fs/\∀ pr H',(∀ c u,c≠x->H c=some u->H' c=some u)->H' pr=some (.tup [nm,w])->H' x=some (.ins Ad.Step dx [("source",vs_),("target",vt),("cost",vc),("whole", .int (n.1*b.fdiv n.2)),("pair", .ref pr)])->Q .non H'
theorem O5(F:"__init__"∘"Step.__init__"∘Dq)(T:Txt K mg Ad)(BaK:2∘"lifted"∘(vK Ad)∘["self","number"]∘(xS K Ad)):3∘["self","name","row","scale"]∘(Ia K Ad):=by
 show F.okn O3 (by subst_eqs) (λa3 A S s H vs Q E hr h=>?_)
 let(x,e,v,r,nm,a,y,G,b,fs,n,w,rfl,h):=h;show(_,(fi (mE (pv 0) (!2) rfl) (fi (mE (pv 0) (!2) rfl) (fi (mE (pv 0) (!2) rfl) (fi (mE (pv 0) (ig ix_U (BaK.m hr ⋯ dB (pv 3) %[!2|0]) gW) rfl) (fT (mE (pv 0) (lh %[pv 1,!2|0]) rfl)))))),?_)
 let(R,g,fv,fb,dv,a0,k):=h;have j:=T.c_Step Ad.Step rfl;have a2:=T.Bcv Ad.Scale rfl;show gP _ _ _ [some (.ref x),some nm,some (.ref r),some (.ref v)] H;mexact;show iK (i:=0) g rfl ?_;mexact;show(x,_,e,_,rfl,R,j.cls,j.n1,by simp,?_);generalize u1:upd H x _=O;mexact;have e1:O x=some (.ins Ad.Step e [("source",a)]):=by rw[<- u1];show jo.trans rfl
 have T1:dH H O:=dH.put u1 R rfl;have o1:∀ c u,c≠x->H c=some u->O c=some u:=λc u d h=>by rw[<- u1,fF d];show h
 mexact;show iK (i:=1) (g.sameT T1) rfl ?_;mexact;show(x,_,e,_,rfl,e1,j.cls,j.n2,by simp,?_);generalize W:upd O x _=J;mexact;have e2:J x=some (.ins Ad.Step e [("source",a),("target",y)]):=by rw[<- W];show jo.trans rfl
 have T2:dH H J:=T1.trans (dH.put W e1 rfl);have o2:∀ c u,c≠x->H c=some u->J c=some u:=λc u d h=>by rw[<- W,fF d];show o1 c u d h
 mexact;show iK (i:=2) (g.sameT T2) rfl ?_;mexact;show(x,_,e,_,rfl,e2,j.cls,j.n3,by simp,?_);generalize u3:upd J x _=M;mexact;have e3:M x=some (.ins Ad.Step e [("source",a),("target",y),("cost",G)]):=by rw[<- u3];show jo.trans rfl
 have V:dH H M:=T2.trans (dH.put u3 e2 rfl);have I:∀ c u,c≠x->H c=some u->M c=some u:=λc u d h=>by rw[<- u3,fF d];show o2 c u d h
 let(B,fl,l,q,U):=id a0;have C:v≠x:=λz=>by rw[z,R]at l;simp at l
 have Y:fl≠x:=λz=>by rw[z,R]at q;cases q
 have D:qA Ad M v b fs:=⟨B,fl,I _ _ C l,I _ _ Y q,U⟩;mexact;show(v,_,B,_,rfl,I _ _ C l,rfl,rfl,?_);show iK (i:=2) (g.sameT V) rfl ?_;mexact;show(v,G,n,b,fs,rfl,D,fO.sameT V fv,fb,λp t H4 L e4 hL=>?_);rw[hL.whole fb.b1 dv]at e4;mexact;show iK (i:=0) (gZ.of e4) rfl ?_;mexact;show(x,_,e,_,rfl,L _ _ e3,j.cls,j.n4,by simp,?_);generalize Z:upd H4 x _=N;mexact;have e5:N x=some (.ins Ad.Step e [("source",a),("target",y),("cost",G),("whole", .int (n.1*b.fdiv n.2))]):=by rw[<- Z];show jo.trans rfl
 have T5:dH H N:=V.trans (L.t.trans (dH.put Z (L _ _ e3) rfl));have o5:∀ c u,c≠x->H c=some u->N c=some u:=λc u d h=>by rw[<- Z,fF d];show L _ _ (I c u d h)
 mexact;show iK (i:=3) (g.sameT T5) rfl ?_;mexact;show(len2,?_);rename_i pr o a1 N H6 S6 e6;mexact;mexact;show(x,_,e,_,rfl,S6 _ _ e5,j.cls,j.n5,by simp,?_);generalize u7:upd H6 x _=H7;mexact;have e7:H7 x=some (.ins Ad.Step e [("source",a),("target",y),("cost",G),("whole", .int (n.1*b.fdiv n.2)),("pair", .ref pr)]):=by rw[<- u7];show jo.trans rfl
 have X:pr≠x:=λz=>by rw[z,e5]at o;cases o
 mexact;show k pr H7 (λc u d h=>by rw[<- u7,fF d];show S6 _ _ (o5 c u d h)) (by rw[<- u7,fF X];show e6) e7
abbrev C3:Stmt:=top 59
theorem yZ:iY ["ties","rows","tie","scale"] ["ties"] (iC C3):=by bv_decide
def Ht(K:aW)(Ad:jE):Sp:=λvs H Q E=>∃(a:Addr)(xs:List V)(ts:List TD),vs=[.ref a]/\fI K H a xs/\fh (OV K Ad H) ts xs/\(∀ t∈ts,xv t)/\CB ((Ch.all ts).map (·.c))/\ts.length<=35/\∀ l ys (b:Int) H',dC H H'->H' l=some (.lst ys)->b=bF ((Ch.all ts).map (·.c))->1<=b->Mth.Sz 2000 b->(∀ s∈Ch.all ts,s.c.2∣b)->fh (tR K Ad b H') (Ch.all ts) ys->Q (.ref l) H'
theorem NC(F:"steps_of"∘C3)(T:Txt K mg Ad)(m_steps:4∘"steps"∘(pe Ad)∘["self"]∘(Hk K Ad))(Bcz:mJ P w K mg base 2 "Scale" Ad.Scale ["self","numbers"] (Cv K Ad))(k_Step:mJ P w K mg base 3 "Step" Ad.Step ["self","name","row","scale"] (Ia K Ad)):6∘["ties"]∘(Ht K Ad):=by
 show F.okn yZ (by subst_eqs) (λd5 A b2 s H vs Q E hr h=>?_)
 let(a,xs,g,rfl,h):=h;show(_,(fi (gI 1 yZ.nd (nv oI)) (fi (lL dn rfl (iN (pv 0)) (iV 2 yZ.nd rfl (Or.inr rfl)) (fT (nX (jT dJ PySem.F.slot_list_extend PySem.F.type_list_extend Cc (pv 1) %[qM (qG (own:=["row"]) (cs:=[(2,"tie")]) rfl (iN (m_steps.m0 hr ⋯ dB (pv 2))) (λ_ _ _ _=>(iV 0 (show[("row" : Str),("tie" : Str)].Nodup by decide))) (λ_ _ _ _=>qj) (λ_ _ _ _=>(lh %[FU (K:=K) rfl (pv 1) rfl,pv 0|0])) (o7 rfl) ⋯ rfl ⋯ (qu rfl rfl rfl))|0])))) (fi (gI 3 yZ.nd (Bcz.ev hr ⋯ rfl dB %[qM (qG (own:=["name","row"]) (cs:=[]) rfl (iN (pv 1)) (λ_ _ _ _=>(Bu (K:=K) (n:=2) rfl rfl (mK (iV 0 (show[("name" : Str),("row" : Str)].Nodup by decide) (hf:=Or.inr rfl)) (mK (iV 1 (show[("name" : Str),("row" : Str)].Nodup by decide) (hf:=Or.inr rfl)) rC)))) (λ_ _ _ _=>qj) (λ_ _ _ _=>(ig (rh (K:=K) rfl) (pv 1) gW)) (o7 rfl) ⋯ rfl ⋯ hcs0)|0]) rfl (Or.inr rfl)) (fT (iO (qM (qG (own:=["name","row"]) (cs:=[(3,"scale")]) rfl (iN (pv 1)) (λ_ _ _ _=>(Bu (K:=K) (n:=2) rfl rfl (mK (iV 0 (show[("name" : Str),("row" : Str),("scale" : Str)].Nodup by decide) (hf:=Or.inr rfl)) (mK (iV 1 (show[("name" : Str),("row" : Str),("scale" : Str)].Nodup by decide) (hf:=Or.inr rfl)) rC)))) (λ_ _ _ _=>qj) (λ_ _ _ _=>(k_Step.ev hr ⋯ rfl dB %[pv 0,pv 1,pv 2|0])) (o7 rfl) ⋯ rfl ⋯ (qu rfl rfl rfl)))))))),?_)
 let(hS,hR,hT,a0,hl,k):=h;have b4:=EB a0;let(D,Q_,d1,d2,_,_,hk):=a0;have sl:(1000:Nat)<=sizeLine:=by decide
 have lR:=hR.length;have R:∀ i,(Ch.all (g.take i)).length<=2*i:=λi=>FH i;show gP _ _ _ [some (.ref a),none,none,none] H;mleave;show(len0,?_);rename_i Z a8 c9 H H1 S1 e1;mleave;show(a,rfl,jj.byLN (xs:=xs) (hS.same S1) (λi σ d=>i<=xs.length/\∃(v2:Option V)(r:List V),σ=[some (.ref a),some (.ref Z),v2,none]/\dC H d/\d Z=some (.lst r)/\fh (sG K d) (Ch.all (g.take i)) r) ⟨dG _,none,[],rfl,S1,e1,by rw[gQ];show rfl⟩ (λi σ d z=>by let(_,_,_,_,z,_):=z;show hS.same z) ?_ ?_)
 .intro i x σ H2 hx z_ N0 c2;let(hi,v2,r,rfl,S2,l,W):=z_;have li:=(aU.mp hx).1;let(t,ht,a6):=hR.at_ hx;have ok:=hT t (aY ht);let(C,vl,vg,(p',S,rfl,B),hC,_):=a6.same S2;have tc:=T.tie _ hC;mleave;show(.inl ⟨rfl,_,fI.of l⟩,?_);show(p',_,S,_,rfl,B,hC,rfl,?_);show(_,t,rfl,a6.same S2,ok,λq ys H4 hn S4 e4 pv=>?_);have l2:(Ch.steps t).length<=2:=by unfold Ch.steps fwd bwd;cases t.hi <;> cases t.lo <;> simp
  have d4:=pv.length;mleave;show(q,rfl, .inl ⟨⟨_,fI.of e4⟩,jW.list (xs:=ys) (λj e d=>dC H4 d/\fh (sG K d) ((Ch.steps t).take j) e) ⟨dC.refl _,by rw[gQ];show rfl⟩ (λj e d hj z=>⟨fI.of (z.1 _ _ e4),by have:=z.2.length;rw[eS]at this;ac_nf⟩) ?_ ?_⟩)
  .rintro j y e H5 hy ⟨S5,m⟩;let(s,X,c1):=pv.at_ hy;have nm:s.nm=t.nm:=LY (aY X);simpa only[dD,dQ,fV,dF,mw,dw,fP,fK,kN];show(p',_,S,_, .str t.nm,rfl,S5 _ _ (S4 _ _ B),tc.cls,tc.n1,rfl,?_);mleave;show(by show 2<=sizeLine;ac_nf,?_);rename_i c d0 d3 H5 o Y e6;mleave;show(S5.trans Y,?_);rw[dX,X];show(m.mono (P':=sG K o) λ_ _ z=>z.sameT Y.t).append (.one ⟨c,y,rfl,by rw[nm];show gZ.of e6,c1.sameT (S5.t.trans Y.t)⟩)
  .rintro e H5 ⟨S5,m⟩;rw[de ∅]at m;rename_i cl c7 c4 H5 o Y e6;mleave;have G:=S4.trans (S5.trans Y);have lD:=W.length;have lA:=m.length;have a2:=R i;show(Z,cl,r,e,rfl,rfl,G _ _ l,e6,∅,?_);generalize u7:upd o Z _=L;mleave;have e7:=jg u7;have T7:dH o L:=dH.put u7 (G _ _ l) rfl;show c2 _ _ ⟨li,_,r++e,rfl,λb w h=>by rw[<- u7,fF (iy h a8)];show G _ _ (S2 _ _ h),e7,?_⟩;rw[show Ch.all (g.take (i+1))=Ch.all (g.take i)++Ch.steps t by rw[dX,ht];simp[Ch.all]];show(W.mono (P':=sG K L) λ_ _ z=>z.sameT (G.t.trans T7)).append (m.mono (P':=sG K L) λ_ _ z=>z.sameT (Y.t.trans T7))
 .intro σ H2 z_;let(hi,v2,r,rfl,S2,l,W):=z_;have a2:=R g.length;rw[de ∅]at W;rw[de (dh _)]at a2;have lD:=W.length;mleave;show(Z,rfl, .inl ⟨⟨_,fI.of l⟩,jW.list (xs:=r) (λj e d=>d=H2/\fh (pS K H2) (((Ch.all g).map (·.c)).take j) e) ⟨rfl,by rw[gQ];show rfl⟩ (λj e d hj z=>⟨by rw[z.1];show fI.of l,by have:=z.2.length;rw[eS]at this;ac_nf⟩) ?_ ?_⟩)
  .rintro j y e H3 hy ⟨rfl,m⟩;let(s,X,b,v,rfl,hb,b',vc,rfl,b6,hc):=W.at_ hy;simpa only[dD,dQ,fV,dF,mw,dw,fP,fK];show(b,_,rfl,hb,rfl,?_);mleave;show iK (i:=2) b6 rfl ?_;mleave;rw[dX,bg,X];show m.append (.one hc)
  .rintro e H3 ⟨rfl,m⟩;rw[de (by rw[bc];ac_nf)]at m;rename_i nl c3 c6 H3 H4 S4 e4;mleave;mleave;intro sc ds X b3 a4;have O:dC H4 (upd (upd H4 ds (.own sc)) sc (.ins Ad.Scale ds [])):=λb u q=>by rw[fF (iy q X),fF (iy q b3)];show q
   show(sc,ds,nl,e,(Ch.all g).map (·.c),D,rfl,jo,O _ _ e4,m.mono (λ_ _ z=>pS.sameT (S4.t.trans O.t) z),by rw[bc];ac_nf,(λn hn=>⟨(hk n hn).1.b1,(hk n hn).2.1.den (hk n hn).1.b1 (hk n hn).1.g1⟩),d1,d2.mono ⋯,λb fs fl o h1 h2 h3 h4 b7 N a7 a5 b5=>⟨rfl,?_⟩);have a9:dC H4 o:=λc u h=>h4 c u (iy h X) (O _ _ h);have M:=S4.trans a9;have b9:qA Ad o sc b fs:=⟨ds,fl,h1,h3,a7,a5,b5⟩;have N:∀ s∈Ch.all g,s.c.2∣b:=λs J=>N s.c (di.mpr ⟨s,J,rfl⟩);have b8:fh (sG K o) (Ch.all g) r:=W.mono λ_ _ z=>z.sameT M.t;mleave;show(Z,rfl, .inl ⟨⟨_,fI.of (M _ _ l)⟩,jW.list (xs:=r) (λj e d=>dC o d/\fh (tR K Ad b d) ((Ch.all g).take j) e) ⟨dC.refl _,by rw[gQ];show rfl⟩ (λj e d hj z=>⟨fI.of (z.1 _ _ (M _ _ l)),by have:=z.2.length;rw[eS]at this;ac_nf⟩) ?_ ?_⟩)
   .rintro j y a3 L hy ⟨S7,I⟩;let(s,J,c0):=b8.at_ hy;have a1:=aY J;let(p,v,rfl,hp,p',vc,rfl,B,hc):=c0.sameT S7.t;simpa only[dD,dQ,fV,dF,mw,dw,fP,fK];show(p,_,rfl,hp,rfl,?_);mleave;intro x S hx b0 a4;have O:dC L (upd (upd L S (.own x)) x (.ins Ad.Step S [])):=λb u q=>by rw[fF (iy q hx),fF (iy q b0)];show q
    show(x,S,sc,p', .str s.nm, .str s.src, .str s.dst,vc,b,fs,s.c, .bl s.fw,rfl,jo,B.same O,fO.same O hc,b4 s a1,N s a1,(b9.same S7).same O,λpr H8 ho e1 l=>?_);have U:dC L H8:=λc u h=>ho c u (iy h hx) (O _ _ h);show(rfl,S7.trans U,?_);rw[dX,J];show(I.mono (P':=tR K Ad b H8) λ_ _ z=>z.same U).append (.one ⟨x,S,vc,pr,rfl,l,fO.same U hc,e1⟩)
   .rintro a3 L ⟨S7,I⟩;rw[de (Nat.le_of_eq ∅)]at I;rename_i ol c8 c5 L H8 S8 e8;mleave;show k ol a3 b H8 (S2.trans (M.trans (S7.trans S8))) e8 b7 a7.b1 a5 N (I.mono λ_ _ z=>z.same S8)
abbrev D5:Stmt:=top 61
theorem rV:iY ["steps","starts","sums","face","lasts","changed","turn","step","total"] ["steps","starts"] (iC D5):=by bv_decide
def Il(K:aW)(Ad:jE):Sp:=λvs H Q E=>∃(sL fL:Addr)(sx:List V)(ss:List jB)(fs:List Str)(π : Str->Int),vs=[.ref sL, .ref fL]/\fI K H sL sx/\fh (qL K Ad H) ss sx/\fI K H fL (fs.map V.str)/\fs.length<=14/\qB π ss/\ss.length<=70/\∀ ld kv P H',dC H H'->H ld=none->H' ld=some (.dK kv)->DV (qL K Ad H) P kv->P=(sr ss (ss.length+1) (nk fs)).P->BE ss fs P->Q (.ref ld) H'
theorem N8(F:"last_steps"∘D5)(T:Txt K mg Ad)  : 1∘["steps","starts"]∘(Il K Ad):=by
 show F.okn rV (by subst_eqs) (λc5 A b5 s H vs Q E hr h=>?_)
 let(sL,fL,sx,m,D,π,rfl,h):=h;have x:=hr.units;show(_,(fi (gI 2 rV.nd oJ) (fi (lL dn rfl (iN (pv 1)) (iV 3 rV.nd) (fT (nR (jt x) (pv 2) (pv 3) gW rfl))) (fi (gI 4 rV.nd oJ) (fi (gI 5 rV.nd oQ) (fi (lL dn rfl (uL rfl T.Bb7 %[dW nF (mL oK rfl T.BbF oi %[pv 0|0]) gW|0]) (iV 6 rV.nd) (fi (gI 5 rV.nd oQ) (fi (lL dn rfl (iN (pv 0)) (iV 7 rV.nd) (fT (fX (oP (rQ (jt x) (iP (pv 7) rfl) (pv 2)) (by with_unfolding_all rfl)) (fi (gI 8 rV.nd (dW nF (nc (jt x) (pv 2) (iP (pv 7) rfl) (λ_ _=>rfl)) (iP (pv 7) rfl))) (fT (fX (PW.pt (kF (oP (sW (jt x) (iP (pv 7) rfl) (pv 2)) (by with_unfolding_all rfl)) (pM (mC uH (pv 8) (nc (jt x) (pv 2) (iP (pv 7) rfl) (λ_ _=>rfl)) (kO _))))) (fi (nR (jt x) (pv 2) (iP (pv 7) rfl) (pv 8) rfl) (fi (nR (jt x) (pv 4) (iP (pv 7) rfl) (pv 7) rfl) (fT (gI 5 rV.nd (iP (pv 7) rfl)))))
   ki)))
   ki))) (fT (fX (mC sS (pv 5) oQ (kO _)) (fT (iO (pv 4)))
   ki))))) (fT ps_no)))))),?_)
 clear x;let(hS,hX,hF,l8,hp,b9,k):=h;have sl:(100000:Nat)<=sizeLine:=by decide
 have lX:=hX.length;have o:=T.c_Step Ad.Step rfl;show gP _ _ _ [some (.ref sL),some (.ref fL),none,none,none,none,none,none,none] H;mleave;rename_i r J b7 H H1 S1 e1;mleave;show(fL,rfl,jj.byLN (xs:=D.map V.str) (hF.same S1) (λi σ G=>i<=D.length/\∃(v3:Option V)(q:List (gD × V)),σ=[some (.ref sL),some (.ref fL),some (.ref r),v3,none,none,none,none,none]/\dC H G/\G r=some (.dK q)/\DV RI ((D.take i).foldl (λS f=>pu S f 0) []) q/\q.length<=i) ⟨dG _,none,[],rfl,S1,e1,rfl,dh _⟩ (λi σ G z=>by let(_,_,_,_,z,_):=z;show hF.same z) ?_ ?_)
 .intro i y σ H2 hy z_ N0 a7;let(hi,v3,q,rfl,S2,d,hD,c6):=z_;rw[bg]at hy;let(f,hf,rfl):=dM.mp hy;have li:=(aU.mp hf).1;mleave;show(r,_,rfl,jY.k (k:=aZ f) d ∅,?_);generalize u3:upd H2 r _=H3;mleave;have e3:=jg u3;have b4:DV RI ((D.take (i+1)).foldl (λS f=>pu S f 0) []) (putK q (aZ f) (.int 0)):=by
   rw[dX,hf,js];show DV.put hD rfl
  show a7 _ _ ⟨li,_,_,rfl,λc w h=>by rw[<- u3,fF (iy h J)];show S2 _ _ h,e3,b4,?_⟩;have l1:=b4.len;have l2:=hD.len;have l3:=sN (l:=(D.take i).foldl (λS f=>pu S f 0) []) (f:=f) (a:=(0:Int));rw[dX,hf,js]at l1;have l4:(putK q (aZ f) (.int 0)).length=(pu ((D.take i).foldl (λS f=>pu S f 0) []) f (0:Int)).length:=l1;ac_nf
 .intro σ H2 z_;let(_,v3,b2,rfl,S2,a2,L,b3):=z_;rw[bc]at b3;rw[de (by rw[bc];show dh _)]at L;have L:DV RI (nk D).S b2:=L;have c3:=L.len;mleave;rename_i I N b6 H2 H3 S3 e3;mleave;have R:=oq S2 N;have a1:I≠r:=λz=>by rw[z,a2]at N;cases N
  mleave;show(_, .inl ((hS.same S2).same S3),?_);mleave;show(_,rfl,∅,∅,?_);show nh.byN (λi σ G=>∃(v5 v6 v7 v8:Option V)(t:BF)(q B:List (gD × V)),σ=[some (.ref sL),some (.ref fL),some (.ref r),v3,some (.ref I),v5,v6,v7,v8]/\dC H G/\G r=some (.dK q)/\DV RI t.S q/\G I=some (.dK B)/\DV (qL K Ad H) t.P B/\t=itr m i (nk D)/\sr m (m.length+1) (nk D)=sr m (m.length+1-i) t/\t.S.length<=14+70*i/\t.P.length<=70*i/\(i≠0->t.ch≠none)) ⟨_,none,none,none,nk D,b2,[],rfl,S2.trans S3,S3 _ _ a2,L,e3,rfl,rfl,rfl,∅,by simp[nk],λz=>absurd rfl z⟩ ?_ ?_
  .intro i σ H4 hi z_ N0 a7;let(v5,v6,v7,v8,t,q,B,rfl,S4,d,e,n,g,ht,a8,lS,lP,b1):=z_;have c4:i<=m.length:=by ac_nf
   rw[Int.zero_add];mleave;show(sL,rfl,jj.byLN (xs:=sx) (hS.same S4) (λj σ G=>j<=sx.length/\∃(u:BF)(v7 v8:Option V)(q B:List (gD × V)),σ=[some (.ref sL),some (.ref fL),some (.ref r),v3,some (.ref I),some (chV u.ch),some (.int (i:Int)),v7,v8]/\dC H G/\G r=some (.dK q)/\DV RI u.S q/\G I=some (.dK B)/\DV (qL K Ad H) u.P B/\u=(m.take j).foldl rlx { t with ch:=none }/\u.S.length<=14+70*i+j/\u.P.length<=70*i+j) ⟨dG _,{ t with ch:=none },v7,v8,q,B,rfl,S4,d,e,n,g,rfl,lS,lP⟩ (λj σ G z=>by let(_,_,_,_,_,_,_,z,_):=z;show hS.same z) ?_ ?_)
   .clear d e n g lS lP;intro j y σ H5 X z_ N1 a0;let(hj,u,v7,v8,q,B,rfl,S5,d,e,n,g,x,lS,lP):=z_;have lj:=(aU.mp X).1;let(s,a5,p,M,vc,pr,rfl,W,c1,b8):=hX.at_ X;have C:=S5 _ _ W;have Y:(m.take (j+1)).foldl rlx { t with ch:=none }=rlx ((m.take j).foldl rlx { t with ch:=none }) s:=by rw[dX,a5,js];rfl
    have c2:=e.len;have c0:=g.len;mleave;show(p,_,M,_, .str s.src,rfl,C,o.cls,o.n1,rfl,?_);show(r,_,rfl,gE.k (k:=aZ s.src) d,?_);cases ea:lk u.S s.src with
    | none=>
     have gn:jI u.S s=none:=by unfold jI;rw[ea]
     rw[e.no ea];try simpa only[gC]
     show a0 _ _ ⟨lj,u,_,_,q,B,rfl,S5,d,e,n,g,by rw[Y, <- x];unfold rlx;rw[gn],∅,∅⟩
    | some a=>
     let(v,hv,rv):=e.at ea;have rv:v=.int a:=rv;subst rv;rw[hv];try simpa only[kN,gj]
     show(p,_,M,_, .str s.src,rfl,C,o.cls,o.n1,rfl,?_);show(r, .int a,rfl,by rw[<- hv];show gE.k (k:=aZ s.src) d,?_);show(p,_,M,_, .int s.wh,rfl,C,o.cls,o.n4,rfl,?_);mleave;show(p,_,M,_, .str s.tgt,rfl,C,o.cls,o.n2,rfl,?_);show(r,_,rfl,gE.k (k:=aZ s.tgt) d,?_);cases eb:lk u.S s.tgt with
     | none=>
      have gn:jI u.S s=some (a+s.wh):=by unfold jI;rw[ea];dsimp only;rw[eb]
      rw[e.no eb];try simpa only[kN,gC]
      mleave;show(p,_,M,_, .str s.tgt,rfl,C,o.cls,o.n2,rfl,?_);show(r,_,rfl,jY.k (k:=aZ s.tgt) d ∅,?_);generalize u7:upd H5 r _=Z;mleave;have e7:=jg u7;have U:dC H Z:=λc w h=>by rw[<- u7,fF (iy h J)];show S5 _ _ h
      have p7:Z p=_:=U _ _ W;have a4:Z I=some (.dK B):=by rw[<- u7,fF a1];show n
      mleave;show(p,_,M,_, .str s.tgt,rfl,p7,o.cls,o.n2,rfl,?_);show(I,_,rfl,jY.k (k:=aZ s.tgt) a4 ∅,?_);generalize u8:upd Z I _=H8;mleave;have e8:=jg u8;have O:dC H H8:=λc w h=>by rw[<- u8,fF (iy h R)];show U _ _ h
      have p8:H8 p=_:=O _ _ W;mleave;show(p,_,M,_, .str s.tgt,rfl,p8,o.cls,o.n2,rfl,?_);mleave;show a0 _ _ ⟨lj,⟨pu u.S s.tgt (a+s.wh),pu u.P s.tgt s,some s.tgt⟩,_,_,_,_,rfl,O,by rw[<- u8,fF (gk a1)];show e7,DV.put e rfl,e8,DV.put g (hX.at_ X |> λζ=>by let(s',h1,h2):=ζ;rw[a5]at h1;cases h1;show h2),?_,by have:=sN (l:=u.S) (f:=s.tgt) (a:=a+s.wh);show(pu u.S s.tgt (a+s.wh)).length<=_;ac_nf,by have:=sN (l:=u.P) (f:=s.tgt) (a:=s);show(pu u.P s.tgt s).length<=_;ac_nf⟩;rw[Y, <- x];unfold rlx;rw[gn]
     | some b=>
      let(w,hw,a3):=e.at eb;have a3:w=.int b:=a3;subst a3;rw[hw];try simpa only[kN,gj]
      show(p,_,M,_, .str s.tgt,rfl,C,o.cls,o.n2,rfl,?_);show(r, .int b,rfl,by rw[<- hw];show gE.k (k:=aZ s.tgt) d,?_);mleave;by_cases c:a+s.wh<b
      .rw[if_pos (by simpa using c)];mleave;have gn:jI u.S s=some (a+s.wh):=by unfold jI;rw[ea];dsimp only;rw[eb];show if_pos c
       mleave;show(p,_,M,_, .str s.tgt,rfl,C,o.cls,o.n2,rfl,?_);show(r,_,rfl,jY.k (k:=aZ s.tgt) d ∅,?_);generalize u7:upd H5 r _=Z;mleave;have e7:=jg u7;have U:dC H Z:=λc w h=>by rw[<- u7,fF (iy h J)];show S5 _ _ h
       have p7:Z p=_:=U _ _ W;have a4:Z I=some (.dK B):=by rw[<- u7,fF a1];show n
       mleave;show(p,_,M,_, .str s.tgt,rfl,p7,o.cls,o.n2,rfl,?_);show(I,_,rfl,jY.k (k:=aZ s.tgt) a4 ∅,?_);generalize u8:upd Z I _=H8;mleave;have e8:=jg u8;have O:dC H H8:=λc w h=>by rw[<- u8,fF (iy h R)];show U _ _ h
       have p8:H8 p=_:=O _ _ W;mleave;show(p,_,M,_, .str s.tgt,rfl,p8,o.cls,o.n2,rfl,?_);mleave;show a0 _ _ ⟨lj,⟨pu u.S s.tgt (a+s.wh),pu u.P s.tgt s,some s.tgt⟩,_,_,_,_,rfl,O,by rw[<- u8,fF (gk a1)];show e7,DV.put e rfl,e8,DV.put g (hX.at_ X |> λζ=>by let(s',h1,h2):=ζ;rw[a5]at h1;cases h1;show h2),?_,by have:=sN (l:=u.S) (f:=s.tgt) (a:=a+s.wh);show(pu u.S s.tgt (a+s.wh)).length<=_;ac_nf,by have:=sN (l:=u.P) (f:=s.tgt) (a:=s);show(pu u.P s.tgt s).length<=_;ac_nf⟩;rw[Y, <- x];unfold rlx;rw[gn]
      .rw[if_neg (by simpa using c)];mleave;have gn:jI u.S s=none:=by unfold jI;rw[ea];dsimp only;rw[eb];show if_neg c
       mleave;show a0 _ _ ⟨lj,u,_,_,q,B,rfl,S5,d,e,n,g,by rw[Y, <- x];unfold rlx;rw[gn],∅,∅⟩
   .clear d e n g lS lP;intro σ H5 z_;let(hj,u,v7,v8,q,B,rfl,S5,d,e,n,g,x,lS,lP):=z_;rw[de ∅]at x;have b0:wB m t=u:=x.symm;have a6:u=itr m (i+1) (nk D):=by rw[<- b0,ht];rfl
    have a9:sr m (m.length+1-i) t=if u.ch=none then u else sr m (m.length-i) u:=by
     rw[show m.length+1-i=(m.length-i)+1 by ac_nf,sr,b0]
    mleave;cases ec:u.ch with
    | none=>
     try simpa only[chV]
     show k I B u.P H5 S5 R n g (by rw[a8,a9,if_pos ec]) ?_;rw[a6];show BE.of hp (by rw[<- a6];show ec)
    | some f=>
     try simpa only[chV]
     show a7 _ _ ⟨_,_,_,_,u,q,B,rfl,S5,d,e,n,g,a6,by rw[a8,a9,if_neg (by rw[ec];simp)];congr 1;ac_nf,∅,∅,λ_=>by rw[ec];simp⟩
  .intro σ H4 z_;let(v5,v6,v7,v8,t,q,B,rfl,S4,d,e,n,g,ht,a8,lS,lP,b1):=z_;show absurd ?_ (b1 ∅);rw[ht,show((sx.length:Int)+1).toNat=m.length+1 by ac_nf];show(m.foldl rlx { itr m m.length (nk D)with ch:=none }).ch=none;rw[Fu m { itr m m.length (nk D)with ch:=none } (L7 hp)]
abbrev DM:Stmt:=top 62
theorem rW:iY ["steps","starts","lasts","told","face","missing","at","step","ahead"] ["steps","starts"] (iC DM):=by bv_decide
def CA(K:aW)(Ad:jE):Sp:=λvs H Q E=>∃(sL fL:Addr)(sx:List V)(ss:List jB)(fs:List Str)(π : Str->Int),vs=[.ref sL, .ref fL]/\fI K H sL sx/\fh (qL K Ad H) ss sx/\fI K H fL (fs.map V.str)/\fs.length<=14/\qB π ss/\ss.length<=70/\CB (ss.map (·.cost))/\∀(td:Addr)(kt:List (gD × V))(tb:List (Str × ((Int × Int) × List jB)))(P:nD)(H':Hp),dC H H'->H td=none->H' td=some (.dK kt)->DV (RT K H H') tb kt->P=(sr ss (ss.length+1) (nk fs)).P->BE ss fs P->(∀ v,(∃ e,lk tb v=some e)↔(v∈fs\/∃ s,lk P v=some s))->oB P fs tb->Q (.ref td) H'
theorem OF(F:"chains_from"∘DM)(T:Txt K mg Ad)(Bca:1∘"last_steps"∘["steps","starts"]∘(Il K Ad))(Bbz:2∘"plus"∘["one","other"]∘(vM K)):3∘["steps","starts"]∘(CA K Ad):=by
 show F.okn rW (by subst_eqs) (λl5 A g4 s H vs Q E hr h=>?_)
 let(sL,fL,sx,ss,fs,π,rfl,h):=h;have hu:=hr.units;show(_,(fi (gI 2 rW.nd (Bca.ev hr ⋯ rfl dB %[pv 0,pv 1|0])) (fi (gI 3 rW.nd oJ) (fi (lL dn rfl (iN (pv 1)) (iV 4 rW.nd) (fT (fX (oP (sW (jt hu) (pv 4) (pv 2)) (by with_unfolding_all rfl)) (fT (nR (jt hu) (pv 3) (pv 4) (lh %[qP (v:=.ref _) rfl T.Bcp T.Bcq,nv oI|0]) rfl))
   ki))) (fi (lL dn rfl (yz (pv 2)) (iV 4 rW.nd) (fi (gI 5 rW.nd (nv oI)) (fi (gI 6 rW.nd (pv 4)) (fi (xM dn (oP (sW (jt hu) (pv 6) (pv 3)) (by with_unfolding_all rfl)) (fi (nX (jT dJ ek ej pF (pv 5) %[nc (jt hu) (pv 2) (pv 6) (λ_ _=>rfl)|0] (hs:=by show o8 rfl))) (fT (gI 6 rW.nd (iP (nc (jt hu) (pv 2) (pv 6) (λ_ _=>rfl)) rfl))))) (fT (lL dn rfl (Mn (K:=K) rfl rfl rfl T.n_reversed Nr (pv 5)) (iV 7 rW.nd) (fi (gI 8 rW.nd (nc (jt hu) (pv 3) (iP (pv 7) rfl) (λ_ _=>rfl))) (fT (nR (jt hu) (pv 3) (iP (pv 7) rfl) (lh %[Bbz.ev hr ⋯ rfl dB %[!8,iP (pv 7) rfl|0],dW nF (!8) (nv %[iP (pv 7) rfl|0])|0]) rfl))))))))) (fT (iO (pv 3))))))),?_)
 clear hu;let(hS,hX,hF,l8,hp,h4,e0,k):=h;have sl:(100000:Nat)<=sizeLine:=by decide
 have tc:=T.c_Step Ad.Step rfl;show gP _ _ _ [some (.ref sL),some (.ref fL),none,none,none,none,none,none,none] H;mleave;show(sL,fL,sx,ss,fs,π,rfl,hS,hX,hF,l8,hp,h4,λN kv P H1 S1 h0 e1 hD hP hB=>?_);have b9:=hB;let(S,r,b1,b2,b3,b5):=hB.ex;mleave;rename_i C X l0 H1 H2 S2 e2;mleave;have c9:C≠N:=λz=>by rw[z,e1]at X;cases X
 mleave;have c7:=oq S1 X;show(fL,rfl,jj.byLN (xs:=fs.map V.str) ((hF.same S1).same S2) (λi σ G=>i<=fs.length/\∃(v4:Option V)(D:List (gD × V))(n:List (Str × ((Int × Int) × List jB))),σ=[some (.ref sL),some (.ref fL),some (.ref N),some (.ref C),v4,none,none,none,none]/\dC H1 G/\G C=some (.dK D)/\DV (RT K H G) n D/\oB P fs n/\∀ f∈fs.take i,lk P f=none->∃ e,lk n f=some e) ⟨dG _,none,[],[],rfl,S2,e2,rfl,oB.nil,λf hf=>by simp at hf⟩ (λi σ G z=>by let(_,_,_,_,_,z,_):=z;show(hF.same S1).same z) ?_ ?_)
 .intro i y σ H3 hy z_ N0 c5;let(hi,v4,D,n,rfl,S3,a1,hT,b7,a6):=z_;rw[bg]at hy;let(f,hf,rfl):=dM.mp hy;have li:=(aU.mp hf).1;have f5:fs.take (i+1)=fs.take i++[f]:=by rw[dX,hf];rfl
  have j6:=b9.tb_len b7;have i6:=hT.len;mleave;show(N,_,rfl,gE.k (k:=aZ f) (S3 _ _ e1),?_);cases ef:lk P f with
  | some s=>
   rw[(hD.at ef).choose_spec.1];try simpa only[gj]
   show c5 _ _ ⟨li,_,D,n,rfl,S3,a1,hT,b7,λg Y hn=>?_⟩;rw[f5]at Y;rcases dk.mp Y with Y | Y
   .show a6 g Y hn
   .rw[bf.mp Y,ef]at hn;cases hn
  | none=>
   rw[hD.no ef];try simpa only[gC]
   show(len0,?_);rename_i el b6 k8 H3 H4 S4 e4;mleave;show(len2,?_);rename_i tp c6 k9 H4 H5 S5 e5;mleave;mleave;have d:=S5 _ _ (S4 _ _ a1);show(C,_,rfl,jY.k (k:=aZ f) d ∅,?_);generalize u6:upd H5 C _=H6;mleave;have e6:=jg u6;have j0:el≠C:=λz=>by rw[z,a1]at b6;cases b6
   have d6:tp≠C:=λz=>by rw[z,S4 _ _ a1]at c6;cases c6
   have h6:RT K H H6 (((0:Int),(1:Int)),([]:List jB)) (.ref tp):=⟨tp, .ref Ad.ZERO,el,[],rfl,gZ.of (by rw[<- u6,fF d6];show e5),⟨Ad.ZERO,rfl,T.Bcr _⟩,by rw[<- u6,fF j0];show S5 _ _ e4,rfl,oq S1 (oq S3 b6)⟩;show c5 _ _ ⟨li,_,_,pu n f ((0,1),[]),rfl,λc w h=>by rw[<- u6,fF (iy h X)];show S5 _ _ (S4 _ _ (S3 _ _ h)),e6,(hT.mono λ_ _ z=>(z.same (S4.trans S5)).putL u6 d).put h6,b7.one (aY hf) ef,λg Y hn=>?_⟩;rw[f5]at Y;rcases dk.mp Y with Y | Y
   .show oB.keep (a6 g Y hn)
   .rw[bf.mp Y];show(_,rR)
 .intro σ H3 z_;let(_,v4,D,n,rfl,S3,a1,hT,b7,a6):=z_;rw[de (by rw[bc];show dh _)]at a6;have ht:C≠N:=c9;mleave;show(N,kv,P.map (·.1),rfl,S3 _ _ e1,hD.keys,λod=>?_);generalize uf:upd H3 N _=H4;mleave;have ef:H4 N=some (.frz od (.dK kv)):=by rw[<- uf];show jo
  have j8:dC H H4:=λc w h=>by rw[<- uf,fF (iy h h0)];show S3 _ _ (S1 _ _ h)
  have f8:H4 C=some (.dK D):=by rw[<- uf,fF c9];show a1
  show ni.keys (λi σ G=>∃(v4 v5 v6 v7 v8:Option V)(D:List (gD × V))(n:List (Str × ((Int × Int) × List jB))),σ=[some (.ref sL),some (.ref fL),some (.ref N),some (.ref C),v4,v5,v6,v7,v8]/\dC H G/\G N=some (.frz od (.dK kv))/\G C=some (.dK D)/\DV (RT K H G) n D/\oB P fs n/\(∀ f∈fs,lk P f=none->∃ e,lk n f=some e)/\(∀ j z,j<i->(P.map (·.1))[j]?=some z->∃ e,lk n z=some e)) ⟨v4,none,none,none,none,D,_,rfl,j8,ef,f8,hT.mono λ_ _ z=>z.putL uf (S3 _ _ e1),b7,a6,λj z hj=>absurd hj (Nat.not_lt_zero _)⟩ (λi σ G z=>by let(_,_,_,_,_,_,_,_,_,z,_):=z;show z) ?_ ?_
  .intro i z σ H5 hz z_ N0 c5;let(v4,v5,v6,v7,v8,D,n,rfl,S5,c2,d,O,Z,a3,b4):=z_;mleave;show(len0,?_);rename_i ml I k1 H5 H6 S6 e6;mleave;have l4:ml≠N:=λq=>by rw[q,c2]at I;cases I
   have i7:ml≠C:=λq=>by rw[q,d]at I;cases I
   have k6:=oq S5 I;have h3:∃ s,lk P z=some s:=ym (aY hz);have i1:∃ b,lk S z=some b:=by
    let(s,hs):=h3;let(_,_,_,a,_,k2):=b3 z s hs;show(_,k2)
   mleave;show(λm σ G=>∃(q:Str)(L:List jB)(mx:List V),σ=[some (.ref sL),some (.ref fL),some (.ref N),some (.ref C),some (.str z),some (.ref ml),some (.str q),v7,v8]/\dC H5 G/\G ml=some (.lst mx)/\fh (qL K Ad H) L mx/\vv P q L.reverse/\lnkE q L.reverse=z/\(∃ b,lk S q=some b)/\r q=m/\(L.map (·.tgt)).Nodup/\(∀ x∈L.map (·.tgt),r q<r x)/\(∀ x∈L,x∈ss),⟨_,z,[],[],rfl,S6,e6,rfl,trivial,rfl,i1,rfl, .nil,(λx u=>by cases u),λx u=>by cases u⟩,?_);intro m σ H7 z_;let(q,L,mx,rfl,S7,M,c0,g0,d9,g7,rfl,g2,f1,d3):=z_;have c3:=S7 _ _ c2;have W:=S7 _ _ d;mleave;show(C,_,rfl,gE.k (k:=aZ q) W,?_);cases eq_:lk n q with
   | none=>
    rw[O.no eq_];try simpa only[gC]
    let(bq,h9):=g7;obtain⟨s,hs⟩:∃ s,lk P q=some s:=by
     cases e:lk P q with
     | some s=>show(s,rfl)
     | none=>
      let(e',f3):=a3 q (b2 q bq h9 e).1 e;rw[eq_]at f3;cases f3
    let(k0,c4,e7,sa,i4,l3):=b3 q s hs;let(v,hv,f4):=hD.at hs;let(p,dx,vc,pr,rfl,a2,f6,b8):=id f4;have l2:L.length<=70:=by
     have:=sub_len (L.map (·.tgt)) (ss.map (·.tgt)) g2 λx u=>by
      let(y,hy,rfl):=di.mp u;show di.mpr ⟨y,d3 y hy,rfl⟩
     rw[bc,bc]at this;ac_nf
    have i8:=c0.length;show(_,λ_ _ h=>h,?_);mleave;show(.inl ⟨rfl,_,fI.of M⟩,?_);show(N, .ref p,rfl,by rw[<- hv];show gE.f (k:=aZ q) c3,?_);show(ml,mx,_,rfl,rfl,M,∅,?_);generalize u8:upd H7 ml _=H8;mleave;have e8:=jg u8;have T8:dH H7 H8:=dH.put u8 M rfl;have S8:dC H5 H8:=λc w h=>by rw[<- u8,fF (iy h I)];show S7 _ _ h
    have b0:=S8 _ _ c2;mleave;show(N, .ref p,rfl,by rw[<- hv];show gE.f (k:=aZ q) b0,?_);show(p,_,dx,_, .str s.src,rfl,S8 _ _ (S5 _ _ a2),tc.cls,tc.n1,rfl,?_);mleave;show(r s.src,e7,s.src,L++[s],mx++[.ref p],rfl,S8,e8,c0.append (.one f4),by rw[kX];show g0.add hs c4,by rw[kX];show(L4 c4).trans d9,⟨sa,i4⟩,rfl,?_,λx u=>?_,λx u=>?_)
    .rw[dy];show fD.mpr ⟨g2,by simp,λx u y hy e=>?_⟩;have hy:y=s.tgt:=by simpa using hy
     have:=f1 x u;rw[e,hy,c4]at this;ac_nf
    .rw[dy]at u;rcases dk.mp u with u | u
     .have:=f1 x u;ac_nf
     .have u:x=s.tgt:=by simpa using u
      rw[u,c4];show e7
    .rcases dk.mp u with u | u
     .show d3 x u
     .rw[bf.mp u];show k0
   | some e=>
    rw[(O.at eq_).choose_spec.1];try simpa only[gj]
    (try ((with_reducible show ro.go (by assumption) ?_);mleave))
    have i8:=c0.length;show(ml,mx,rfl,fI.of M,ni.rev (λj σ G=>∃(v7 v8:Option V)(D:List (gD × V))(n:List (Str × ((Int × Int) × List jB)))(y:Str),σ=[some (.ref sL),some (.ref fL),some (.ref N),some (.ref C),some (.str z),some (.ref ml),some (.str q),v7,v8]/\dC H G/\G N=some (.frz od (.dK kv))/\G ml=some (.lst mx)/\G C=some (.dK D)/\DV (RT K H G) n D/\oB P fs n/\(∀ f∈fs,lk P f=none->∃ e,lk n f=some e)/\(∀ j z,j<i->(P.map (·.1))[j]?=some z->∃ e,lk n z=some e)/\(∃ e,lk n y=some e)/\vv P y (L.reverse.drop j)/\lnkE y (L.reverse.drop j)=z) ⟨v7,v8,D,n,q,rfl,S5.trans S7,c3,M,W,O.mono λ_ _ z=>z.same S7,Z,a3,b4,⟨e,eq_⟩,g0,d9⟩ (λj σ G z=>by let(_,_,_,_,_,_,_,_,z,_):=z;show fI.of z) ?_ ?_)
    .clear W d O Z a3 b4 eq_ c3 M;intro j x σ H8 hj u z_ N1 j5;let(v7,v8,D,n,y,rfl,S8,b0,f7,B,a5,a7,d4,d5,(e,a9),d7,U):=z_;let(s,hs,sv):=c0.at_ u;have g6:L.reverse[j]?=some s:=by rw[List.getElem?_reverse ∅,show L.length=mx.length by ac_nf];show hs
     have i9:L.reverse.drop j=s::L.reverse.drop (j+1):=by
      let(h1,h2):=aU.mp g6;rw[<- h2];show List.drop_eq_getElem_cons h1
     rw[i9]at d7 U;let(rfl,i2,g9):=d7;have g3:=d3 s (aY hs);let(p,dx,vc,pr,rfl,a2,f6,b8):=sv.same S8;let(v,hv,j1):=a5.at a9;let(w,qv,l,xs,rfl,hw,i0,hl,f0,_):=id j1;let(j9,g5,j3):=a7.en _ _ a9;let(j7,k4,_):=b9.chn j9 g5;have a8:=rl e0 (λs hs=>di.mpr ⟨s,j7 s hs,rfl⟩) ∅;rw[<- j3]at a8;have c1:=e0.fb (di.mpr ⟨s,g3,rfl⟩);have j6:=b9.tb_len a7;have i6:=a5.len;have i3:=f0.length;rw[bc]at i3;mleave;show(p,_,dx,_, .str s.src,rfl,a2,tc.cls,tc.n1,rfl,?_);show(C, .ref w,rfl,by rw[<- hv];show gE.k (k:=aZ s.src) B,?_);mleave;show iK (i:=0) hw rfl ?_;show(p,_,dx,_,vc,rfl,a2,tc.cls,tc.n3,rfl,?_);mleave;show(qv,vc,e.1.1,e.1.2,s.cost.1,s.cost.2,rfl,i0,f6,a8.s1.mono ∅,a8.s2.mono ∅,c1.s1.mono ∅,c1.s2.mono ∅,a8.b1,c1.b1,a8.g1,c1.g1,λap H9 S9 e9=>?_);mleave;show iK (i:=1) (hw.same S9) rfl ?_;show(p,_,dx,_, .ref pr,rfl,S9 _ _ a2,tc.cls,tc.n5,rfl,?_);show(by show 1<=sizeLine;ac_nf,?_);rename_i ol l1 k5 H9 j2 a0 h7;mleave;show .inl ⟨l,ol,xs,[.ref pr],rfl,rfl,a0 _ _ (S9 _ _ hl),h7,by simp;ac_nf,?_⟩;rename_i nl a4 k7 j2 h5 d0 g8;mleave;show(len2,?_);rename_i np c8 k3 h5 f2 d1 h8;mleave;have o:=S9.trans (a0.trans (d0.trans d1));mleave;show(p,_,dx,_, .str s.tgt,rfl,o _ _ a2,tc.cls,tc.n2,rfl,?_);have R:=o _ _ B;show(C,_,rfl,jY.k (k:=aZ s.tgt) R ∅,?_);generalize J:upd f2 C _=d2;mleave;have j4:=jg J;have e3:dH f2 d2:=dH.put J R rfl;have i5:nl≠C:=λz=>by rw[z,a0 _ _ (S9 _ _ B)]at a4;cases a4
     have d6:np≠C:=λz=>by rw[z,d0 _ _ (a0 _ _ (S9 _ _ B))]at c8;cases c8
     have f9:RT K H d2 (fE e.1 s.cost,e.2++[s]) (.ref np):=by
      show(np, .ref ap,nl,xs++[.ref pr],rfl,gZ.of (by rw[<- J,fF d6];show h8),⟨ap,rfl,gZ.sameT e3 (gZ.of (d1 _ _ (d0 _ _ (a0 _ _ e9))))⟩,by rw[<- J,fF i5];show d1 _ _ g8,?_,oq S8 (oq S9 (oq a0 a4)));rw[dy];show(f0.mono (P':=CV d2) λ_ _ z=>z.sameT (o.t.trans e3)).append (.one ⟨pr,rfl,by rw[<- J,fF (nV b8 B (by intro z;cases z))];show o _ _ b8⟩)
     show j5 _ _ ⟨_,_,_,pu n s.tgt (fE e.1 s.cost,e.2++[s]),s.tgt,rfl,λc w h=>by rw[<- J,fF (iy h c7)];show o _ _ (S8 _ _ h),by rw[<- J,fF (gk c9)];show o _ _ b0,by rw[<- J,fF i7];show o _ _ f7,j4,(a5.mono λ_ _ z=>(z.same o).putL J R).put f9,a7.put a9 i2,λf hf hn=>oB.keep (d4 f hf hn),λj z hj hz=>oB.keep (d5 j z hj hz),⟨_,rR⟩,g9,U⟩
    .clear W d O Z a3 b4 eq_ c3 M;intro σ H8 z_;let(v7,v8,D,n,y,rfl,S8,b0,f7,B,a5,a7,d4,d5,a9,d7,U):=z_;rw[List.drop_of_length_le (by rw[List.length_reverse];ac_nf)]at U;have U:y=z:=U;subst U;show c5 _ _ ⟨_,_,_,_,_,D,n,rfl,S8,b0,B,a5,a7,d4,λj z hj d8=>?_⟩;by_cases c:j<i
     .show d5 j z c d8
     .have : j=i:=by ac_nf
      subst this;rw[hz]at d8;cases d8;show a9
  .intro σ H5 z_;let(v4,v5,v6,v7,v8,D,n,rfl,S5,c2,d,O,Z,a3,b4):=z_;mleave;show k C D n P H5 S5 c7 d O hP b9 (λv=>⟨λ⟨e,he⟩=>(Z.en v e he).1,λhv=>?_⟩) Z;cases hn:lk P v with
   | none=>show a3 v (hv.resolve_right λ⟨s,hs⟩=>by rw[hn]at hs;cases hs) hn
   | some s=>
    have hs:=hn;let(j,hj):=dA (Bc hs);show b4 j v (aU.mp hj).1 hj
abbrev C2:Stmt:=top 56
theorem Ci:iY ["ties","found","tie"] ["ties"] (iC C2):=by bv_decide
def Hz(K:aW)(Ad:jE):Sp:=λvs H Q E=>∃(a:Addr)(xs:List V)(ts:List TD)(F:List Str),vs=[.ref a]/\fI K H a xs/\fh (OV K Ad H) ts xs/\ts.length<=35/\F.length<=14/\(∀ t∈ts,t.st∈F/\t.en∈F)/\∀ p out H',dC H H'->H p=none->H' p=some (.lst (out.map V.str))->FJ ts out->Q (.ref p) H'
theorem NN(F:"faces_of"∘C2)(T:Txt K mg Ad)  : 1∘["ties"]∘(Hz K Ad):=by
 show F.okn Ci (by subst_eqs) (λa5 A L s H vs Q E hr h=>?_)
 let(a,xs,ts,F,rfl,h):=h;have U:=hr.units;show(_,(fi (gI 1 Ci.nd oJ) (fi (lL dn rfl (iN (pv 0)) (iV 2 Ci.nd) (fi (nR (jt U) (pv 1) (iP (pv 2) rfl) ja rfl) (fT (nR (jt U) (pv 1) (iP (pv 2) rfl) ja rfl)))) (fT (iO (mL (M9 rfl) rfl T.Bed My %[pv 1|0]))))),?_)
 clear U;let(hS,hR,hl,a0,v,k):=h;show gP _ _ _ [some (.ref a),none,none] H;try mstop
 rename_i d q a2 H H1 S1 e1;have sl:(1000:Nat)<=sizeLine:=by decide
 have lx:=hR.length;show(a,rfl,jj.byL (xs:=xs) (hS.same S1) (λi σ J=>i<=xs.length/\∃(W:Option V)(b:List (gD × V))(c:List Str),σ=[some (.ref a),some (.ref d),W]/\dC H J/\J d=some (.dK b)/\b.map (·.1)=c.map aZ/\c.Nodup/\c.length<=2*i/\∀ z,z∈c↔∃ t∈ts.take i,z=t.st\/z=t.en) ⟨dG _,none,[],[],rfl,S1,e1,rfl,by simp,by simp,by simp⟩ (λi σ J z=>by let(_,_,_,_,_,z,_):=z;show hS.same z) ?_ ?_)
 .intro i x σ H2 hx z_;let(hi,W,b,c,rfl,n,D,I,B,O,m):=z_;have li:i<xs.length:=(aU.mp hx).1;let(t,G,ov):=hR.at_ hx;let(C,vl,vg,(p,dx,rfl,hp),hC,a4,a3):=ov.same n;have y:=T.tie C hC;mstart;show(p,C,dx,_, .str t.st,rfl,hp,y.cls,y.n2,rfl,?_);try mstart
  have lk:b.length=c.length:=by simpa using congrArg List.length I
  show(d,_,rfl,jY.k (k:=aZ t.st) D ∅,?_);generalize Y:upd H2 d _=H3;have e3:=jg Y;have Z:=putN Y D hp (by intro z;cases z);try mstart
  show(p,C,dx,_, .str t.en,rfl,Z,y.cls,y.n3,rfl,?_);try mstart
  have r:=F6 I t.st (.bl true);have a1:(putK b (aZ t.st) (V.bl true)).length=(nN c t.st).length:=by simpa using congrArg List.length r
  have la:=Gi c t.st;have lb:=Gi (nN c t.st) t.en;show(d,_,rfl,jY.k (k:=aZ t.en) e3 ∅,?_);generalize u4:upd H3 d _=H4;have e4:=jg u4;have M:=F6 r t.en (.bl true);show(li,_,_,nN (nN c t.st) t.en,rfl,λbb u N=>?_,e4,M,FI _ (FI _ B),∅,λz=>?_)
  .rw[<- u4,fF (iy N q), <- Y,fF (iy N q)];show n _ _ N
  .rw[Gh,Gh,m,dX,G];simp only[dk,Option.toList_some,bf];constructor
   .rintro((⟨t',R,g⟩ | h) | h)
    .show(t', .inl R,g)
    .show(t, .inr rfl, .inl h)
    .show(t, .inr rfl, .inr h)
   .rintro⟨t',R | rfl,g⟩
    .show .inl (.inl ⟨t',R,g⟩)
    .rcases g with g | g
     .show .inl (.inr g)
     .show .inr g
 .intro σ H2 z_;let(hi,W,b,c,rfl,n,D,I,B,O,m):=z_;try mstop
  rw[de ∅]at m;have l8:=sub_len c F B λz hz=>by
   obtain⟨t,G,h | h⟩:=(m z).mp hz
   .rw[h];show(v t G).1
   .rw[h];show(v t G).2
  show(d,b,c,rfl,D,I,∅,λl S j X=>?_);have hH:H l=none:=by
   cases e:H l with
   | none=>rfl
   | some o=>rw[n _ _ e]at j;cases j
  show k l S _ (n.trans (se j rfl)) hH (sh rfl) ⟨X.1.nodup_iff.mpr B,X.2,λz=>?_⟩;rw[X.1.mem_iff,m]
abbrev Da:Stmt:=inClass (top 66) 1
theorem Ou:iY ["self"] ["self"] (iC Da):=by bv_decide
def Ct(K:aW)(Ad:jE):Sp:=λvs H Q E=>∃(p d:Addr)(ts:List TD),vs=[.ref p]/\BK K Ad H p d ts/\∀ l ys H',dC H H'->H l=none->H' l=some (.lst ys)->fh (OV K Ad H') ts ys->Q (.ref l) H'
theorem Oj(F:"kept"∘"Book.kept"∘Da)(T:Txt K mg Ad)  : 1∘["self"]∘(Ct K Ad):=by
 show F.okn Ou (by subst_eqs) (λt A a s H m Q E x h=>?_)
 let(p,d,o,rfl,h):=h;show(_,(fT (iO (Lb rfl rfl rfl T.Bd0 yB (iP (pv 0) rfl)))),?_);let(((j,n),c,i,r),k):=h;have e:=T.book Ad.Book rfl;show mh _ _ [some (.ref p)] H;try mstart
 show(p,_,j,_, .ref d,rfl,n,e.cls,e.n1,rfl,?_);try mstart
 show(d,c,rfl,i,?_);rename_i l b u H v g q;show k l _ v g b q (r.2.mono λ_ _ z=>z.same g)
abbrev D4:Stmt:=inClass (top 66) 3
theorem NW:iY ["self"] ["self"] (iC D4):=by bv_decide
def Co(K:aW)(Ad:jE):Sp:=λvs H Q E=>∃(p d:Addr)(ts:List TD)(F:List Str),vs=[.ref p]/\BK K Ad H p d ts/\ts.length<=35/\F.length<=14/\(∀ t∈ts,t.st∈F/\t.en∈F)/\∀ l out H',dC H H'->H l=none->H' l=some (.lst (out.map V.str))->FJ ts out->Q (.ref l) H'
theorem OP(F:"faces"∘"Book.faces"∘D4)(T:Txt K mg Ad)(m_kept:1∘"kept"∘(sT Ad)∘["self"]∘(Ct K Ad))(BcD:1∘"faces_of"∘["ties"]∘(Hz K Ad)):2∘["self"]∘(Co K Ad):=by
 show F.okn NW (by subst_eqs) (λG A b s H v Q E n h=>?_)
 let(p,d,c,F,rfl,h):=h;show(_,(fT (iO (BcD.ev n ⋯ rfl dB %[m_kept.m0 n ⋯ dB (pv 0)|0]))),?_);let(m,J,i,g,k):=h;let((u,x),_):=id m;show mh _ _ [some (.ref p)] H;try mstop
 show(p,_,u,_,rfl,x,rfl,rfl,?_);try try mstop
 show(p,d,c,rfl,m,λl B N r y C t=>?_);try try mstop
 show(l,B,c,F,rfl,fI.of C,t,J,i,g,λq a L I j D M=>?_);have z:H q=none:=by
  cases e:H q with
  | none=>rfl
  | some o=>rw[r _ _ e]at j;cases j
 show k q a L (r.trans I) z D M
abbrev Dp:Stmt:=inClass (top 66) 0
theorem Cy:iY ["self","ties","row","tie"] ["self","ties"] (iC Dp):=by bv_decide
def IB(K:aW)(Ad:jE):Sp:=λvs H Q E=>∃(x dx a:Addr)(xs:List V)(ts:List TD)(H0:Hp),vs=[.ref x, .ref a]/\H x=some (.ins Ad.Book dx [])/\H0 x=none/\dC H0 H/\fI K H0 a xs/\fh (TV K H0) ts xs/\(∀ t∈ts,xv t)/\(nms ts).Nodup/\ts.length<=35/\∀ d H',dC H0 H'->H0 d=none->BK K Ad H' x d ts->Q .non H'
theorem OR(F:"__init__"∘"Book.__init__"∘Dp)(T:Txt K mg Ad)(Bdn:6∘"tie_of"∘["thing"]∘(GQ K Ad)):7∘["self","ties"]∘(IB K Ad):=by
 show F.okn Cy (by subst_eqs) (λa7 A S s H vs Q E hr h=>?_)
 let(x,j,a,xs,g,O,rfl,h):=h;have hu:=hr.units;show(_,(fi (mE (pv 0) oJ rfl) (fT (lL dn rfl (iN (pv 1)) (iV 2 Cy.nd) (fi (gI 3 Cy.nd (Bdn.ev hr ⋯ rfl dB %[pv 2|0])) (fi (fX (oP (rQ (jt hu) (iP (pv 3) rfl) (iP (pv 0) rfl)) (by with_unfolding_all rfl)) (fT ps_no)
   ki) (fT (nR (jt hu) (iP (pv 0) rfl) (iP (pv 3) rfl) (pv 3) rfl))))))),?_)
 clear hu;let(Y,U,S0,hS,hE,hT,a1,hl,k):=h;have o:=T.book Ad.Book rfl;have sl:(1000:Nat)<=sizeLine:=by decide
 have le:=hE.length;show gP _ _ _ [some (.ref x),some (.ref a),none,none] H;mvcgen;rename_i d G a6 H H1 S1 e1;mvcgen;show(x,_,j,_,rfl,S1 _ _ Y,o.cls,o.n1,by simp,?_);generalize u2:upd H1 x _=Z;mvcgen;have e2:Z x=some (.ins Ad.Book j [("by_name", .ref d)]):=by rw[<- u2];show jo.trans rfl
 have I:x≠d:=λz=>by rw[z,G]at Y;cases Y
 have X:Z d=some (.dK []):=by rw[<- u2,fF (gk I)];show e1
 have D:O d=none:=oq S0 G;have J:dC O Z:=λb u h=>by rw[<- u2,fF (iy h U)];show S1 _ _ (S0 _ _ h)
 mvcgen;show(a,rfl,jj.byLN (xs:=xs) (hS.same J) (λi σ p=>i<=xs.length/\∃(v2 v3:Option V)(e:List (gD × V)),σ=[some (.ref x),some (.ref a),v2,v3]/\dC O p/\p x=some (.ins Ad.Book j [("by_name", .ref d)])/\p d=some (.dK e)/\BD (OV K Ad p) (g.take i) e) ⟨dG _,none,none,[],rfl,J,e2,X,by rw[gQ];show(rfl,rfl)⟩ (λi σ p z=>by let(_,_,_,_,_,z,_):=z;show hS.same z) ?_ ?_)
 .intro i y σ H3 hy z_ N0 a5;let(hi,v2,v3,e,rfl,R,e3,m,B):=z_;have li:i<xs.length:=(aU.mp hy).1;let(t,ht,a4):=hE.at_ hy;have ok:=hT t (aY ht);have a2:=a4.sameT R.t;have W:=B.length;rw[eS]at W;try simpa only[kN,me]
  show(y,t,rfl,a2,ok,λw H4 N ov=>?_);let(C,_,_,(q,dq,rfl,r),hC,_):=id ov;have M:=T.tie C hC;have l:=N _ _ e3;have n:=N _ _ m;have L:=B.mono (P':=OV K Ad H4) λ_ _ z=>z.same N
  (try ((with_reducible show ro.go (by assumption) ?_);mvcgen))
  try simpa only[kN,me]
  show(q,_,dq,_, .str t.nm,rfl,r,M.cls,M.n1,rfl,?_);show(x,_,j,_, .ref d,rfl,l,o.cls,o.n1,rfl,?_);show(d,_,rfl,gE.k (k:=aZ t.nm) n,?_);rw[L.val];have a3:g.take (i+1)=g.take i++[t]:=by rw[dX,ht];rfl
  have c:t.nm∉nms (g.take i):=λz=>by
   have e0:g=g.take i++t::g.drop (i+1):=by
    let(h1,h2):=aU.mp ht;rw[<- h2, <- List.drop_eq_getElem_cons h1,kA]
   have nd:=a1;unfold nms at nd z;rw[e0,dy,dw]at nd;show(fD.mp nd).2.2 _ z _ fM rfl
  rw[decide_eq_false c];try simpa only[kN,me]
  (try ((with_reducible show ro.go (by assumption) ?_);mvcgen))
  try simpa only[kN,me]
  show(x,_,j,_, .ref d,rfl,l,o.cls,o.n1,rfl,?_);show(q,_,dq,_, .str t.nm,rfl,r,M.cls,M.n1,rfl,?_);show(d,_,rfl,jY.k (k:=aZ t.nm) n ∅,?_);generalize u5:upd H4 d _=H5;mvcgen;have e5:=jg u5;have sx:Sx d H4 H5:=λb u hb h=>by rw[<- u5,fF hb];show h
  have a0:r8 (g.take i) t=g.take i++[t]:=by unfold r8;rw[if_neg c]
  have v:=(L.put ov).mono (P':=OV K Ad H5) λ_ _ z=>z.sx sx n;rw[a0, <- a3]at v;show a5 _ _ ⟨li,_,_,_,rfl,λb u h=>sx b u (iy h D) (N _ _ (R _ _ h)),sx _ _ I l,e5,v⟩
 .intro σ H3 z_;let(hi,v2,v3,e,rfl,R,e3,m,B):=z_;rw[de ∅]at B;try simpa only[kN,me]
  show k d H3 R D ⟨⟨j,e3⟩,e,m,B⟩
abbrev C9:Stmt:=top 64
theorem yY:iY ["steps","faces","told","places","face"] ["steps","faces"] (iC C9):=by bv_decide
def Hi(K:aW)(Ad:jE):Sp:=λvs H Q E=>∃(sL fL:Addr)(ts:List TD)(F:List Str)(x:Str->Rat)(fs:List Str),vs=[.ref sL, .ref fL]/\xx K Ad H ts sL/\vh ts F x/\fI K H fL (fs.map V.str)/\fs.length<=14/\∀(pd:Addr)(kp:List (gD × V))(tb:Tab)(pb:List (Str × (Int × Int)))(H':Hp),dC H H'->H pd=none->H' pd=some (.dK kp)->DV (RF K H') pb kp->(pb.map (·.1)).Nodup->pK ts fs tb->(∀ v,lk pb v=(lk tb v).map (·.1))->Q (.ref pd) H'
theorem Ow(F:"places_of"∘C9)(T:Txt K mg Ad)(BaO:3∘"chains_from"∘["steps","starts"]∘(CA K Ad)):4∘["steps","faces"]∘(Hi K Ad):=by
 show F.okn yY (by subst_eqs) (λb3 A a0 s H vs Q E hr h=>?_)
 let(sL,fL,Y,F,x,fs,rfl,h):=h;have hu:=hr.units;show(_,(fi (gI 2 yY.nd (BaO.ev hr ⋯ rfl dB %[pv 0,pv 1|0])) (fi (gI 3 yY.nd oJ) (fi (lL dn rfl (yz (pv 2)) (iV 4 yY.nd) (fT (nR (jt hu) (pv 3) (pv 4) (ig ix_U (nc (jt hu) (pv 2) (pv 4) (λ_ _=>rfl)) gW) rfl))) (fT (iO (pv 3)))))),?_)
 clear hu;let(a1,hg,hF,l8,k):=h;let((sx,hS,hX),R,N):=a1;have sl:(1000:Nat)<=sizeLine:=by decide
 have a2:(nZ Y).length<=70:=by unfold nZ;rw[bc];show hg.l70
 show gP _ _ _ [some (.ref sL),some (.ref fL),none,none,none] H;cbv;show(sL,fL,sx,nZ Y,fs,_,rfl,hS,hX,hF,l8,EK R N hg.pot,a2,by unfold nZ;rw[ie];show hg.cb,λt M n P H1 S1 h0 u hT hP hB hi hk=>?_);have hP:P=vn Y fs:=hP;subst hP;have a8:pK Y fs n:=⟨R,N,hk,hi,hB⟩;have b4:=hB.tb_len hk
 mframe;rename_i D b b0 H1 H2 S2 S;cbv;have W:D≠t:=λz=>by rw[z,u]at b;cases b
 mframe;show(t,M,n.map (·.1),rfl,S2 _ _ u,hT.keys,λod=>?_);generalize uf:upd H2 t _=H3;cbv;have ef:H3 t=some (.frz od (.dK M)):=by rw[<- uf];show jo
 have a9:dC H H3:=λc w h=>by rw[<- uf,fF (iy h h0)];show S2 _ _ (S1 _ _ h)
 have a4:H3 D=some (.dK []):=by rw[<- uf,fF W];show S
 have a3:DV (RT K H H3) n M:=(hT.mono λ_ _ z=>z.same S2).mono λ_ _ z=>z.putL uf (S2 _ _ u);have r:=oq S1 b;show ni.keys (λi σ L=>i<=n.length/\∃(v4:Option V)(X:List (gD × V))(d:List (Str × (Int × Int))),σ=[some (.ref sL),some (.ref fL),some (.ref t),some (.ref D),v4]/\dC H L/\L t=some (.frz od (.dK M))/\DV (RT K H L) n M/\L D=some (.dK X)/\DV (RF K L) d X/\(d.map (·.1)).Nodup/\d.length<=i/\(∀ v e,lk d v=some e->∃ J,lk n v=some J/\J.1=e)/\∀ j z,j<i->(n.map (·.1))[j]?=some z->∃ e,lk d z=some e) ⟨dG _,none,[],[],rfl,a9,ef,a3,a4,rfl,by simp,dh _,(λv e h=>by cases h),λj z Z=>absurd Z (Nat.not_lt_zero _)⟩ (λi σ L z=>by let(_,_,_,_,_,_,z,_):=z;show z) ?_ ?_
 .intro i z σ H4 hz z_ N0 a7;let(a5,v4,X,d,rfl,S4,C,B,g,o,I,a6,m,G):=z_;have li:=(aU.mp hz).1;rw[bc]at li;let(e,he):=ym (aY hz);let(v,hv,p,qv,l,xs,rfl,hp,hq,hl,b1,hf):=B.at he;have b2:=o.len;cbv;show(t, .ref p,rfl,by rw[<- hv];show gE.f (k:=aZ z) C,?_);cbv;show iK (i:=0) hp rfl ?_;cbv;show(D,_,rfl,jY.k (k:=aZ z) g ∅,?_);generalize U:upd H4 D _=H5;cbv;have e5:=jg U;have T5:dH H4 H5:=dH.put U g rfl;show a7 _ _ ⟨li,_,_,pu d z e.1,rfl,λc w h=>by rw[<- U,fF (iy h r)];show S4 _ _ h,by rw[<- U,fF (gk W)];show C,B.mono (λ_ _ z=>z.putL U g),e5,(o.mono (R':=RF K H5) λ_ _ z=>fO.sameT T5 z).put (fO.sameT T5 hq),rf I,by have:=sN (l:=d) (f:=z) (a:=e.1);ac_nf,λv J h=>?_,λj y Z hy=>?_⟩
  .rw[lQ]at h;by_cases c:z=v
   .rw[if_pos c]at h;cases h;show(e,by rw[<- c];show he,rfl)
   .rw[if_neg c]at h;show m v J h
  .rw[lQ];by_cases c:z=y
   .show(_,if_pos c)
   .rw[if_neg c];cbv;show G j y ?_ hy;have : j≠i:=λq=>by
     rw[q,hz]at hy;cases hy;show c rfl
    ac_nf
 .intro σ H4 z_;let(a5,v4,X,d,rfl,S4,C,B,g,o,I,a6,m,G):=z_;cbv;show k D X n d H4 S4 r g o I a8 λv=>?_;cases u:lk n v with
  | none=>
   cases S:lk d v with
   | none=>rfl
   | some e=>
    let(J,h,_):=m v e S;rw[u]at h;cases h
  | some e=>
   let(j,Z):=dA (Bc u);let(S,O):=G j v (aU.mp Z).1 Z;let(J,h,q):=m v S O;rw[u]at h;cases h;rw[O, <- q];rfl
abbrev DL:Stmt:=top 65
theorem xQ:iY ["chains","one","other","least","greatest"] ["chains","one","other"] (iC DL):=by bv_decide
def Ii(K:aW)(Ad:jE):Sp:=λvs H Q E=>∃(cd:Addr)(one other:Str)(cb:List (Str × Addr))(kc:List (gD × V))(tb1 tb2:Tab)(t1 t2:Addr)(H0:Hp),vs=[.ref cd, .str one, .str other]/\H cd=some (.dK kc)/\DV (λa v=>v=.ref a) cb kc/\lk cb one=some t1/\lk cb other=some t2/\qx K H0 H tb1 t1/\qx K H0 H tb2 t2/\(∀ v e,lk tb1 v=some e->FB 1900 900 e.1)/\(∀ v e,lk tb2 v=some e->FB 1900 900 e.1)/\∀(p:Addr)(vl vg:V)(H':Hp),dC H H'->H' p=some (.tup [vl,vg])->BV K H' ((lk tb2 one).map λe=>nT (0,1) e.1) vl->BV K H' ((lk tb1 other).map (·.1)) vg->Q (.ref p) H'
theorem OD(F:"gap_between"∘DL)(T:Txt K mg Ad)(Bax:3∘"minus"∘["one","other"]∘(uO K)):4∘["chains","one","other"]∘(Ii K Ad):=by
 show F.okn xQ (by subst_eqs) (λa1 A W s H vs Q E Z h=>?_)
 let(m,one,other,cb,kc,D,n,r,y,H0,rfl,h):=h;have d:=Z.units;show(_,(fi (gI 3 xQ.nd oQ) (fi (gI 4 xQ.nd oQ) (fi (fX (oP (rQ (jt d) (pv 1) (nc (jt d) (pv 0) (pv 2) (λ_ _=>rfl))) (by with_unfolding_all rfl)) (fT (gI 3 xQ.nd (Bax.ev Z ⋯ rfl dB %[qP (v:=.ref _) rfl T.Bcp T.Bcq,ig ix_U (nc (jt d) (nc (jt d) (pv 0) (pv 2) (λ_ _=>rfl)) (pv 1) (λ_ _=>rfl)) gW|0])))
   ki) (fi (fX (oP (rQ (jt d) (pv 2) (nc (jt d) (pv 0) (pv 1) (λ_ _=>rfl))) (by with_unfolding_all rfl)) (fT (gI 4 xQ.nd (ig ix_U (nc (jt d) (nc (jt d) (pv 0) (pv 1) (λ_ _=>rfl)) (pv 2) (λ_ _=>rfl)) gW)))
   ki) (fT (iO (lh %[pv 3,pv 4|0]))))))),?_)
 clear d;let(I,hC,h1,h2,(k1,B,C,_),(k2,G,z,_),a0,S,k):=h;let(v1,u,rfl):=hC.at h1;let(v2,x,rfl):=hC.at h2;show gP _ _ _ [some (.ref m),some (.str one),some (.str other),none,none] H;cbv;show(m, .ref y,rfl,by rw[<- x];show gE.k (k:=aZ other) I,?_);cbv;show(y,_,rfl,gE.k (k:=aZ one) G,?_);rename_i N hN;have a:∀(vl:V)(j:Hp),dC H j->BV K j ((lk n one).map λe=>nT (0,1) e.1) vl->N [some (.ref m),some (.str one),some (.str other),some vl,some .non] j:=by
  intro vl j c Y
  mframe;show(m, .ref r,rfl,by rw[<- u];show gE.k (k:=aZ one) (c _ _ I),?_);cbv;show(r,_,rfl,gE.k (k:=aZ other) (c _ _ B),?_);cases ea:lk D other with
  | none=>
   rw[C.no ea];try simpa only[gC]
   mframe;show(len2,?_);rename_i p R U j X o M;cbv;show k p vl .non X (c.trans o) M (Y.sameT o.t) (by rw[ea];rfl)
  | some e=>
   let(va,b,q,O,l,xs,rfl,J,L,_):=C.at ea;rw[b];try simpa only[gj]
   show(m, .ref r,rfl,by rw[<- u];show gE.k (k:=aZ one) (c _ _ I),?_);cbv;show(r, .ref q,rfl,by rw[<- b];show gE.k (k:=aZ other) (c _ _ B),?_);cbv;show iK (i:=0) (J.same c) rfl ?_;cbv
   mframe;show(len2,?_);rename_i p R U j X o M;cbv;show k p vl O X (c.trans o) M (Y.sameT o.t) (by rw[ea];show L.same (c.trans o))
 cases eb:lk n one with
 | none=>
  rw[z.no eb];try simpa only[gC]
  show a .non H (dC.refl _) (by rw[eb];rfl)
 | some e=>
  let(va,b,q,O,l,xs,rfl,J,L,_):=z.at eb;have g:=S _ _ eb;rw[b];try simpa only[gj]
  show(m, .ref y,rfl,by rw[<- x];show gE.k (k:=aZ other) I,?_);cbv;show(y, .ref q,rfl,by rw[<- b];show gE.k (k:=aZ one) G,?_);cbv;show iK (i:=0) J rfl ?_;cbv;show(.ref Ad.ZERO,O,0,1,e.1.1,e.1.2,rfl,⟨Ad.ZERO,rfl,T.Bcr _⟩,L, .lit ⋯ ⋯, .lit ⋯ ⋯,g.s1.mono ⋯,g.s2.mono ⋯,⋯,g.b1,⋯,g.g1,λp j c e1=>?_);show a (.ref p) j c ?_;rw[eb];show(p,rfl,gZ.of e1)
abbrev DB:Stmt:=inClass (top 66) 8
theorem HW:iY ["self","one","other","faces"] ["self","one","other"] (iC DB):=by bv_decide
def IA(K:aW)(Ad:jE):Sp:=λvs H Q E=>∃(p d:Addr)(ts:List TD)(F:List Str)(one other:Str),vs=[.ref p, .str one, .str other]/\BK K Ad H p d ts/\ts.length<=35/\F.length<=14/\(∀ t∈ts,t.st∈F/\t.en∈F)/\(∃ t∈ts,one=t.st\/one=t.en)/\(∃ t∈ts,other=t.st\/other=t.en)/\∀ H',dC H H'->Q .non H'
theorem Pg(F:"check_faces"∘"Book.check_faces"∘DB)(T:Txt K mg Ad)(m_faces:2∘"faces"∘(sT Ad)∘["self"]∘(Co K Ad)):3∘["self","one","other"]∘(IA K Ad):=by
 show F.okn HW (by subst_eqs) (λD A c s H t Q E B h=>?_)
 let(p,d,m,F,one,other,rfl,h):=h;show(_,(fi (gI 3 HW.nd (m_faces.m0 B ⋯ dB (pv 0))) (fT (fX (PW.pt (kF (mC GP (pv 1) (pv 3) (by with_unfolding_all rfl)) (pM (mC GP (pv 2) (pv 3) (by with_unfolding_all rfl))))) (fT ps_no)
   ki))),?_)
 let(j,e,y,g,C,r,k):=h;let((q,u),_):=id j;show gP _ _ _ [some (.ref p),some (.str one),some (.str other),none] H;cbv;show(p,_,q,_,rfl,u,rfl,rfl,?_);cbv;show(p,d,m,F,rfl,j,e,y,g,λl b J I x n o=>?_)
 mframe;have a:(b.map V.str).all flatV=true:=List.all_eq_true.mpr (λv G=>by let(z,_,rfl):=di.mp G;rfl);show(l,_,rfl, .inl (fI.of n),rfl,a,?_);rw[if_pos rfl,B2,decide_eq_true ((o.2.2 one).mpr C)];cbv;cbv;show(l,_,rfl, .inl (fI.of n),rfl,a,?_);rw[if_pos rfl,B2,decide_eq_true ((o.2.2 other).mpr r)];cbv;cbv;show k J I
abbrev Dt:Stmt:=inClass (top 66) 9
theorem y8:iY ["self","faces","steps","told","face"] ["self","faces"] (iC Dt):=by bv_decide
def Iw(K:aW)(Ad:jE):Sp:=λvs H Q E=>∃(p d:Addr)(ts:List TD)(F:List Str)(x:Str->Rat)(fL:Addr)(gs:List Str),vs=[.ref p, .ref fL]/\BK K Ad H p d ts/\vh ts F x/\fI K H fL (gs.map V.str)/\gs.length<=14/\∀(cd:Addr)(cb:List (Str × Addr))(kc:List (gD × V))(H':Hp),dC H H'->H' cd=some (.dK kc)->DV (λa v=>v=.ref a) cb kc->(∀ g∈gs, ∃ td,lk cb g=some td)->(∀ g td,lk cb g=some td->∃ tb,qx K H H' tb td/\pK ts [g] tb)->Q (.ref cd) H'
theorem OY(F:"chains_of"∘"Book.chains_of"∘Dt)(T:Txt K mg Ad)(m_kept:1∘"kept"∘(sT Ad)∘["self"]∘(Ct K Ad))(m_faces:2∘"faces"∘(sT Ad)∘["self"]∘(Co K Ad))(BcE:6∘"steps_of"∘["ties"]∘(Ht K Ad))(Bcs:4∘"places_of"∘["steps","faces"]∘(Hi K Ad))(BaO:3∘"chains_from"∘["steps","starts"]∘(CA K Ad)):7∘["self","faces"]∘(Iw K Ad):=by
 show F.okn y8 (by subst_eqs) (λd7 A a9 s H vs Q E U h=>?_)
 let(p,d,r,F,x,fL,X,rfl,h):=h;have hu:=U.units;show(_,(fi (gI 2 y8.nd (BcE.ev U ⋯ rfl dB %[m_kept.m0 U ⋯ dB (pv 0)|0])) (fi (nX (Bcs.ev U ⋯ rfl dB %[pv 2,m_faces.m0 U ⋯ dB (pv 0)|0])) (fi (gI 3 y8.nd oJ) (fi (lL dn rfl (iN (pv 1)) (iV 4 y8.nd) (fT (nR (jt hu) (pv 3) (pv 4) (BaO.ev U ⋯ rfl dB %[pv 2,nv %[pv 4|0]|0]) rfl))) (fT (iO (pv 3))))))),?_)
 clear hu;let(hb,j,hF,l8,k):=h;let((dx,hp),_):=id hb;have sl:(1000:Nat)<=sizeLine:=by decide
 have b2:(nZ r).length<=70:=by unfold nZ;rw[bc];show j.l70
 show gP _ _ _ [some (.ref p),some (.ref fL),none,none,none] H;cbv;show(p,_,dx,_,rfl,hp,rfl,rfl,?_);cbv;show(p,d,r,rfl,hb,λl ys H1 S1 d2 e1 hA=>?_);cbv;show(l,ys,r,rfl,fI.of e1,hA,j.ok,j.cb,j.l35,λsL sx b H2 S2 e2 N M d5 c2 b6=>?_);have N:b=oa r:=N;subst N;have B:xx K Ad H2 r sL:=⟨⟨sx,fI.of e2,Fe b6⟩,M,λs hs=>⟨(EB j.cb s hs).b1,c2 s hs⟩⟩;have m:=S1.trans S2
 mframe;show(p,_,dx,_,rfl,m _ _ hp,rfl,rfl,?_);cbv;show(p,d,r,F,rfl,hb.same m,j.l35,j.f8,j.fm,λfl O H3 Y c7 e3 a2=>?_);have a1:O.length<=14:=by
  have:=sub_len O F a2.1 λz hz=>by
   obtain⟨t,ht,h | h⟩:=(a2.2.2 z).mp hz
   .rw[h];show(j.fm t ht).1
   .rw[h];show(j.fm t ht).2
  have:=j.f8;ac_nf
 cbv;show(sL,fl,r,F,x,O,rfl,B.same Y,j,fI.of e3,a1,λpd kp d0 pb H4 S4 c6 e4 d1 c9 d6 d3=>?_)
 mframe;rename_i J L c8 H4 H5 S5 e5;cbv
 mframe;have b9:=m.trans (Y.trans (S4.trans S5));have c3:=oq (m.trans (Y.trans S4)) L;show(fL,rfl,jj.byLN (xs:=X.map V.str) (hF.same b9) (λi σ H'=>i<=X.length/\∃(v4:Option V)(u:List (Str × Addr))(kc:List (gD × V)),σ=[some (.ref p),some (.ref fL),some (.ref sL),some (.ref J),v4]/\dC H4 H'/\H' J=some (.dK kc)/\DV (λa v=>v=.ref a) u kc/\u.length<=i/\(∀ g∈X.take i, ∃ e,lk u g=some e)/\∀ g e,lk u g=some e->e≠J/\∃ I,qx K H H' I e/\pK r [g] I) ⟨dG _,none,[],[],rfl,S5,e5,rfl,dh _,(λg j=>by simp at j),λg e h=>by cases h⟩ (λi σ H' z=>by let(_,_,_,_,_,z,_):=z;show(hF.same (m.trans (Y.trans S4))).same z) ?_ ?_)
 .intro i y σ H6 hy z_ N0 c1;let(hi,v4,u,kc,rfl,S6,G,D,b0,C,R):=z_;rw[bg]at hy;let(g,a0,rfl):=dM.mp hy;have li:=(aU.mp a0).1;have b8:X.take (i+1)=X.take i++[g]:=by rw[dX,a0];rfl
  have d4:=D.len;have Z:dC H2 H6:=Y.trans (S4.trans S6);cbv;show(by show 1<=sizeLine;ac_nf,?_);rename_i gl c4 c5 H6 H7 S7 e7;cbv;let(a7,b7,b4):=((B.same Z).same S7).ex;cbv;show(sL,gl,a7,nZ r,[g],_,rfl,b7,b4,fI.of e7,by show 1<=14;decide,EK M B.bb j.pot,b2,by unfold nZ;rw[ie];show j.cb,λe kt I P H8 S8 q e8 b3 hP hB a8 c0=>?_);have hP:P=vn r [g]:=hP;subst hP;have S:=S7.trans S8;have a4:=S _ _ G;have a3:e≠J:=λz=>by rw[z,S7 _ _ G]at q;cases q
  have b5:dC H H7:=m.trans (Z.trans S7);cbv;show(J,_,rfl,jY.k (k:=aZ g) a4 ∅,?_);generalize u9:upd H8 J _=H9;cbv;have e9:=jg u9;have a5:∀ I e,e≠J->qx K H H8 I e->qx K H H9 I e:=λI e n ζ=>(by let(kt,h1,h2,h3):=ζ;show(kt,by rw[<- u9,fF n];show h1,h2.mono λ_ _ z=>z.putL u9 a4,h3));show c1 _ _ ⟨li,_,pu u g e,_,rfl,λc w h=>by rw[<- u9,fF (iy h L)];show S _ _ (S6 _ _ h),e9,D.put rfl,by have:=sN (l:=u) (f:=g) (a:=e);ac_nf,λf W=>?_,λf t o=>?_⟩
  .rw[b8]at W;rw[lQ];by_cases c:g=f
   .show(_,if_pos c)
   .rw[if_neg c];cbv;rcases dk.mp W with W | W
    .show C f W
    .show absurd (bf.mp W).symm c
  .rw[lQ]at o;by_cases c:g=f
   .rw[if_pos c]at o;cases o;subst c;show(a3,I,a5 _ _ a3 (qx.base b5 ⟨kt,e8,b3,q⟩),⟨M,B.bb,c0,a8,hB⟩)
   .rw[if_neg c]at o;let(n,a6,h1,h2):=R f t o;show(n,a6,a5 _ _ n (h1.same S),h2)
 .intro σ H6 z_;let(hi,v4,u,kc,rfl,S6,G,D,b0,C,R):=z_;rw[de (by rw[bc];show dh _)]at C;cbv;show k J u kc H6 (m.trans (Y.trans (S4.trans S6))) G D C λg e h=>(R g e h).2
abbrev C1:Stmt:=inClass (top 66) 10
theorem Nz:iY ["self","one","other"] ["self","one","other"] (iC C1):=by bv_decide
def HH(K:aW)(Ad:jE):Sp:=λvs H Q E=>∃(p d:Addr)(ts:List TD)(F:List Str)(x:Str->Rat)(one other:Str),vs=[.ref p, .str one, .str other]/\BK K Ad H p d ts/\vh ts F x/\(∃ t∈ts,one=t.st\/one=t.en)/\(∃ t∈ts,other=t.st\/other=t.en)/\∀(q:Addr)(vl vg:V)(tb1 tb2:Tab)(H':Hp),dC H H'->H' q=some (.tup [vl,vg])->pK ts [one] tb1->pK ts [other] tb2->BV K H' ((lk tb2 one).map λe=>nT (0,1) e.1) vl->BV K H' ((lk tb1 other).map (·.1)) vg->Q (.ref q) H'
theorem Nn(F:"gap"∘"Book.gap"∘C1)(T:Txt K mg Ad)(m_check_faces:3∘"check_faces"∘(sT Ad)∘["self","one","other"]∘(IA K Ad))(m_chains_of:7∘"chains_of"∘(sT Ad)∘["self","faces"]∘(Iw K Ad))(BbY:4∘"gap_between"∘["chains","one","other"]∘(Ii K Ad)):8∘["self","one","other"]∘(HH K Ad):=by
 show F.okn Nz (by subst_eqs) (λa0 A o s H V Q E t h=>?_)
 let(p,d,u,F,x,one,other,rfl,h):=h;show(_,(fi (nX (m_check_faces.m t ⋯ dB (pv 0) %[pv 1,pv 2|0])) (fT (iO (BbY.ev t ⋯ rfl dB %[m_chains_of.m t ⋯ dB (pv 0) %[nv %[pv 1,pv 2|0]|0],pv 1,pv 2|0])))),?_)
 let(r,a,h1,U,k):=h;let((z,B),_):=id r;have sl:(1000:Nat)<=sizeLine:=by decide
 show gP _ _ _ [some (.ref p),some (.str one),some (.str other)] H;cbv;show(p,_,z,_,rfl,B,rfl,rfl,?_);cbv;show(p,d,u,F,one,other,rfl,r,a.l35,a.f8,a.fm,h1,U,λZ L=>?_)
 mframe;show(p,_,z,_,rfl,L _ _ B,rfl,rfl,?_);cbv;show(len2,?_);rename_i fl G D Z H2 S2 Y;cbv;have g:=L.trans S2;cbv;show(p,d,u,F,x,fl,[one,other],rfl,r.same g,a,fI.of Y,(show 2<=14 by decide),λO R kc H3 M e3 hC l c=>?_);let(y,j):=l one (by simp);let(J,b):=l other (by simp);let(n,X,C):=c one y j;let(i,N,I):=c other J b;cbv;show(O,one,other,R,kc,n,i,y,J,H2,rfl,e3,hC,j,b,X,N,λv e h=>C.fb a.cb a.l70 h,λv e h=>I.fb a.cb a.l70 h,λq vl vg S W e4 b1 b2=>?_);cbv;show k q vl vg n i S (g.trans (M.trans W)) e4 C I b1 b2
abbrev DK:Stmt:=top 77
theorem OM:iY ["_law_script","_law_k"] ["_law_script","_law_k"] (iC DK):=by bv_decide
def Ih(K:aW):Sp:=λvs H Q E=>∃(a:Addr)(ns:List Int)(k:Int),vs=[.ref a, .int k]/\fI K H a (ns.map V.int)/\ns.length<=63/\0<=k/\∀ v:Int,Q (.int v) H
theorem OB(F:"_law_cell_at"∘DK)(T:Txt K mg Ad)  : 1∘["_law_script","_law_k"]∘(Ih K):=by
 show F.okn OM (by subst_eqs) (λj A b s H g Q E l h=>?_)
 let(a,e,k,rfl,h):=h;show(_,(fi (fX (mC uH (pv 1) (mL oK rfl T.BbF oi %[pv 0|0]) (kO _)) (fT (iO (ig ix_U (pv 0) (pv 1))))
   ki) (fT (iO gW))),?_)
 let(d,m,i,q):=h;show gP _ _ _ [some (.ref a),some (.int k)] H;try mstop
 show(_, .inl d,?_);simpa only[bc];let(n,rfl):=iz i;by_cases c:n<e.length
 .rw[if_pos (by simp;ac_nf)];try mstop
  show so d (by rw[bg,aV c];rfl) (q _)
 .rw[if_neg (by simp;ac_nf)];try mstop
  show q 0
abbrev DJ:Stmt:=top 78
theorem ze:iY ["_law_one","_law_other"] ["_law_one","_law_other"] (iC DJ):=by bv_decide
def Ig  : Sp:=λvs H Q E=>∃(a b:Int),vs=[.int a, .int b]/\Q (.int (Mth.g a b)) H
theorem OA(F:"_law_divisor"∘DJ)(T:Txt K mg Ad)  : 1∘["_law_one","_law_other"]∘(Ig):=by
 show F.okn ze (by subst_eqs) (λp A d s H o Q E r h=>?_)
 let(a,b,rfl,h):=h;show(_,(fi (gI 0 ze.nd (mL yR rfl T.Bec yp %[pv 0|0])) (fi (gI 1 ze.nd (mL yR rfl T.Bec yp %[pv 1|0])) (fi (xM dn (mC xE (pv 1) gW (kO _)) (fT (EU (i:=0) (j:=1) rfl ze.nd rfl rfl ⋯ rfl rfl %[pv 1,dW mW (pv 0) (pv 1)|0] rfl))) (fT (iO (pv 0)))))),?_)
 show gP _ _ _ [some (.int a),some (.int b)] H;try mstop
 show(λm σ k=>∃(x y:Int),σ=[some (.int x),some (.int y)]/\k=H/\0<=x/\0<=y/\Mth.g x y=Mth.g a b/\y.toNat=m,⟨_,_,_,rfl,rfl,Mth.PF a,Mth.PF b,Mth.PH a b,rfl⟩,?_);intro m σ k z_;let(x,y,rfl,rfl,t,n,l,rfl):=z_;try mstop
 by_cases c:y=0
 .subst c;rw[if_neg (by simp)];have e:Mth.g a b=x:=by rw[<- l,Mth.Px];ac_nf
  rw[e]at h;show h
 .rw[if_pos (by simp;ac_nf)];have f:=Mth.fm (x:=x) (y:=y) ∅;show(_,λ_ _ q=>q,?_);simp only[ua,qU,z6,z5,z4,zJ,Ai,zN,zA,zz,wj,wq,wb,vZ,Ag,wm,we,wo,zr,Ap,Ak,zF,zH,Aj,zE,zG,zW,vY,wu,zt,Am,zu,wg,zO,z8,zP,zC,Ac,Aa,zL,z9,zK,Ab,zM,wa,zR,zU,zo,zl,zp,zm,An,zQ,Ao,true_and,if_true,if_false,Bool.not_true,Bool.not_false,jX,II,IG,IJ,IH,IF,AF,AD,AG,AE,AC,IU,IP,I0,IS,IK,Jy,Jp,Jz,Jw,Jg,AK,AI,IE,AJ,AH,AA,Ay,AB,Az,Ax,Av,Ar,Aw,As,Aq,zw,zD,zI,zY,zX,Af,Ae,zZ,zT,zS,z7,zv,zq,zk,zB,Al,V.int.injEq,V.str.injEq,List.set_cons_zero,List.set_cons_succ,List.getElem?_cons_zero,List.getElem?_cons_succ,Option.some.injEq,exists_eq_left,exists_eq_left',V.bl.injEq,Int.reduceToNat,Int.reducePow,iM,kL,gO];show(c,_,_,rfl,(x.fmod y).toNat,∅,y,x.fmod y,rfl,n,f.1,by rw[Mth.PB ∅];show l,rfl)
abbrev D3:Stmt:=top 79
theorem HK:iY ["_law_top","_law_bottom","_law_by"] ["_law_top","_law_bottom"] (iC D3):=by bv_decide
def zd  : Sp:=λvs H Q E=>∃(t b:Int),vs=[.int t, .int b]/\1<=b/\Mth.Sz 8000 b/\∀ p H',dC H H'->H' p=some (.tup [.int (Mth.top t b), .int (Mth.bot t b)])->Q (.ref p) H'
theorem N7(F:"_law_lowest"∘D3)(T:Txt K mg Ad)(BbZ:1∘"_law_divisor"∘["_law_one","_law_other"]∘(Ig)):2∘["_law_top","_law_bottom"]∘(zd):=by
 show F.okn HK (by subst_eqs) (λm A c s H e Q E l h=>?_)
 let(t,b,rfl,h):=h;show(_,(fi (gI 2 HK.nd (BbZ.ev l ⋯ rfl dB %[pv 0,pv 1|0])) (fT (iO (lh %[dW mG (pv 0) (pv 2),dW mG (pv 1) (pv 2)|0])))),?_)
 let(r,o,k):=h;show gP _ _ _ [some (.int t),some (.int b),none] H;try mstop
 show(_,_,rfl,?_);try mstop
 have u:=Mth.g_pos (a:=t) (b:=b) ∅;have v:=Mth.g_le (a:=t) (b:=b) ∅;have d:lV (Mth.g t b):=mO (n:=8000) ∅ (fj (by ac_nf:(Mth.g t b).natAbs<=b.natAbs) o);show(d,d,len2,?_);show xI λp q S j=>k p q S ?_;rw[j];unfold Mth.top Mth.bot Mth.by_;rw[if_neg ∅]
abbrev C0:Stmt:=top 80
theorem Nv:iY ["_law_one","_law_other"] ["_law_one","_law_other"] (iC C0):=by bv_decide
def uP(K:aW):Sp:=λvs H Q E=>∃(x y:V)(a c:Int × Int),vs=[x,y]/\fO K H x a.1 a.2/\fO K H y c.1 c.2/\FW 3000 3000 a/\FW 3000 3000 c/\∀ p H',dC H H'->H' p=some (.tup [.int (fE a c).1, .int (fE a c).2])->Q (.ref p) H'
theorem NF(F:"_law_plus"∘C0)(T:Txt K mg Ad)(Bah:2∘"_law_lowest"∘["_law_top","_law_bottom"]∘(zd)):3∘["_law_one","_law_other"]∘(uP K):=by
 show F.okn Nv (by subst_eqs) (λn A i s H l Q E m h=>?_)
 let(x,y,a,c,rfl,h):=h;show(_,(fT (iO (Bah.ev m ⋯ rfl dB %[dW nF (dW nP (!0) (!1)) (dW nP (!1) (!0)),dW nP (!0) (!1)|0]))),?_);let(j,g,d,b,k):=h;show mh _ _ [some x,some y] H;try mstop
 show lO j (kd g ?_);try mstop
 show(jU d.s1 b.s2,lO g (kd j ?_));try mstop
 show(jU b.s1 d.s2,kd j (kd g ?_));try mstop
 show(jU d.s2 b.s2,_,_,rfl,?_,(d.s2.mul b.s2).mono ⋯,λp o S e=>k p o S e);have:=Int.mul_pos (show 0<a.2 by have:=d.b1;ac_nf) (show 0<c.2 by have:=b.b1;ac_nf);ac_nf
abbrev C8:Stmt:=top 81
theorem Nu:iY ["_law_one","_law_other"] ["_law_one","_law_other"] (iC C8):=by bv_decide
def Hj(K:aW):Sp:=λvs H Q E=>∃(x y:V)(a c:jC),vs=[x,y]/\fO K H x a.1 a.2/\fO K H y c.1 c.2/\FW 3000 3000 a/\FW 3000 3000 c/\∀ p H',dC H H'->H' p=some (.tup [.int (lE a c).1, .int (lE a c).2])->Q (.ref p) H'
theorem Oe(F:"_law_times"∘C8)(T:Txt K mg Ad)(Bah:2∘"_law_lowest"∘["_law_top","_law_bottom"]∘(zd)):3∘["_law_one","_law_other"]∘(Hj K):=by
 show F.okn Nu (by subst_eqs) (λn A g s H l Q E m h=>?_)
 let(x,y,a,c,rfl,h):=h;show(_,(fT (iO (Bah.ev m ⋯ rfl dB %[dW nP (!0) (!1),dW nP (!0) (!1)|0]))),?_);let(j,i,d,b,k):=h;show mh _ _ [some x,some y] H;cbv;show lO j (lO i ?_);cbv;show(jU d.s1 b.s1,kd j (kd i ?_));cbv;show(jU d.s2 b.s2,_,_,rfl,nE d.b1 b.b1,(d.s2.mul b.s2).mono ⋯,λp o S e=>k p o S e)
abbrev CZ:Stmt:=top 82
theorem Nw:iY ["_law_one","_law_other"] ["_law_one","_law_other"] (iC CZ):=by bv_decide
def Hv(K:aW):Sp:=λvs H Q E=>∃(x y:V)(a c:Int × Int),vs=[x,y]/\fO K H x a.1 a.2/\fO K H y c.1 c.2/\FOk 3000 a/\FOk 3000 c/\Q (.bl (lF a c)) H
theorem NI(F:"_law_less"∘CZ)(T:Txt K mg Ad)  : 1∘["_law_one","_law_other"]∘(Hv K):=by
 show F.okn Nw (by subst_eqs) (λl A b s H j Q E m h=>?_)
 let(x,y,a,c,rfl,h):=h;show(_,(fT (iO (pP uH (dW nP (!0) (!1)) (dW nP (!1) (!0)) (kO _)))),?_);let(g,d,i,e,k):=h;show mh _ _ [some x,some y] H;try mstop
 show lO g (kd d ?_);try mstop
 show(jU i.s1 e.s2,lO d (kd g ?_));try mstop
 show(jU e.s1 i.s2,?_);show k
abbrev CY:Stmt:=top 83
theorem rX:iY ["_law_cell","_law_more","_law_k","_law_free","_law_mixed","_law_here","_law_there","_law_top","_law_size","_law_most"] ["_law_cell","_law_more","_law_k","_law_free"] (iC CY):=by bv_decide
def Hu(K:aW):Sp:=λvs H Q E=>∃(c m:Int)(k:Nat)(b:Bool),vs=[.int c, .int m, .int (k:Int), .bl b]/\k<10/\∀(v:V)(p:PD)(j:Nat)(H':Hp),dC H H'->mV K H' p v->p.nm=L1 (97+k)->j<=k->((p.st=L1 (113+k)/\p.en=L1 (112+j))\/(p.st=L1 (112+j)/\p.en=L1 (113+k)))->FB 133 3 p.sz->FB 3 3 p.mo->0<=p.mo.1->1<=p.wt->p.wt<=5->Dv 60 (vl p.sz)->Q v H'
theorem NG(F:"_law_part"∘CY)(T:Txt K mg Ad)(Bah:2∘"_law_lowest"∘["_law_top","_law_bottom"]∘(zd)):3∘["_law_cell","_law_more","_law_k","_law_free"]∘(Hu K):=by
 show F.okn rX (by subst_eqs) (λZ A l s H G Q E n h=>?_)
 let(c,m,k,b,rfl,h):=h;have o:=n.units;show(_,(fi (gI 4 rX.nd (dW mG (dW mW (dW nP (pv 0) gW) gW) gW)) (fi (fX (mR (pv 3)) (fT (gI 4 rX.nd (pv 0)))
   ki) (fi (gI 5 rX.nd (ig ix_U rP (dW mW (dW mW (pv 4) gW) (dW nF (pv 2) gW)))) (fi (gI 6 rX.nd (ig ix_U rP (dW nF (pv 2) gW))) (fi (fX (mC (qE o) (dW mW (dW mG (pv 4) gW) gW) gW (kO _)) (fT (EU (i:=5) (j:=6) rfl rX.nd rfl rfl ⋯ rfl rfl %[pv 6,pv 5|0] rfl))
   ki) (fi (gI 7 rX.nd (dW Bd (dW mW (dW mG (pv 4) gW) gW) gW)) (fi (fX (mC (qE o) (dW mW (dW mG (pv 4) gW) gW) gW (kO _)) (fT (gI 7 rX.nd (dW mW (dW mG (pv 4) gW) (dW Lg gW gW))))
   ki) (fi (gI 8 rX.nd (Bah.ev n ⋯ rfl dB %[pv 7,dW nF gW (dW mW (dW mG (pv 4) gW) gW)|0])) (fi (gI 9 rX.nd (Bah.ev n ⋯ rfl dB %[dW mW (pv 1) gW,dW nF gW (dW mW (dW mG (pv 1) gW) gW)|0])) (fT (iO (lh %[ig ix_U rP (pv 2),pv 5,pv 6,pv 8,pv 9,dW nF gW (dW mW (dW mG (pv 1) gW) gW)|0])))))))))))),?_)
 clear o;let(r,I):=h;have sl:(1000:Nat)<=sizeLine:=by decide
 show gP _ _ _ [some (.int c),some (.int m),some (.int (k:Int)),some (.bl b),none,none,none,none,none,none] H;cbv;mpure
 generalize((c*48271).fmod 2147483647).fdiv 37=mx0
 mframe;rename_i N hN;have key:∀ a:Int,N [some (.int c),some (.int m),some (.int (k:Int)),some (.bl b),some (.int a),none,none,none,none,none] H:=by
  clear mx0;intro a
  mframe;mpure
  show(∅,?_);have qa:=Mth.fm (x:=a) (y:=10) ⋯;have z:=Mth.fm (x:=a.fmod 10) (y:=(k:Int)+1) ∅;let(j,U):=iz z.1;rw[U]at z ⊢;show(112+j,⋯,qQ (ch_f j ∅),?_)
  mframe;rw[show((k:Int)+1)=((k+1:Nat):Int) by ac_nf];show(112+(k+1),⋯,qQ (ch_f (k+1) ∅),?_)
  mframe;mpure
  rename_i R S;have d:∀(x y:Str),((x=L1 (113+k)/\y=L1 (112+j))\/(x=L1 (112+j)/\y=L1 (113+k)))->R [some (.int c),some (.int m),some (.int (k:Int)),some (.bl b),some (.int a),some (.str x),some (.str y),none,none,none] H:=by
   intro x y p
   mframe;mpure
   have qt:=Mth.fm (x:=a.fdiv 20) (y:=61) ⋯
   mframe;mpure
   rename_i N3 X;have e:∀ t:Int,Mth.Sz 133 t->N3 [some (.int c),some (.int m),some (.int (k:Int)),some (.bl b),some (.int a),some (.str x),some (.str y),some (.int t),none,none] H:=by
    intro t O
    mframe;mpure
    have qs:=Mth.fm (x:=a.fdiv 4880) (y:=6) ⋯;have u:Mth.Sz 3 (1+(a.fdiv 4880).fmod 6):=.lit ∅ ∅;show(_,_,rfl,∅,u.mono ⋯,λJ H1 S1 L=>?_)
    mframe;mpure
    have V:=Mth.fm (x:=m) (y:=7) ⋯;have qn:=Mth.fm (x:=m.fdiv 7) (y:=4) ⋯;have qw:=Mth.fm (x:=m.fdiv 28) (y:=5) ⋯;have q:Mth.Sz 3 (m.fmod 7):=.lit ∅ ∅;have v:Mth.Sz 3 (1+(m.fdiv 7).fmod 4):=.lit ∅ ∅;show(_,_,rfl,∅,v.mono ⋯,λW H2 C M=>?_)
    mframe;show(97+k,⋯,qQ (ch_p k r),?_);cbv;mpure
    show(by show 6<=sizeLine;ac_nf,?_);rename_i tp B D H2 Y g e3;cbv;show I _ ⟨L1 (97+k),x,y,(Mth.top t _,Mth.bot t _),(Mth.top (m.fmod 7) _,Mth.bot (m.fmod 7) _),1+(m.fdiv 28).fmod 5⟩ j Y (S1.trans (C.trans g)) ⟨tp, .ref J, .ref W,rfl,gZ.of e3,fO.of (g _ _ (C _ _ L)),fO.of (g _ _ M)⟩ rfl ∅ p (E4 O ∅ u) (E4 q ∅ v) (J6 V.1 ∅) (by show 1<=1+_;ac_nf) (by show 1+_<=5;ac_nf) (JO ∅ ∅)
   split
   .mpure
    have qq:=Mth.fm (x:=a.fdiv 29280) (y:=10000000000000000000000000000000000000000) ⋯;show e _ (.lit ∅ ∅)
   .show e _ (.lit ∅ ∅)
  split
  .simpa only[ua];show(_,_,rfl,d _ _ (.inl ⟨by show L1 (112+(k+1))=_;congr 1;ac_nf,rfl⟩))
  .show d _ _ (.inr ⟨rfl,by show L1 (112+(k+1))=_;congr 1;ac_nf⟩)
 split
 .show key c
 .show key mx0
abbrev D2:Stmt:=top 84
theorem xT:iY ["_law_parts","_law_cell","_law_left","_law_found","_law_k"] ["_law_parts","_law_cell"] (iC D2):=by bv_decide
def Hq(K:aW):Sp:=λvs H Q E=>∃(c:Addr)(n:Int)(px:List V)(ls:List PD),vs=[.ref c, .int n]/\fI K H c px/\fh (mV K H) ls px/\ls.length<=10/\∀ l ys ks H',dC H H'->H' l=some (.lst ys)->fh (mV K H') ks ys->ks.Perm ls->Q (.ref l) H'
theorem N4(F:"_law_turned"∘D2)(T:Txt K mg Ad)  : 1∘["_law_parts","_law_cell"]∘(Hq K):=by
 show F.okn xT (by subst_eqs) (λb0 A a0 s H vs Q E hr h=>?_)
 let(c,n,D,ls,rfl,h):=h;show(_,(fi (gI 2 xT.nd (xJ G4 rfl T.Bd0 yB %[pv 0|0])) (fi (gI 3 xT.nd (nv oI)) (fi (lL dn rfl (uL rfl T.Bb7 %[dW nP (mL oK rfl T.BbF oi %[pv 0|0]) (dW mW (pv 1) gW)|0]) (iV 4 xT.nd) (fi (gI 1 xT.nd (dW mW (dW nF (dW nP (pv 1) gW) gW) gW)) (fT (nX (jT dJ ek ej pF (pv 3) %[jT dJ PySem.F.slot_list_pop PySem.F.type_list_pop LZ (pv 2) %[dW mW (dW mG (pv 1) gW) (mL oK rfl T.BbF oi %[pv 2|0])|0]|0] (hs:=by show o8 rfl)))))) (fT (iO (dW nF (pv 3) (pv 2))))))),?_)
 let(hC,hP,h8,k):=h;have sl:(1000:Nat)<=sizeLine:=by decide
 have lp:=hP.length;show gP _ _ _ [some (.ref c),some (.int n),none,none,none] H;cbv;show(c,D,rfl, .inl hC,?_);rename_i G X a5 H H1 S1 e1;cbv;cbv;show(len0,?_);rename_i fd g a6 H1 H2 S2 e2;cbv;cbv;have M:G≠fd:=λz=>by rw[z]at e1;rw[e1]at g;cases g
 have R:=oq S1 g;show(_, .inl ((hC.same S1).same S2),?_);cbv;mpure
 have q2:=Mth.fm (x:=n) (y:=2) ⋯;show(E2 (.lit ∅ ∅),?_);obtain⟨tn,U,a9⟩:∃ tn:Nat,(D.length:Int)*n.fmod 2=(tn:Int)/\tn<=D.length:=by
  rcases(by ac_nf:n.fmod 2=0\/n.fmod 2=1)with h | h
  .show(0,by rw[h];simp,dG _)
  .show(D.length,by rw[h];simp,dh _)
 rw[U];clear U q2;show(_,rfl,∅,∅,?_);show nh.byN (λi σ L=>∃(m:Int)(v4:Option V)(e o:List V)(d r:List PD),σ=[some (.ref c),some (.int m),some (.ref G),some (.ref fd),v4]/\dC H L/\L G=some (.lst e)/\L fd=some (.lst o)/\fh (mV K L) d e/\fh (mV K L) r o/\(r++d).Perm ls/\r.length=i) ⟨n,none,D,[],ls,[],rfl,S1.trans S2,S2 _ _ e1,e2,hP.mono (λ_ _ z=>z.sameT (S1.trans S2).t),rfl,List.Perm.refl _,rfl⟩ ?_ ?_
 .intro i σ H3 hi z_ N0 a4;let(m,v4,e,o,d,r,rfl,S3,J,ef,I,Y,W,S):=z_;have lX:=I.length;have lY:=Y.length;have C:=W.length_eq;rw[dR]at C;have x1:1<=e.length:=by ac_nf
  cbv;mpure
  mspec
  show(.inl ⟨rfl,_,fI.of ef⟩,?_);show(.inl ⟨rfl,_,fI.of J⟩,?_);cbv;mpure
  show(_, .inl (fI.of J),?_);cbv;show(∅,?_);generalize(((m*48271+11).fmod 2147483647).fdiv 37)=z;have qz:=Mth.fm (x:=z) (y:=(e.length:Int)) ∅;let(j,hj):=iz qz.1;rw[hj]at qz ⊢;have jl:j<e.length:=by ac_nf
  let(p,O,pv):=I.at_ (aV jl);cbv;show(G,e,(j:Int),j,e[j],rfl,rfl,J,∅,∅,Kc jl,aV jl,?_);generalize u4:upd H3 G _=v;cbv;have e4:=jg u4;have T4:dH H3 v:=dH.put u4 J rfl;have N:v fd=some (.lst o):=by rw[<- u4,fF (gk M)];show ef
  cbv;show(fd,o,_,rfl,rfl,N,∅,?_);generalize u5:upd v fd _=H5;cbv;have e5:=jg u5;have T5:dH v H5:=dH.put u5 N rfl;have B:=T4.trans T5;have Z:fh (mV K H5) d e:=I.mono λ_ _ z=>z.sameT B;have a2:fh (mV K H5) r o:=Y.mono λ_ _ z=>z.sameT B;cbv;show a4 _ _ ⟨_,_,e.eraseIdx j,o++[e[j]],d.eraseIdx j,r++[p],rfl,λb u h=>by rw[<- u5,fF (iy h R), <- u4,fF (iy h X)];show S3 _ _ h,by rw[<- u5,fF M];show e4,e5,?_,a2.append (.one (pv.sameT B)),?_,by simp[S]⟩
  .rw[kx,kx];show(Z.take j).append (Z.drop (j+1))
  .show List.Perm.trans ?_ W;rw[List.append_assoc,kx];show List.Perm.append_left r ?_;have jk:j<d.length:=by ac_nf
   have a3:d[j]=p:=by rw[aV jk]at O;show eh O
   have a1:d=d.take j++p::d.drop (j+1):=by rw[<- a3,List.getElem_cons_drop jk,kA]
   have:=(List.perm_middle (a:=p) (l₁:=d.take j) (l₂:=d.drop (j+1))).symm;show this.trans (by rw[<- a1])
 .intro σ H3 z_;let(m,v4,e,o,d,r,rfl,S3,J,ef,I,Y,W,S):=z_;have lX:=I.length;have lY:=Y.length;have C:=W.length_eq;rw[dR]at C;cbv;show .inl ⟨fd,G,o,e,rfl,rfl,ef,J,∅,?_⟩;rename_i q a7 a8 H3 v S4 e4;cbv;cbv;show k q (o++e) (r++d) v (S3.trans S4) e4 ((Y.mono (P':=mV K v) λ_ _ z=>z.sameT S4.t).append (I.mono (P':=mV K v) λ_ _ z=>z.sameT S4.t)) W
abbrev DZ:Stmt:=top 86
theorem xV:iY ["_law_way_here","_law_sizes","_law_total","_law_name","_law_sign"] ["_law_way_here","_law_sizes"] (iC DZ):=by bv_decide
def zc(K:aW):Sp:=λvs H Q E=>∃(a d:Addr)(xs:List V)(w:List Pr)(ks:List PD)(n:Nat)(s:Str->jC),vs=[.ref a, .ref d]/\fI K H a xs/\fh (qT K H) w xs/\w.length<=10/\pA K H n d ks s/\(∀ pr∈w, ∃ p∈ks,p.nm=pr.1)/\vf ks s/\∀ p (t:jC) H',dC H H'->H' p=some (.tup [.int t.1, .int t.2])->FB 1900 900 t->vl t=mz (λn=>vl (s n)) w->Q (.ref p) H'
theorem N6(F:"_law_middle"∘DZ)(T:Txt K mg Ad)(Bad:3∘"_law_plus"∘["_law_one","_law_other"]∘(uP K)):4∘["_law_way_here","_law_sizes"]∘(zc K):=by
 show F.okn xV (by subst_eqs) (λa0 A r s H vs Q E R h=>?_)
 let(a,d,xs,w,ks,n,s,rfl,h):=h;have z:=R.units;show(_,(fi (gI 2 xV.nd (lh %[gW,gW|0])) (fi (lL dn rfl (iN (pv 0)) (sO rfl (mK (iV 3 xV.nd) (mK (iV 4 xV.nd) rC))) (fT (gI 2 xV.nd (Bad.ev R ⋯ rfl dB %[pv 2,lh %[dW nP (pv 4) (ig ix_U (nc (jt z) (pv 1) (pv 3) (λ_ _=>rfl)) gW),ig ix_U (nc (jt z) (pv 1) (pv 3) (λ_ _=>rfl)) gW|0]|0])))) (fT (iO (pv 2))))),?_)
 clear z;let(M,X,hl,hD,m,l,k):=h;have lW:=X.length;show gP _ _ _ [some (.ref a),some (.ref d),none,none,none] H;cbv;show(len2,?_);rename_i t0 L O H H1 S1 e1;cbv
 mframe;show(a,rfl,jj.byLN (xs:=xs) (M.same S1) (λi σ o=>i<=xs.length/\∃(D B:Option V)(g:Addr),σ=[some (.ref a),some (.ref d),some (.ref g),D,B]/\dC H o/\o g=some (.tup [.int (cs ((w.take i).map (spS s))).1, .int (cs ((w.take i).map (spS s))).2])) ⟨dG _,none,none,t0,rfl,S1,e1⟩ (λi σ o q=>by let(_,_,_,_,_,S,_):=q;show M.same S) ?_ ?_)
 .intro i y σ G N z_ N0 C;let(hi,D,B,g,rfl,c,j):=z_;have li:=(aU.mp N).1;let(b,e,q,rfl,hq):=X.at_ N;let(p,t,U):=m b (aY e);have I:=CB.fb l (di.mpr ⟨p,t,rfl⟩);have ft:=(l.sum (w:=w.take i) (λx hx=>m x (gU hx)) (by rw[eS];ac_nf)).1;cbv;show(q,_,rfl,(gZ.of hq).same c,rfl,?_);rw[<- U];cbv;show yn (hD.same c) t λv fv=>?_;show lO fv ?_;cbv;have sg:Mth.Sz 2 (oz b.2):=by cases b.2 <;> show .lit ⋯ ⋯
  show(jU sg I.s1,?_);show yn (hD.same c) t λv2 u=>?_;show kd u ?_;cbv;show(len2,?_);rename_i tq Y W G H3 J e3;cbv;have eg:((oz b.2*(s p.nm).1,(s p.nm).2):Int × Int)=sgn b.2 (s p.nm):=by cases b.2 <;> simp[oz,sgn,gf]
  have fg:fO K H3 (.ref tq) (sgn b.2 (s p.nm)).1 (sgn b.2 (s p.nm)).2:=by rw[<- eg];show fO.of e3
  have fw:FB 1800 900 (sgn b.2 (s p.nm)):=by cases b.2;show I.neg;show I
  show(_,_,_,sgn b.2 (s p.nm),rfl,fO.of (J _ _ j),fg,ft.w.mono ⋯ ⋯,fw.w.mono ⋯ ⋯,λtn H4 S4 Z=>?_);cbv;show C _ _ ⟨li,_,_,tn,rfl,c.trans (J.trans S4),?_⟩;rw[dX,e,dy,show List.map (spS s) (some b).toList=[spS s b]from rfl,vI];rw[U]at Z;show Z
 .intro σ G z_;let(hi,D,B,g,rfl,c,j):=z_;rw[de ∅]at j;cbv;show k g _ G c j (l.sum m hl).1 (l.sum m hl).2
abbrev DY:Stmt:=top 88
theorem xU:iY ["_law_way_here","_law_slacks_here","_law_total","_law_name","_law_sign"] ["_law_way_here","_law_slacks_here"] (iC DY):=by bv_decide
def Hr(K:aW):Sp:=λvs H Q E=>∃(a d:Addr)(xs:List V)(w:List Pr)(ks:List PD)(n:Nat)(s:Str->jC),vs=[.ref a, .ref d]/\fI K H a xs/\fh (qT K H) w xs/\w.length<=10/\pA K H n d ks s/\(∀ pr∈w, ∃ p∈ks,p.nm=pr.1)/\vf ks s/\∀ p (t:jC) H',dC H H'->H' p=some (.tup [.int t.1, .int t.2])->FB 1900 900 t->vl t=sm (λn=>vl (s n)) (w.map (·.1))->Q (.ref p) H'
theorem N5(F:"_law_slacks"∘DY)(T:Txt K mg Ad)(Bad:3∘"_law_plus"∘["_law_one","_law_other"]∘(uP K)):4∘["_law_way_here","_law_slacks_here"]∘(Hr K):=by
 show F.okn xU (by subst_eqs) (λa0 A r s H vs Q E J h=>?_)
 let(a,d,xs,w,Z,n,s,rfl,h):=h;have L:=J.units;show(_,(fi (gI 2 xU.nd (lh %[gW,gW|0])) (fi (lL dn rfl (iN (pv 0)) (sO rfl (mK (iV 3 xU.nd) (mK (iV 4 xU.nd) rC))) (fT (gI 2 xU.nd (Bad.ev J ⋯ rfl dB %[pv 2,nc (jt L) (pv 1) (pv 3) (λ_ _=>rfl)|0])))) (fT (iO (pv 2))))),?_)
 clear L;let(D,O,hl,hD,R,N,k):=h;have lW:=O.length;have g:=λi=>N.sum (w:=(w.take i).map λb=>(b.1,true)) (λx hx=>by let(y,l,rfl):=di.mp hx;show R y (gU l)) (by rw[bc,eS];ac_nf);show gP _ _ _ [some (.ref a),some (.ref d),none,none,none] H;cbv;show(len2,?_);rename_i t0 C G H H1 X e1;cbv
 mframe;show(a,rfl,jj.byLN (xs:=xs) (D.same X) (λi σ o=>i<=xs.length/\∃(z t:Option V)(j:Addr),σ=[some (.ref a),some (.ref d),some (.ref j),z,t]/\dC H o/\o j=some (.tup [.int (cs (((w.take i).map λb=>(b.1,true)).map (spS s))).1, .int (cs (((w.take i).map λb=>(b.1,true)).map (spS s))).2])) ⟨dG _,none,none,t0,rfl,X,e1⟩ (λi σ o q=>by let(_,_,_,_,_,S,_):=q;show D.same S) ?_ ?_)
 .intro i y σ W l z_ N0 u;let(hi,z,t,j,rfl,e,m):=z_;have li:=(aU.mp l).1;let(b,c,q,rfl,hq):=O.at_ l;let(p,I,M):=R b (aY c);have fs:=CB.fb N (di.mpr ⟨p,I,rfl⟩);cbv;show(q,_,rfl,(gZ.of hq).same e,rfl,?_);rw[<- M];cbv;show yn (hD.same e) I λv Y=>?_;show(_,_,_,s p.nm,rfl,fO.of m,Y,(g i).1.w.mono ⋯ ⋯,fs.w.mono ⋯ ⋯,λtn H4 S4 U=>?_);cbv;show u _ _ ⟨li,_,_,tn,rfl,e.trans S4,?_⟩;rw[dX,c,dy,dy,show List.map (spS s) (List.map (λb=>(b.1,true)) (some b).toList)=[spS s (b.1,true)]from rfl,vI];rw[M]at U;show U
 .intro σ W z_;let(hi,z,t,j,rfl,e,m):=z_;have B:=g xs.length;rw[de ∅]at m B;cbv;show k j _ W e m B.1 (B.2.trans (Fh w))
abbrev CW:Stmt:=top 89
theorem y5:iY ["_law_parts","_law_slacks_here","_law_twelfths","_law_made_here","_law_k","_law_name"] ["_law_parts","_law_slacks_here","_law_twelfths"] (iC CW):=by bv_decide
def Cf(K:aW):Sp:=λvs H Q E=>∃(pp d tl:Addr)(px:List V)(ks:List PD)(n:Nat)(s:Str->jC)(tw:List Int),vs=[.ref pp, .ref d, .ref tl]/\fI K H pp px/\fh (mV K H) ks px/\ks.length<=10/\(ks.map (·.nm)).Nodup/\pA K H n d ks s/\fI K H tl (tw.map V.int)/\ks.length<=tw.length/\(∀ t∈tw, -12<=t/\t<=12)/\(∀ p∈ks,FB 133 3 p.sz/\FB 910 800 (s p.nm))/\∀ d' H',dC H H'->pA K H' 10 d' ks (jV ks s tw)->Q (.ref d') H'
theorem NH(F:"_law_made"∘CW)(T:Txt K mg Ad)(Bad:3∘"_law_plus"∘["_law_one","_law_other"]∘(uP K))(Bct:3∘"_law_times"∘["_law_one","_law_other"]∘(Hj K)):4∘["_law_parts","_law_slacks_here","_law_twelfths"]∘(Cf K):=by
 show F.okn y5 (by subst_eqs) (λa3 A D s H vs Q E I h=>?_)
 let(G,d,W,B,y,n,s,R,rfl,h):=h;have O:=I.units;show(_,(fi (gI 3 y5.nd oJ) (fi (lL dn rfl (uL rfl T.Bb7 %[mL oK rfl T.BbF oi %[pv 0|0]|0]) (iV 4 y5.nd) (fi (gI 5 y5.nd (ig ix_U (ig ix_U (pv 0) (pv 4)) gW)) (fT (nR (jt O) (pv 3) (pv 5) (Bad.ev I ⋯ rfl dB %[ig ix_U (ig ix_U (pv 0) (pv 4)) gW,Bct.ev I ⋯ rfl dB %[nc (jt O) (pv 1) (pv 5) (λ_ _=>rfl),lh %[ig ix_U (pv 2) (pv 4),gW|0]|0]|0]) rfl)))) (fT (iO (pv 3))))),?_)
 clear O;let(M,hK,a2,nd,hD,hT,lt,ht,hb,k):=h;have lK:=hK.length;show gP _ _ _ [some (.ref G),some (.ref d),some (.ref W),none,none,none] H;cbv;rename_i N q a0 H H1 S1 e1;cbv
 mframe;show(_, .inl (M.same S1),?_);cbv;show(_,rfl,∅,∅,?_);show nh.byN (λi σ Y=>∃(J S:Option V),σ=[some (.ref G),some (.ref d),some (.ref W),some (.ref N),J,S]/\dC H Y/\pA K Y i N (y.take i) (jV y s R)) ⟨none,none,rfl,S1,[],e1,dh _,λp c=>by rw[gQ]at c;cases c⟩ ?_ ?_
 .rintro i σ L hi ⟨J,S,rfl,a,z⟩ N0 U;rw[Int.zero_add,gA]at *;have li:i<y.length:=by ac_nf
  obtain⟨p,c⟩:∃ p,y[i]?=some p:=⟨_,aV li⟩;obtain⟨t,e⟩:∃ t,R[i]?=some t:=⟨_,aV ∅⟩;have mp:=aY c;obtain⟨x,l,a_,vz,vm,rfl,hq,hz,_⟩:∃ x,B[i]?=some x/\mV K H p x:=by
   obtain⟨x,l⟩:∃ x,B[i]?=some x:=⟨_,aV ∅⟩;let(p',j,pd):=hK.at_ l;rw[c]at j;cases j;show(x,l,pd)
  let(t1,t2):=ht t (aY e);let(b1,o):=hb p mp;have ok:=FN b1 o t1 t2;cbv;show so (i:=i) (M.same a) l ?_;show iK (i:=0) (hq.same a) rfl ?_
  mframe;show so (i:=i) (M.same a) l ?_;show iK (i:=3) (hq.same a) rfl ?_;show yn (hD.same a) mp λv fv=>?_;show so (i:=i) (hT.same a) (v:=.int t) (by rw[bg,e];rfl) ?_;cbv;show(len2,?_);rename_i tq a1 Z L H3 S3 e3;cbv;have X:Mth.Sz 4 t:=.lit ∅ ∅;have g:Mth.Sz 4 12:=.lit ⋯ ⋯;show(v, .ref tq,s p.nm,(t,12),rfl,fv.same S3,fO.of e3,o.w.mono ⋯ ⋯,⟨X.mono ⋯,g.mono ⋯,by show(1:Int)<=12;decide⟩,λm1 H4 S4 e4=>?_);cbv;have fm:FB 914 804 (lE (s p.nm) (t,12)):=FB.low (nE o.b1 (show(1:Int)<=12 by decide)) (o.s1.mul X) (o.s2.mul g);have r:=S3.trans S4;show(vz, .ref m1,p.sz,lE (s p.nm) (t,12),rfl,fO.same r (fO.same a hz),fO.of e4,b1.w.mono ⋯ ⋯,fm.w.mono ⋯ ⋯,λm2 H5 S5 e5=>?_);cbv;have m:=r.trans S5;show Ba (z.same m) c (v:=.ref m2) (by rw[F3 nd c e];show fO.of e5) ∅ λH6 o6 C=>?_;cbv;show U _ _ ⟨_,_,rfl,λb u h=>o6 b u (iy h q) (m _ _ (a _ _ h)),C⟩
 .rintro σ L ⟨J,S,rfl,a,z⟩;rw[gA,de ∅]at z;cbv;let(kv,h1,h2,h3):=z;show k N L a ⟨kv,h1,∅,h3⟩
abbrev Dh:Stmt:=top 85
theorem sU:iY ["_law_parts","_law_one","_law_other","_law_ways","_law_k","_law_name","_law_start","_law_end","_law_size","_law_most","_law_weight"] ["_law_parts","_law_one","_law_other"] (iC Dh):=by bv_decide
def Cj(K:aW):Sp:=λvs H Q E=>∃(pp:Addr)(one other:Str)(px:List V)(ks:List PD),vs=[.ref pp, .str one, .str other]/\fI K H pp px/\fh (mV K H) ks px/\ks.length<=10/\(ks.map (·.nm)).Nodup/\(∀ p∈ks,p.st≠p.en)/\iX ks one other/\∀ l xs w H',dC H H'->H' l=some (.lst xs)->fh (qT K H') w xs->kZ ks one w other->(w.map (·.1)).Nodup->Q (.ref l) H'
theorem Nm(F:"_law_way"∘Dh)(T:Txt K mg Ad)  : 1∘["_law_parts","_law_one","_law_other"]∘(Cj K):=by
 show F.okn sU (by subst_eqs) (λd4 A b5 s H vs Q E hr h=>?_)
 let(pp,d,c,px,ks,rfl,h):=h;have x:=hr.units;show(_,(fi (gI 3 sU.nd (FX (Gu (pv 1) (nv oI) Fo) rfl rfl (by simp) ⋯)) (fi (lL dn rfl (uL rfl T.Bb7 %[mL oK rfl T.BbF oi %[pv 0|0]|0]) (iV 4 sU.nd) (fT (lL dn rfl (iN (pv 0)) (sO rfl (mK (iV 5 sU.nd) (mK (iV 6 sU.nd) (mK (iV 7 sU.nd) (mK (iV 8 sU.nd) (mK (iV 9 sU.nd) (mK (iV 10 sU.nd) rC))))))) (fi (fX (PW.pt (A8 (oP (rQ (jt x) (pv 6) (pv 3)) (by with_unfolding_all rfl)) (Br (oP (sW (jt x) (pv 7) (pv 3)) (by with_unfolding_all rfl))))) (fT (nR (jt x) (pv 3) (pv 7) (dW nF (nc (jt x) (pv 3) (pv 6) (λ_ _=>rfl)) (nv %[lh %[pv 5,gW|0]|0])) rfl))
   ki) (fT (fX (PW.pt (A8 (oP (rQ (jt x) (pv 7) (pv 3)) (by with_unfolding_all rfl)) (Br (oP (sW (jt x) (pv 6) (pv 3)) (by with_unfolding_all rfl))))) (fT (nR (jt x) (pv 3) (pv 6) (dW nF (nc (jt x) (pv 3) (pv 7) (λ_ _=>rfl)) (nv %[lh %[pv 5,nG tT gW|0]|0])) rfl))
   ki)))))) (fT (iO (nc (jt x) (pv 3) (pv 2) (λ_ _=>rfl)))))),?_)
 clear x;let(hP,hK,d3,nd,c1,b4,k):=h;have lK:=hK.length;have sl:(1000:Nat)<=sizeLine:=by decide
 have nu:∀ p∈ks, ∀ q∈ks,p.nm=q.nm->p=q:=λp hp q hq e=>yE nd hp hq e;show gP _ _ _ [some (.ref pp),some (.str d),some (.str c),none,none,none,none,none,none,none,none] H;cbv;intro r J;show(len0,?_);intro L B;have a6:L≠r:=λz=>by rw[z,jo]at B;cases B
 rw[fF a6]at B;show(by rw[fF (gk a6)];show jo,[(aZ d, .ref L)],rfl,by simp,?_);generalize u1:upd (upd (upd H r _) L _) r _=H1;cbv;have c2:H1 r=some (.dK [(aZ d, .ref L)]):=by rw[<- u1];show jo
 have c4:H1 L=some (.lst []):=by rw[<- u1,fF a6];show jo
 have S1:dC H H1:=λb u h=>by rw[<- u1,fF (iy h J),fF (iy h B),fF (iy h J)];show h
 mframe;show(_, .inl (hP.same S1),?_);cbv;show(_,rfl,∅,∅,?_);show nh.byN (λi σ H'=>∃(v4 v5 v6 v7 v8 v9 I:Option V)(o:List (Str × List Pr))(kv:List (gD × V)),σ=[some (.ref pp),some (.str d),some (.str c),some (.ref r),v4,v5,v6,v7,v8,v9,I]/\dC H H'/\H' r=some (.dK kv)/\DV (qH K H') o kv/\o.length<=1+20*i/\qI ks d o/\∀ w f,kZ ks d w f->w.length<=i->has o f) ⟨none,none,none,none,none,none,none,[(d,[])],_,rfl,S1,c2,DV.app (P:=[]) (kv:=[]) ⟨L,[],rfl,c4,rfl⟩ rfl,by simp,qI.nil,λw f h hl=>?_⟩ ?_ ?_
 .cases h with
  | nil=>show([],by unfold lk;rw[if_pos rfl])
  | snoc=>simp at hl
 .intro i σ H2 hi z_ N0 c8;let(v4,v5,v6,v7,v8,v9,I,a0,d1,rfl,S2,c0,c6,a8,c7,hr):=z_;rw[gA]at hi;cbv;show(pp,rfl,jj.byLN (xs:=px) (hP.same S2) (λj σ H'=>j<=px.length/\∃(v4 v5 v6 v7 v8 v9 I:Option V)(o:List (Str × List Pr))(kv:List (gD × V)),σ=[some (.ref pp),some (.str d),some (.str c),some (.ref r),v4,v5,v6,v7,v8,v9,I]/\dC H H'/\H' r=some (.dK kv)/\DV (qH K H') o kv/\o.length<=1+20*i+2*j/\qI ks d o/\(∀ f,has a0 f->has o f)/\∀ p∈ks.take j,(has a0 p.st->has o p.en)/\(has a0 p.en->has o p.st)) ⟨dG _,_,_,_,_,_,_,_,a0,d1,rfl,S2,c0,c6,∅,c7,λ_ h=>h,λp hp=>by rw[gQ]at hp;cases hp⟩ (λj σ H' q=>by let(_,_,_,_,_,_,_,_,_,_,_,S,_):=q;show hP.same S) ?_ ?_)
  .intro j y σ H3 hy z_ N1 c9;let(hj,v4,v5,v6,v7,v8,v9,I,o,kv,rfl,S3,N,O,b3,hW,W,M):=z_;have lj:=(aU.mp hy).1;let(p,hp,a_,vz,vm,rfl,hq,_):=hK.at_ hy;have mp:=aY hp;have c5:=c1 p mp;cbv;show(a_,_,rfl,hq.same S3,rfl,?_);cbv;have a3:∀(w3:List (Str × List Pr))(k3:List (gD × V))(H5:Hp),dC H H5->H5 r=some (.dK k3)->DV (qH K H5) w3 k3->w3.length<=3+20*i+2*j->qI ks d w3->(∀ f,has o f->has w3 f)->(has o p.st->has w3 p.en)->(has o p.en->has w3 p.st)->N1 [some (.ref pp),some (.str d),some (.str c),some (.ref r),v4,some (.str p.nm),some (.str p.st),some (.str p.en),some vz,some vm,some (.int p.wt)] H5:=λw3 k3 H5 S5 e5 b7 l5 d0 m5 h1 h2=>by
    show c9 _ _ ⟨lj,_,_,_,_,_,_,_,w3,k3,rfl,S5,e5,b7,∅,d0,λf h=>m5 f (W f h),λq G=>?_⟩;rw[dX,hp]at G;rcases dk.mp G with G | G
    .show(λh=>m5 _ ((M q G).1 h),λh=>m5 _ ((M q G).2 h))
    .obtain rfl:q=p:=by simpa using G
     show(λh=>h1 (W _ h),λh=>h2 (W _ h))
   rename_i N2 b9;have key:∀(R:List (Str × List Pr))(k2:List (gD × V))(H4:Hp),dC H H4->H4 r=some (.dK k2)->DV (qH K H4) R k2->R.length<=2+20*i+2*j->qI ks d R->(∀ f,has o f->has R f)->(has o p.st->has R p.en)->N2 [some (.ref pp),some (.str d),some (.str c),some (.ref r),v4,some (.str p.nm),some (.str p.st),some (.str p.en),some vz,some vm,some (.int p.wt)] H4:=by
    intro R k2 H4 S4 e4 C l4 a1 m4 h1
    mframe;show(r,_,rfl,gE.k (k:=aZ p.en) e4,?_);cases ea:lk R p.en with
    | none=>
     rw[C.no ea];simpa only[gC];show a3 R k2 H4 S4 e4 C ∅ a1 m4 h1 λh=>?_;let(u,x):=m4 _ h;rw[ea]at x;cases x
    | some w=>
     let(v,hv,hw):=C.at ea;rw[hv];simpa only[gj];show(r,_,rfl,gE.k (k:=aZ p.st) e4,?_);cases eb:lk R p.st with
     | some u=>
      let(v',a4,_):=C.at eb;rw[a4];simpa only[gj];show a3 R k2 H4 S4 e4 C ∅ a1 m4 h1 λ_=>⟨u,eb⟩
     | none=>
      rw[C.no eb];simpa only[gC];let(l0,x0,rfl,a2,U):=hw;have b8:=U.length;have a8:=a1.len ea;have d2:=C.len;show(r,_,rfl,by rw[<- hv];show gE.k (k:=aZ p.en) e4,?_);cbv;show(len2,?_);rename_i nt b2 b1 H4 HA SA eA;cbv;show(by show 1<=sizeLine;ac_nf,?_);rename_i nl a7 a9 HA HB SB eB;cbv;show .inl ⟨l0,nl,_,_,rfl,rfl,(SA.trans SB) _ _ a2,eB,by simp only[dQ,fV];ac_nf,?_⟩;rename_i nq D b0 HB HC SC eC;cbv;have m:=SA.trans (SB.trans SC);show(r,_,rfl,jY.k (k:=aZ p.st) (m _ _ e4) ∅,?_);generalize Z:upd HC r _=X;cbv;have eD:=jg Z;have b6:=sN (l:=R) (f:=p.st) (a:=w++[(p.nm,false)]);have Y:dH HC X:=dH.put Z (m _ _ e4) rfl;have a5:DV (qH K X) (pu R p.st (w++[(p.nm,false)])) (putK k2 (aZ p.st) (.ref nq)):=(C.mono λ_ _ z=>(z.same m).put Z (m _ _ e4) rfl).put ⟨nq,x0++[.ref nt],rfl,by rw[<- Z,fF (λz=>by rw[z,(SA.trans SB) _ _ e4]at D;cases D)];show eC,(U.mono (P':=qT K X) λ_ _ z=>(z.sameT m.t).sameT Y).append (.one ⟨nt,rfl,Y _ _ rfl (SC _ _ (SB _ _ eA))⟩)⟩;have oD:dC H X:=λb u h=>by rw[<- Z,fF (iy h J)];show m _ _ (S4 b u h)
      show a3 _ _ X oD eD a5 ∅ (a1.put nu mp (nQ.mpr ⟨p,mp, .inr ⟨c5,rfl,rfl,rfl⟩⟩) ea eb (.inr ⟨rfl,rfl⟩)) (λf h=>vE (m4 f h)) (λh=>vE (h1 h)) λ_=>yI
   clear b9;show(r,_,rfl,gE.k (k:=aZ p.st) N,?_);cases ea:lk o p.st with
   | none=>
    rw[O.no ea];simpa only[gC];show key o kv H3 S3 N O ∅ hW (λ_ h=>h) λ⟨u,x⟩=>by rw[ea]at x;cases x
   | some w=>
    let(v,hv,hw):=O.at ea;rw[hv];simpa only[gj];show(r,_,rfl,gE.k (k:=aZ p.en) N,?_);cases eb:lk o p.en with
    | some u=>
     let(v',a4,_):=O.at eb;rw[a4];simpa only[gj];show key o kv H3 S3 N O ∅ hW (λ_ h=>h) λ_=>⟨u,eb⟩
    | none=>
     rw[O.no eb];simpa only[gC];let(l0,x0,rfl,a2,U):=hw;have b8:=U.length;have a8:=hW.len ea;have d2:=O.len;show(r,_,rfl,by rw[<- hv];show gE.k (k:=aZ p.st) N,?_);cbv;show(len2,?_);rename_i nt b2 b1 H3 HA SA eA;cbv;show(by show 1<=sizeLine;ac_nf,?_);rename_i nl a7 a9 HA HB SB eB;cbv;show .inl ⟨l0,nl,_,_,rfl,rfl,(SA.trans SB) _ _ a2,eB,by simp only[dQ,fV];ac_nf,?_⟩;rename_i nq D b0 HB HC SC eC;cbv;have m:=SA.trans (SB.trans SC);show(r,_,rfl,jY.k (k:=aZ p.en) (m _ _ N) ∅,?_);generalize Z:upd HC r _=X;cbv;have eD:=jg Z;have b6:=sN (l:=o) (f:=p.en) (a:=w++[(p.nm,true)]);have Y:dH HC X:=dH.put Z (m _ _ N) rfl;have a5:DV (qH K X) (pu o p.en (w++[(p.nm,true)])) (putK kv (aZ p.en) (.ref nq)):=(O.mono λ_ _ z=>(z.same m).put Z (m _ _ N) rfl).put ⟨nq,x0++[.ref nt],rfl,by rw[<- Z,fF (λz=>by rw[z,(SA.trans SB) _ _ N]at D;cases D)];show eC,(U.mono (P':=qT K X) λ_ _ z=>(z.sameT m.t).sameT Y).append (.one ⟨nt,rfl,Y _ _ rfl (SC _ _ (SB _ _ eA))⟩)⟩;have oD:dC H X:=λb u h=>by rw[<- Z,fF (iy h J)];show m _ _ (S3 b u h)
     show key _ _ X oD eD a5 ∅ (hW.put nu mp (nQ.mpr ⟨p,mp, .inl ⟨rfl,rfl,rfl⟩⟩) ea eb (.inl ⟨rfl,rfl⟩)) (λf h=>vE h) λ_=>yI
  .intro σ H3 z_;let(hj,v4,v5,v6,v7,v8,v9,I,o,kv,rfl,S3,N,O,b3,hW,W,M):=z_;rw[de ∅]at M;cbv;show c8 _ _ ⟨_,_,_,_,_,_,_,o,kv,rfl,S3,N,O,∅,hW,λw f h hl=>?_⟩;cases h with
   | nil=>show W _ (hr _ _ .nil (dG _))
   | @snoc w f g pr h hm=>
    have hf:=hr _ _ h (by rw[dR,dD]at hl;ac_nf);obtain⟨p,hp,_,⟨e1,e2⟩ | ⟨e1,e2⟩⟩:=B9 hm
    .rw[<- e2];show(M p hp).1 (by rw[e1];show hf)
    .rw[<- e1];show(M p hp).2 (by rw[e2];show hf)
 .intro σ H2 z_;let(v4,v5,v6,v7,v8,v9,I,o,kv,rfl,S2,N,O,b3,hW,hr):=z_;rw[gA]at hr;let(w',c3):=b4;let(w,hw,hn):=NO nu c3;have lw:=sub_len (w.map (·.1)) (ks.map (·.nm)) hn λn hn=>rE (rD hw) n hn;rw[bc,bc]at lw;let(u,x):=hr w c hw ∅;let(v,hv,l,xs,rfl,hl,hx):=O.at x;let(k1,k2):=hW.wk _ _ x;cbv;show(r,_,rfl,by rw[<- hv];show gE.k (k:=aZ c) N,k l xs u H2 S2 hl hx k1 k2)
abbrev Dg:Stmt:=top 87
theorem sV:iY ["_law_cell","_law_k","_law_parts","_law_sizes","_law_free","_law_mixed","_law_one","_law_other","_law_way_here","_law_middle_here","_law_low","_law_high"] ["_law_cell","_law_k","_law_parts","_law_sizes","_law_free"] (iC Dg):=by bv_decide
def G9(K:aW):Sp:=λvs H Q E=>∃(c:Int)(k:Nat)(pp d:Addr)(b:Bool)(px:List V)(ks:List PD)(n:Nat)(pl:Str->jC)(m:Nat)(s:Str->jC),vs=[.int c, .int (k:Int), .ref pp, .ref d, .bl b]/\k<6/\fI K H pp px/\fh (mV K H) ks px/\oF ks n pl/\1<=n/\pA K H m d ks s/\(∀ p∈ks,s p.nm=p.sz)/\∀ v g H',dC H H'->TV K H' g.td v->ng k n pl g->Q v H'
theorem MV(F:"_law_gap"∘Dg)(T:Txt K mg Ad)(BbU:1∘"_law_way"∘["_law_parts","_law_one","_law_other"]∘(Cj K))(Baq:4∘"_law_middle"∘["_law_way_here","_law_sizes"]∘(zc K))(Bad:3∘"_law_plus"∘["_law_one","_law_other"]∘(uP K)):5∘["_law_cell","_law_k","_law_parts","_law_sizes","_law_free"]∘(G9 K):=by
 show F.okn sV (by subst_eqs) (λa7 A I s H vs Q E z h=>?_)
 let(c,k,v,d,b,g,u,n,l,m,s,rfl,h):=h;show(_,(fi (gI 5 sV.nd (dW mG (dW mW (dW nP (pv 0) gW) gW) gW)) (fi (fX (mR (pv 4)) (fT (gI 5 sV.nd (pv 0)))
   ki) (fi (gI 6 sV.nd (dW mW (dW mW (pv 5) gW) (dW nF (mL oK rfl T.BbF oi %[pv 2|0]) gW))) (fi (gI 7 sV.nd (dW mW (dW nF (dW nF (pv 6) gW) (dW mW (dW mW (dW mG (pv 5) gW) gW) (mL oK rfl T.BbF oi %[pv 2|0]))) (dW nF (mL oK rfl T.BbF oi %[pv 2|0]) gW))) (fi (gI 8 sV.nd (BbU.ev z ⋯ rfl dB %[pv 2,ig ix_U rP (pv 6),ig ix_U rP (pv 7)|0])) (fi (gI 9 sV.nd (Baq.ev z ⋯ rfl dB %[pv 8,pv 3|0])) (fi (gI 10 sV.nd (Bad.ev z ⋯ rfl dB %[pv 9,lh %[nG tT (dW mW (dW mG (pv 5) gW) gW),dW nF gW (dW mW (dW mG (pv 5) gW) gW)|0]|0])) (fi (gI 11 sV.nd (Bad.ev z ⋯ rfl dB %[pv 9,lh %[dW mW (dW mG (pv 5) gW) gW,dW nF gW (dW mW (dW mG (pv 5) gW) gW)|0]|0])) (fT (iO (lh %[ig ix_U rP (pv 1),ig ix_U rP (pv 6),ig ix_U rP (pv 7),pv 10,pv 11|0]))))))))))),?_)
 let(k6,B,Z,e,n1,hD,O,kk):=h;have lK:=Z.length;have a6:=e.len;have a5:=e.n10;have sl:(1000:Nat)<=sizeLine:=by decide
 show gP _ _ _ [some (.int c),some (.int (k:Int)),some (.ref v),some (.ref d),some (.bl b),none,none,none,none,none,none,none] H;cbv;mpure
 generalize((c*69621).fmod 2147483629).fdiv 37=mx0
 mframe;rename_i N hN;have key:∀ a:Int,N [some (.int c),some (.int (k:Int)),some (.ref v),some (.ref d),some (.bl b),some (.int a),none,none,none,none,none,none] H:=by
  clear mx0;intro a
  mframe;mpure
  show(_, .inl B,?_);cbv;show(∅,?_);have qa:=Mth.fm (x:=a.fmod 11) (y:=(g.length:Int)+1) ∅;let(i,hi):=iz qa.1;rw[hi]at qa ⊢
  mframe;mpure
  show(_, .inl B,?_);cbv;show(∅,?_);have qb:=Mth.fm (x:=(a.fdiv 11).fmod 10) (y:=(g.length:Int)) ∅;generalize((a.fdiv 11).fmod 10).fmod (g.length:Int)=r at qb;show(_, .inl B,?_);cbv;show(∅,?_);have qc:=Mth.fm (x:=(i:Int)+1+r) (y:=(g.length:Int)+1) ∅;have qd:=xp (x:=(i:Int)+1+r) (y:=(g.length:Int)+1) ∅ ∅;let(j,hj):=iz qc.1;rw[hj]at qc qd ⊢;have R:i≠j:=by ac_nf
  mframe;show(112+i,⋯,qQ (ch_f i ∅),?_);show(112+j,⋯,qQ (ch_f j ∅),?_);show(v,L1 (112+i),L1 (112+j),g,u,rfl,B,Z,∅,e.nd,e.ne,e.cn i j ∅ ∅,λwl xs w H1 X e1 hW M L=>?_)
  mframe;have lw:=sub_len (w.map (·.1)) (u.map (·.nm)) L λn L=>rE (rD M) n L;rw[bc,bc]at lw;have q:∀ D∈w, ∃ p∈u,p.nm=D.1:=λD C=>di.mp (rE (rD M) D.1 (di.mpr ⟨D,C,rfl⟩));show(wl,d,xs,w,u,m,s,rfl,fI.of e1,hW,∅,hD.same X,q,e.cbn O,λtp t H2 S2 e2 G hv=>?_);have U:vl t=vl (l (L1 (112+j)))-vl (l (L1 (112+i))):=hv.trans (BH (x:=λf=>vl (l f)) (f:=λn=>vl (s n)) (λp C=>by show vl (l p.en)=vl (l p.st)+vl (s p.nm);rw[O p C];show e.pls p C) M);let(dt,b0,b1):=e.near O q ∅ hv
  mframe;mpure
  have q1:=Mth.fm (x:=a.fdiv 110) (y:=9) ⋯;have q2:=Mth.fm (x:=a.fdiv 990) (y:=3) ⋯;generalize(a.fdiv 110).fmod 9=x1 at q1;generalize(a.fdiv 990).fmod 3=y1 at q2;show(len2,?_);rename_i ta a1 a3 H2 H3 S3 e3;cbv;let(f1,g1):=EZ (c:=(-x1,1+y1)) G dt b0 b1 rfl ∅ ∅ ∅ ∅;show(_,_,t,(-x1,1+y1),rfl,fO.of (S3 _ _ e2),fO.of e3,G.w.mono ⋯ ⋯,⟨(show Mth.Sz 4 (-x1)from .lit ∅ ∅).mono ⋯,(show Mth.Sz 4 (1+y1)from .lit ∅ ∅).mono ⋯,by show 1<=1+y1;ac_nf⟩,λtl H4 S4 e4=>?_)
  mframe;mpure
  have q3:=Mth.fm (x:=a.fdiv 2970) (y:=9) ⋯;have q4:=Mth.fm (x:=a.fdiv 26730) (y:=3) ⋯;generalize(a.fdiv 2970).fmod 9=x2 at q3 ⊢;generalize(a.fdiv 26730).fmod 3=y2 at q4 ⊢;show(len2,?_);rename_i tb a4 a2 H4 H5 W e5;cbv;let(f2,g2):=EZ (c:=(x2,1+y2)) G dt b0 b1 rfl ∅ ∅ ∅ ∅;have o:=S3.trans (S4.trans W);show(_,_,t,(x2,1+y2),rfl,fO.of (o _ _ e2),fO.of e5,G.w.mono ⋯ ⋯,⟨(show Mth.Sz 4 x2 from .lit ∅ ∅).mono ⋯,(show Mth.Sz 4 (1+y2)from .lit ∅ ∅).mono ⋯,by show 1<=1+y2;ac_nf⟩,λth H6 Y e6=>?_)
  mframe;show(([107,108,109,110,111,118]:List Nat)[k]?.getD 0,⋯,qQ (ch_g k k6),?_);show(112+i,⋯,qQ (ch_f i ∅),?_);show(112+j,⋯,qQ (ch_f j ∅),?_);cbv;show(uk,?_);rename_i tg a0 V H6 H7 S e7;cbv;have J:=X.trans (S2.trans (o.trans (Y.trans S)));show kk _ ⟨gN k,L1 (112+i),L1 (112+j),fE t (-x1,1+y1),fE t (x2,1+y2)⟩ H7 J ⟨tg, .ref tl, .ref th,rfl,gZ.of e7,fO.of ((W.trans (Y.trans S)) _ _ e4),fO.of (S _ _ e6)⟩ ⟨rfl,⟨i,j,∅,∅,R,rfl,rfl⟩,f1,f2,⟨x1,1+y1,∅,∅,∅,∅,?_⟩,x2,1+y2,∅,∅,∅,∅,?_⟩
  .show vl (fE t (-x1,1+y1))=_;rw[g1,U];push_cast;grind
  .show vl (fE t (x2,1+y2))=_;rw[g2,U]
 split
 .show key c
 .show key mx0
abbrev CU:Stmt:=top 90
theorem pG:iY ["_law_book","_law_parts","_law_gap_here","_law_sizes","_law_slacks_here","_law_cells","_law_name","_law_one","_law_other","_law_low","_law_high","_law_way_here","_law_middle_here","_law_total","_law_least","_law_greatest","_law_signs","_law_ends","_law_at","_law_twelfths","_law_found"] ["_law_book","_law_parts","_law_gap_here","_law_sizes","_law_slacks_here","_law_cells"] (iC CU):=by bv_decide
def Hw(K:aW)(Ad:jE):Sp:=λvs H Q E=>∃(p d pp d1 d2 cl:Addr)(gv:V)(ts:List TD)(F_:List Str)(px:List V)(ks:List PD)(n kk:Nat)(pl s:Str->jC)(g:GD)(E_:Int)(m1 m2:Nat)(sz:Str->jC)(cz:List Int),vs=[.ref p, .ref pp,gv, .ref d1, .ref d2, .ref cl]/\BK K Ad H p d ts/\vh ts F_ (λf=>vl (pl f))/\vp ks (λn=>vl (s n)) ts/\(∀ q∈ks, ∃ t∈ts,t.st=q.st/\t.en=q.en)/\fI K H pp px/\fh (mV K H) ks px/\oF ks n pl/\1<=n/\TV K H g.td gv/\ng kk n pl g/\pA K H m1 d1 ks sz/\(∀ q∈ks,sz q.nm=q.sz)/\pA K H m2 d2 ks s/\mI ks pl g s E_/\fI K H cl (cz.map V.int)/\cz.length<=63/\∀ H',dC H H'->Q (.bl true) H'
theorem NJ(F:"_law_kept"∘CU)(T:Txt K mg Ad)(m_gap:8∘"gap"∘(sT Ad)∘["self","one","other"]∘(HH K Ad))(BbU:1∘"_law_way"∘["_law_parts","_law_one","_law_other"]∘(Cj K))(Baq:4∘"_law_middle"∘["_law_way_here","_law_sizes"]∘(zc K))(Bcb:4∘"_law_slacks"∘["_law_way_here","_law_slacks_here"]∘(Hr K))(Bad:3∘"_law_plus"∘["_law_one","_law_other"]∘(uP K))(Bbx:1∘"_law_less"∘["_law_one","_law_other"]∘(Hv K))(BbV:4∘"_law_made"∘["_law_parts","_law_slacks_here","_law_twelfths"]∘(Cf K)):9∘["_law_book","_law_parts","_law_gap_here","_law_sizes","_law_slacks_here","_law_cells"]∘(Hw K Ad):=by
 show F.okn pG (by subst_eqs) (λl6 A g1 s H vs Q E B h=>?_)
 let(p,d,pp,d1,d2,cl,gv,ts,F_,U,C,n,kk,L,s,g,E_,m1,m2,sz,cz,rfl,h):=h;have hu:=B.units;show(_,(fi (EW (pv 2) (sO rfl (mK (iV 6 pG.nd) (mK (iV 7 pG.nd) (mK (iV 8 pG.nd) (mK (iV 9 pG.nd) (mK (iV 10 pG.nd) rC))))))) (fi (gI 11 pG.nd (BbU.ev B ⋯ rfl dB %[pv 1,pv 7,pv 8|0])) (fi (gI 12 pG.nd (Baq.ev B ⋯ rfl dB %[pv 11,pv 3|0])) (fi (gI 13 pG.nd (Bcb.ev B ⋯ rfl dB %[pv 11,pv 4|0])) (fi (gI 14 pG.nd (Bad.ev B ⋯ rfl dB %[pv 12,lh %[nG tT (!13),!13|0]|0])) (fi (gI 15 pG.nd (Bad.ev B ⋯ rfl dB %[pv 12,pv 13|0])) (fi (fX (PW.pt (kF (mC (sJ hu) (m_gap.m B ⋯ dB (pv 0) %[pv 7,pv 8|0]) (lh %[pv 14,pv 15|0]) (kO _)) (kF (mR (Bbx.ev B ⋯ rfl dB %[pv 14,pv 9|0])) (pM (mR (Bbx.ev B ⋯ rfl dB %[pv 10,pv 15|0])))))) (fT (iO ja))
   ki) (fi (gI 16 pG.nd (xJ (G5 rfl) rfl T.n_dict FG %[pv 11|0]) rfl (Or.inr rfl)) (fi (EV (y6 (j:=17) (own:=["_law_part_here"]) (cs:=[(16,"_law_signs")]) pG.nd rfl (Or.inl rfl) rfl (iN (pv 1)) (λ_ _ _ _=>(iV 0 (show[("_law_part_here" : Str),("_law_signs" : Str)].Nodup by decide))) (λ_ _ _ _=>qj) (λ_ _ _ _=>(dW nP gW (F0 (jt hu) (pv 1) (ig (rh (K:=K) rfl) (pv 0) gW) gW ⟨rfl,rfl,rfl,rfl⟩))) (o7 rfl) ⋯ rfl ⋯ (qu rfl rfl rfl))) (fi (fX (mC (sJ hu) (Baq.ev B ⋯ rfl dB %[pv 11,BbV.ev B ⋯ rfl dB %[pv 1,pv 4,pv 17|0]|0]) (pv 15) (kO _)) (fT (iO ja))
   ki) (fi (fX (mC (sJ hu) (Baq.ev B ⋯ rfl dB %[pv 11,BbV.ev B ⋯ rfl dB %[pv 1,pv 4,qM (qG (own:=["_law_end"]) (cs:=[]) rfl (iN (pv 17)) (λ_ _ _ _=>(iV 0 (show[("_law_end" : Str)].Nodup by decide))) (λ_ _ _ _=>qj) (λ_ _ _ _=>(nG tT (pv 0))) (o7 rfl) ⋯ rfl ⋯ hcs0)|0]|0]) (pv 14) (kO _)) (fT (iO ja))
   ki) (fi (lL dn rfl (MT rfl T.Bb7 %[gW,mL oK rfl T.BbF oi %[pv 5|0],mL oK rfl T.BbF oi %[pv 1|0]|0]) (iV 18 pG.nd) (fi (gI 19 pG.nd (dW nF (qM (qG (own:=["_law_cell"]) (cs:=[]) rfl (iN (Gv sl_V (pv 5) (yx (pv 18)) (yx (dW nF (pv 18) (mL oK rfl T.BbF oi %[pv 1|0]))))) (λ_ _ _ _=>(iV 0 (show[("_law_cell" : Str)].Nodup by decide))) (λ_ _ _ _=>qj) (λ_ _ _ _=>(dW Bd (dW mW (pv 0) gW) gW)) (o7 rfl) ⋯ rfl ⋯ hcs0)) (qM (qG (own:=["_law_part_here"]) (cs:=[]) rfl (iN (pv 1)) (λ_ _ _ _=>(iV 0 (show[("_law_part_here" : Str)].Nodup by decide))) (λ_ _ _ _=>qj) (λ_ _ _ _=>gW) (o7 rfl) ⋯ rfl ⋯ hcs0)))) (fi (gI 20 pG.nd (Baq.ev B ⋯ rfl dB %[pv 11,BbV.ev B ⋯ rfl dB %[pv 1,pv 4,pv 19|0]|0])) (fT (fX (PW.pt (kF (mR (Bbx.ev B ⋯ rfl dB %[pv 20,pv 9|0])) (pM (mR (Bbx.ev B ⋯ rfl dB %[pv 10,pv 20|0]))))) (fT (iO ja))
   ki))))) (fT (iO ja)))))))))))))),?_)
 clear hu;let(hb,hg,hT,e0,hP,hK,l,n1,tv,W,j5,O,d7,ke,hC,k9,k):=h;let((dx,i9),_):=id hb;let(ga,f6,d5,rfl,r,j1,i7):=tv;have c3:fO K H f6 g.lo.1 g.lo.2:=j1;have d8:fO K H d5 g.hi.1 g.hi.2:=i7;have lK:=hK.length;have l4:=l.len;have k8:=l.n10;have sl:(1000:Nat)<=sizeLine:=by decide
 have c1:iX C g.st g.en:=by
  let(i,j,h1,h2,_,h4,h5):=W.fc;rw[h4,h5];show l.cn i j h1 h2
 have c6:g.st≠g.en:=by
  let(i,j,_,_,h3,h4,h5):=W.fc;rw[h4,h5];intro e;have:=qh e;ac_nf
 show gP _ _ _ [some (.ref p),some (.ref pp),some (.ref ga),some (.ref d1),some (.ref d2),some (.ref cl),none,none,none,none,none,none,none,none,none,none,none,none,none,none,none] H;cbv;show(ga,_,rfl,r,rfl,?_)
 mframe;show(pp,g.st,g.en,U,C,rfl,hP,hK,∅,l.nd,l.ne,c1,λwl xs w H1 S1 e1 hW hw hn=>?_);have lw:=sub_len (w.map (·.1)) (C.map (·.nm)) hn λn hn=>rE (rD hw) n hn;rw[bc,bc]at lw;have J:∀ pr∈w, ∃ q∈C,q.nm=pr.1:=λpr hp=>di.mp (rE (rD hw) pr.1 (di.mpr ⟨pr,hp,rfl⟩))
 mframe;show(wl,d1,xs,w,C,m1,sz,rfl,fI.of e1,hW,∅,j5.same S1,J,l.cbn O,λtm t H2 S2 e2 ft S=>?_);have ev:vl t=vl (L g.en)-vl (L g.st):=S.trans (BH (x:=λf=>vl (L f)) (f:=λn=>vl (sz n)) (λq r=>by show vl (L q.en)=vl (L q.st)+vl (sz q.nm);rw[O q r];show l.pls q r) hw)
 mframe;have f4:=S1.trans S2;have c4:=hW.mono (P':=qT K H2) λ_ _ z=>z.sameT S2.t;show(wl,d2,xs,w,C,m2,s,rfl,fI.of (S2 _ _ e1),c4,∅,d7.same f4,J,ke.cbn,λtu u H3 S3 e3 fu hu=>?_)
 mframe;show iK (i:=0) (gZ.of e3) rfl ?_;cbv;show iK (i:=1) (gZ.of e3) rfl ?_;cbv;show(len2,?_);rename_i tn k7 k0 H3 H4 S4 e4;cbv;show(_,_,t,gf u,rfl,fO.of (S4 _ _ (S3 _ _ e2)),fO.of e4,ft.w.mono ⋯ ⋯,fu.neg.w.mono ⋯ ⋯,λtl H5 S5 e5=>?_)
 mframe;have D:=S4.trans S5;show(_,_,t,u,rfl,fO.of (D _ _ (S3 _ _ e2)),fO.of (D _ _ e3),ft.w.mono ⋯ ⋯,fu.w.mono ⋯ ⋯,λtg H6 S6 e6=>?_);have vL:vl (fE t (gf u))=vl (L g.en)-vl (L g.st)-sm (λn=>vl (s n)) (w.map (·.1)):=by
  rw[oO ft.b1 fu.neg.b1,oG,ev,hu];grind
 have vG:vl (fE t u)=vl (L g.en)-vl (L g.st)+sm (λn=>vl (s n)) (w.map (·.1)):=by rw[oO ft.b1 fu.b1,ev,hu]
 have a2:FB 3000 1800 (fE t (gf u)):=(FB.add (n:=2900) (m:=1800) ft fu.neg ⋯ ⋯ ⋯).mono ⋯ ⋯;have a3:FB 3000 1800 (fE t u):=(FB.add (n:=2900) (m:=1800) ft fu ⋯ ⋯ ⋯).mono ⋯ ⋯
 mframe;have a5:=f4.trans (S3.trans (D.trans S6));show(p,_,dx,_,rfl,a5 _ _ i9,rfl,rfl,?_);have c8:=Gf l.ne c1 c6;show(p,d,ts,F_,λf=>vl (L f),g.st,g.en,rfl,hb.same a5,hg,Fw e0 c8.1,Fw e0 c8.2,λq h0 vg l0 l5 H7 S7 e7 t1 t2 b1 b2=>?_);let(i8,k1,k2):=hT.told l.tr l.ne l.nd (λq r=>ke.nn q r) (x:=λf=>vl (L f)) (λq r=>l.pls q r) t1 hw hn;let(w',d6,b8):=Lz l.ne hw;let(g9,k3,k4):=hT.told l.tr l.ne l.nd (λq r=>ke.nn q r) (x:=λf=>vl (L f)) (λq r=>l.pls q r) t2 d6 (by rw[b8];show(List.reverse_perm _).nodup_iff.mpr hn);rw[b8,xF (List.reverse_perm _)]at k4;rw[k3]at b1;rw[k1]at b2;have l1:=(t1.fb hg.cb hg.l70 k1).lo;have l2:=(t2.fb hg.cb hg.l70 k3).lo;have q1:i8.1=fE t u:=Lo.inj l1 a3.lo (by rw[k2,vG]);have q2:nT (0,1) g9.1=fE t (gf u):=by
  rw[AM l2];show Lo.inj (yl l2) a2.lo ?_;rw[oG,k4,vL];grind
 have fl:fO K H7 h0 (fE t (gf u)).1 (fE t (gf u)).2:=by rw[<- q2];show b1
 have fg:fO K H7 vg (fE t u).1 (fE t u).2:=by rw[<- q1];show b2
 clear t1 t2 b1 b2 k1 k2 k3 k4 l1 l2 q1 q2 d6 b8 hT hb hg;cbv;show(len2,?_);rename_i tc j9 j8 H7 H8 S8 e8;cbv;have Z:=S6.trans (S7.trans S8);have d9:=S7.trans S8;have a7:fO K H8 (.ref tl) (fE t (gf u)).1 (fE t (gf u)).2:=fO.of (Z _ _ e5);have b7:fO K H8 (.ref tg) (fE t u).1 (fE t u).2:=fO.of (d9 _ _ e6);show AU ((gZ.of e7).same S8) (fl.same S8) (fg.same S8) (gZ.of e8) a7 b7 ?_;cbv;let(r1,r2):=ke.ft w hw hn;have a4:=a5.trans d9;show(_,_,fE t (gf u),g.lo,rfl,a7,c3.same a4,a2.ok ⋯ ⋯,W.lo.ok ⋯ ⋯,?_);rw[show lF (fE t (gf u)) g.lo=false from jA.mpr λz=>by
  have:=(qO a2.b1 W.lo.b1).mp z;rw[vL]at this;grind]
 cbv;show(_,_,g.hi,fE t u,rfl,d8.same a4,b7,W.hi.ok ⋯ ⋯,a3.ok ⋯ ⋯,?_);rw[show lF g.hi (fE t u)=false from jA.mpr λz=>by
  have:=(qO W.hi.b1 a3.b1).mp z;rw[vG]at this;grind]
 cbv
 mframe;have h6:=c4.mono (P':=qT K H8) λ_ _ z=>z.sameT (S3.trans (D.trans Z)).t;have g6:H8 wl=some (.lst xs):=(S2.trans (S3.trans (D.trans Z))) _ _ e1;let(as,f5,g0,c2):=Et h6;show(wl,as,w.map λpr=>(pr.1,V.int (oz pr.2)),rfl,by rw[<- f5];show g6,by rw[bc];show g0,λi a q ha r=>?_,?_)
 .rw[bg]at r;let(pr,f8,rfl):=dM.mp r;show c2 i a pr ha f8
 intro sd c0;generalize u9:upd H8 sd _=H9;cbv;have S9:=se c0 u9;have e9:=sh u9;clear u9 f5 g0 c2;have Y:=a4.trans S9;have g5:=hK.mono (P':=mV K H9) λ_ _ z=>z.sameT Y.t
 mframe;show(pp,rfl, .inl ⟨⟨_,hP.same Y⟩,jW.list (xs:=U) (λj o b=>b=H9/\∃ I:List Int,o=I.map V.int/\I.length=j/\∀(i:Nat)(q:PD)(e:Int),C[i]?=some q->I[i]?=some e->x8 w q e) ⟨rfl,[],rfl,rfl,λi q e _ h=>by simp at h⟩ (λj o b hj z=>by let(rfl,I,rfl,h,_):=z;show(hP.same Y,by rw[bc];ac_nf)) ?_ ?_⟩)
 .rintro j y o b hy ⟨rfl,I,rfl,a9,hE⟩;let(q,i1,a_,vz,vm,rfl,h9,_):=g5.at_ hy;simpa only[dD,dQ,fV,dF,mw,dw,fP,fK];let(f,f1,f2,f3):=LD (n:=q.nm) hn;show(sd,rfl, .inl ⟨_, .inl e9⟩,?_);show iK (i:=0) h9 rfl ?_;show(_,gE.k (k:=aZ q.nm) e9,?_);rw[f1];cbv;show(jU (n:=4) (m:=4) (.lit ⋯ ⋯) (.lit ∅ ∅),I++[12*f],by simp,by simp[a9],λi q' e N he=>?_);rcases sR he with h | ⟨h1,h2⟩
  .show hE i q' e N h
  .rw[h1,a9,i1]at N;cases N;show(f,h2,f2,f3)
 .rintro o b ⟨rfl,I,rfl,a9,hE⟩;rename_i el k5 k6 b HA SA eA;cbv;have l3:=Y.trans SA;have b5:∀ e∈I, -12<=e/\e<=12:=λe he=>by
   let(i,hi):=dA he;have li:=(aU.mp hi).1;let(f,f1,f2,_):=hE i _ e (aV ∅) hi;ac_nf
  have b4:dC H1 HA:=S2.trans (S3.trans (D.trans (Z.trans (S9.trans SA))));have go:∀(tw:List Int)(a1:Addr)(H0:Hp)(R:V->Hp->Prop),dC H1 H0->H0 a1=some (.lst (tw.map V.int))->C.length<=tw.length->(∀ t∈tw, -12<=t/\t<=12)->(∀(tq:Addr)(v:jC)(H2:Hp),dC H0 H2->H2 tq=some (.tup [.int v.1, .int v.2])->FB 1900 900 v->vl v=mz (λn=>vl (jV C s tw n)) w->R (.ref tq) H2)->Cf K [.ref pp, .ref d2, .ref a1] H0 (λx H1=>zc K [.ref wl,x] H1 R E0) E0:=by
   intro tw a1 H0 R SH g4 hl ht hR;have b6:=S1.trans SH;show(pp,d2,a1,U,C,m2,s,tw,rfl,hP.same b6,hK.mono (λ_ _ z=>z.sameT b6.t),∅,l.nd,d7.same b6,fI.of g4,hl,ht,λq r=>⟨(l.val q r).1,ke.fb q r⟩,λdm HB SB hM=>?_);show(wl,dm,xs,w,C,10,jV C s tw,rfl,fI.of ((SH.trans SB) _ _ e1),hW.mono (λ_ _ z=>z.sameT (SH.trans SB).t),∅,hM,J,ke.made l hl ht,λtq v H2 S2 e2 M S=>hR tq v H2 (SB.trans S2) e2 M S)
  mframe;show go I el HA _ b4 eA ∅ b5 λtq v HB SB eB M S=>?_;have q:v=fE t u:=Lo.inj M.lo a3.lo (by
   rw[S,ke.ends l O hw J ∅ b5 1 (λi q t h1 h2=>⟨t,hE i q t h1 h2,∅⟩),vG];push_cast;grind)
  have d4:=S9.trans (SA.trans SB);show Ee (fO.of eB) (b7.same d4) ?_;rw[q];simp only[decide_true,Bool.and_self,Bool.not_true];cbv;clear q S M eB v tq
  mframe;show(el,rfl, .inl ⟨⟨_,fI.of (SB _ _ eA)⟩,jW.list (xs:=I.map V.int) (λj o b=>b=HB/\o=(I.take j).map λe=>V.int (-e)) ⟨rfl,rfl⟩ (λj o b hj z=>by let(rfl,rfl):=z;show(fI.of (SB _ _ eA),by rw[bc,eS];ac_nf)) ?_ ?_⟩)
  .rintro j y o b hy ⟨rfl,rfl⟩;rw[bg]at hy;let(e,he,rfl):=dM.mp hy;simpa only[dD,dQ,fV,dF,mw,dw,fP,fK];rw[dX,he];simp
  .rintro o b ⟨rfl,rfl⟩;rw[de (by rw[bc];show dh _)];rename_i f9 i3 j6 b HC SC eC;cbv;have j3:HC f9=some (.lst ((I.map λe=> -e).map V.int)):=by rw[ie];show eC
   have c5:∀ e∈I.map (λe=> -e), -12<=e/\e<=12:=λe he=>by
    let(x,hx,rfl):=di.mp he;have:=b5 x hx;ac_nf
   show go _ f9 HC _ (b4.trans (SB.trans SC)) j3 (by rw[bc];ac_nf) c5 λtq v HD SD eD M S=>?_;have q:v=fE t (gf u):=Lo.inj M.lo a2.lo (by
    rw[S,ke.ends l O hw J (by rw[bc];ac_nf) c5 (-1) (λi q t h1 h2=>by
     rw[bg]at h2;let(e,he,rfl):=dM.mp h2;show(e,hE i q e h1 he,∅)),vL]
    push_cast;grind)
   have i2:=d4.trans (SC.trans SD);show Ee (fO.of eD) (a7.same i2) ?_;rw[q];simp only[decide_true,Bool.and_self,Bool.not_true];cbv;clear q S M eD v tq
   mframe;have c7:dC H1 HD:=b4.trans (SB.trans (SC.trans SD));have a0:=S1.trans c7;show(_, .inl (hC.same a0),?_);try simpa only[bc]
   show(_, .inl (hP.same a0),?_);cbv;show(0,(cz.length:Int),(U.length:Int),rfl,⟨⋯,⋯,∅,∅,∅,∅⟩,?_);show sX.by (λi σ b=>∃(b0 a6 b3:Option V),σ=[some (.ref p),some (.ref pp),some (.ref ga),some (.ref d1),some (.ref d2),some (.ref cl),some (.str g.nm),some (.str g.st),some (.str g.en),some f6,some d5,some (.ref wl),some (.ref tm),some (.ref tu),some (.ref tl),some (.ref tg),some (.ref sd),some (.ref el),b0,a6,b3]/\dC HD b) ⟨none,none,none,rfl,dC.refl _⟩ ?_ ?_
   .rintro i σ HX hi ⟨b0,a6,b3,rfl,SX⟩;have X:=a0.trans SX;cbv;show(_, .inl (hP.same X),?_);cbv;show .inl (.inl ⟨cl,_,rfl,hC.same X,?_⟩);let(ys,ey,ly):=Ge (cz:=cz) (lo:=some (0+(i:Int)*(U.length:Int))) (hi:=some (0+(i:Int)*(U.length:Int)+(U.length:Int)));rw[ey];rename_i j7 g2 i0 HX HY SY eY;cbv;show(j7,rfl, .inl ⟨⟨_,fI.of eY⟩,jW.list (xs:=ys.map V.int) (λj o b=>b=HY/\o=(ys.take j).map λc=>V.int (c.fmod 25-12)) ⟨rfl,rfl⟩ (λj o b hj z=>by let(rfl,rfl):=z;show(fI.of eY,by rw[bc,eS];ac_nf)) ?_ ?_⟩)
    .rintro j y o b hy ⟨rfl,rfl⟩;rw[bg]at hy;let(c,hc,rfl):=dM.mp hy;simpa only[dD,dQ,fV,dF,mw,dw,fP,fK];mpure
     rw[dX,hc];simp
    .rintro o b ⟨rfl,rfl⟩;rw[de (by rw[bc];show dh _)];rename_i g8 i4 j2 b HZ SZ eZ;cbv;have c9:=X.trans (SY.trans SZ);show(pp,rfl, .inl ⟨⟨_,hP.same c9⟩,jW.list (xs:=U) (λj o b=>b=HZ/\o=(dF j (0:Int)).map V.int) ⟨rfl,rfl⟩ (λj o b hj z=>by let(rfl,rfl):=z;show(hP.same c9,by rw[bc,kB];ac_nf)) ?_ ?_⟩)
     .rintro j y o b hy ⟨rfl,rfl⟩;try simpa only[dD,dQ,fV,mw,dw,fP,fK]
      rw[List.replicate_succ',dy];rfl
     .rintro o b ⟨rfl,rfl⟩;rename_i h7 i5 i6 b g7 SW eW;cbv;show .inl ⟨g8,h7,_,_,rfl,rfl,SW _ _ eZ,eW,by rw[bc,bc,kB];ac_nf,?_⟩;rename_i f7 j0 g3 g7 d3 SV eV;cbv;obtain⟨G,b9⟩:∃ G,G=(ys.map λc=>c.fmod 25-12)++dF U.length (0:Int):=⟨_,rfl⟩;have j4:d3 f7=some (.lst (G.map V.int)):=by
       rw[eV,b9,dy,ie];rfl
      have hl:C.length<=G.length:=by rw[b9,dR,kB];ac_nf
      have f0:∀ t∈G, -12<=t/\t<=12:=λt ht=>by
       rw[b9]at ht;rcases dk.mp ht with h | h
       .let(c,_,rfl):=di.mp h;have:=Mth.fm (x:=c) (y:=25) ⋯;ac_nf
       .have:=List.eq_of_mem_replicate h;ac_nf
      have a8:=SY.trans (SZ.trans (SW.trans SV))
      mframe;show go G f7 d3 _ (c7.trans (SX.trans a8)) j4 hl f0 λtq v HU SU eU M S=>?_;let(r3,r4):=ke.rng l O hw J hl f0;rw[<- S]at r3 r4;have d0:=X.trans (a8.trans SU)
      mframe;show(_,_,v,g.lo,rfl,fO.of eU,c3.same d0,M.ok ⋯ ⋯,W.lo.ok ⋯ ⋯,?_);rw[show lF v g.lo=false from jA.mpr λz=>by
       have:=(qO M.b1 W.lo.b1).mp z;grind]
      cbv;show(_,_,g.hi,v,rfl,d8.same d0,fO.of eU,W.hi.ok ⋯ ⋯,M.ok ⋯ ⋯,?_);rw[show lF g.hi v=false from jA.mpr λz=>by
       have:=(qO W.hi.b1 M.b1).mp z;grind]
      cbv;show(_,_,_,rfl,SX.trans (a8.trans SU))
   .rintro σ HX ⟨b0,a6,b3,rfl,SX⟩;cbv;show k HX (a0.trans SX)
abbrev t6:Stmt:=top 91
theorem nW:iY ["_law_script","_law_free","_law_parts","_law_k","_law_sizes","_law_part_here","_law_gaps","_law_thing","_law_told","_law_slacks_here","_law_ties","_law_name","_law_start","_law_end","_law_size","_law_most","_law_weight","_law_book","_law_cells","_law_gap_here"] ["_law_script"] (iC t6):=by bv_decide
def zj(K:aW):Sp:=λvs H Q E=>∃(a:Addr)(ns:List Int),vs=[.ref a]/\fI K H a (ns.map V.int)/\ns.length<=63/\∀ H',Q (.bl true) H'
theorem JJ(F:"law"∘t6)(T:Txt K mg Ad)(Bag:1∘"_law_cell_at"∘["_law_script","_law_k"]∘(Ih K))(BcF:3∘"_law_part"∘["_law_cell","_law_more","_law_k","_law_free"]∘(Hu K))(Bcc:1∘"_law_turned"∘["_law_parts","_law_cell"]∘(Hq K))(BcT:5∘"_law_gap"∘["_law_cell","_law_k","_law_parts","_law_sizes","_law_free"]∘(G9 K))(BdM:mJ P w K mg base 9 "Thing" Ad.Thing ["self","parts","gaps"] (Iu K Ad))(BcC:9∘"share"∘["thing"]∘(Cb K Ad))(Bad:3∘"_law_plus"∘["_law_one","_law_other"]∘(uP K))(Bcd:10∘"share_ties"∘["thing"]∘(Ho K Ad))(Bce:7∘"is_sharing"∘["thing","slacks"]∘(Im K Ad))(k_Book:mJ P w K mg base 7 "Book" Ad.Book ["self","ties"] (IB K Ad))(BcG:9∘"_law_kept"∘["_law_book","_law_parts","_law_gap_here","_law_sizes","_law_slacks_here","_law_cells"]∘(Hw K Ad))(Bar:2∘"parts"∘(o9 Ad)∘["self"]∘(t4 K Ad))(Bb6:2∘"gaps"∘(o9 Ad)∘["self"]∘(xR K Ad)):12∘["_law_script"]∘(zj K):=by
 show F.okn nW (by subst_eqs) (λn8 A i5 s H vs Q E D h=>?_)
 let(a,ns,rfl,h):=h;have hu:=D.units;show(_,(fi (gI 1 nW.nd (pP (qE hu) (dW mW (dW mG (Bag.ev D ⋯ rfl dB %[pv 0,gW|0]) gW) gW) gW (kO _))) (fi (gI 2 nW.nd (nv oI)) (fi (lL dn rfl (uL rfl T.Bb7 %[dW nF gW (dW mW (Bag.ev D ⋯ rfl dB %[pv 0,gW|0]) gW)|0]) (iV 3 nW.nd) (fT (nX (jT dJ ek ej pF (pv 2) %[BcF.ev D ⋯ rfl dB %[Bag.ev D ⋯ rfl dB %[pv 0,dW nF gW (pv 3)|0],Bag.ev D ⋯ rfl dB %[pv 0,dW nF gW (pv 3)|0],pv 3,pv 1|0]|0] (hs:=by show o8 rfl))))) (fi (gI 2 nW.nd (Bcc.ev D ⋯ rfl dB %[pv 2,dW mG (Bag.ev D ⋯ rfl dB %[pv 0,gW|0]) gW|0])) (fi (gI 4 nW.nd oJ) (fi (lL dn rfl (iN (pv 2)) (iV 5 nW.nd) (fT (nR (jt hu) (pv 4) (!5) (!5) rfl))) (fi (gI 6 nW.nd (nv oI)) (fi (lL dn rfl (uL rfl T.Bb7 %[dW mW (dW mG (Bag.ev D ⋯ rfl dB %[pv 0,gW|0]) gW) gW|0]) (iV 3 nW.nd) (fT (nX (jT dJ ek ej pF (pv 6) %[BcT.ev D ⋯ rfl dB %[Bag.ev D ⋯ rfl dB %[pv 0,dW nF gW (pv 3)|0],pv 3,pv 2,pv 4,pv 1|0]|0] (hs:=by show o8 rfl))))) (fi (gI 7 nW.nd (BdM.ev D ⋯ rfl dB %[pv 2,pv 6|0])) (fi (gI 8 nW.nd (BcC.ev D ⋯ rfl dB %[pv 7|0])) (fi (gI 9 nW.nd oJ) (fi (gI 10 nW.nd (nv oI)) (fi (lL dn rfl (uL rfl T.Bb7 %[mL oK rfl T.BbF oi %[pv 2|0]|0]) (iV 3 nW.nd) (fi (EW (ig ix_U (pv 2) (pv 3)) (sO rfl (mK (iV 11 nW.nd) (mK (iV 12 nW.nd) (mK (iV 13 nW.nd) (mK (iV 14 nW.nd) (mK (iV 15 nW.nd) (mK (iV 16 nW.nd) rC)))))))) (fi (nR (jt hu) (pv 9) (pv 11) (ig ix_U (ig ix_U (pv 8) (pv 3)) gW) rfl) (fT (nX (jT dJ ek ej pF (pv 10) %[lh %[pv 11,pv 12,pv 13,Bad.ev D ⋯ rfl dB %[pv 14,lh %[nG tT (ig ix_U (ig ix_U (ig ix_U (pv 8) (pv 3)) gW) gW),ig ix_U (ig ix_U (ig ix_U (pv 8) (pv 3)) gW) gW|0]|0],Bad.ev D ⋯ rfl dB %[pv 14,ig ix_U (ig ix_U (pv 8) (pv 3)) gW|0]|0]|0] (hs:=by show o8 rfl))))))) (fi (fX (PW.pt (kF (mC (sJ hu) (Bcd.ev D ⋯ rfl dB %[pv 7|0]) (pv 10) (kO _)) (pM (oH (mR (Bce.ev D ⋯ rfl dB %[pv 7,qM (qG (own:=["_law_row"]) (cs:=[]) rfl (iN (pv 8)) (λ_ _ _ _=>(iV 0 (show[("_law_row" : Str)].Nodup by decide))) (λ_ _ _ _=>qj) (λ_ _ _ _=>(ig (rh (K:=K) rfl) (pv 0) gW)) (o7 rfl) ⋯ rfl ⋯ hcs0)|0])))))) (fT (iO ja))
   ki) (fi (gI 17 nW.nd (k_Book.ev D ⋯ rfl dB %[pv 10|0])) (fi (gI 18 nW.nd (Gv sl_V (pv 0) (yx gW) (yx gW))) (fi (lL dn rfl (iN (pv 6)) (iV 19 nW.nd) (fT (fX (oH (mR (BcG.ev D ⋯ rfl dB %[pv 17,pv 2,pv 19,pv 4,pv 9,pv 18|0]))) (fT (iO ja))
   ki))) (fT (iO (qN (pP (qE hu) (Bar.m0 D ⋯ dB (pv 7)) (pv 2) (kO _)) (sP (pP (qE hu) (Bb6.m0 D ⋯ dB (pv 7)) (pv 6) (kO _))))))))))))))))))))))),?_)
 clear hu;let(hA,U,kq):=h;have sl:(1000:Nat)<=sizeLine:=by decide
 show gP _ _ _ [some (.ref a),none,none,none,none,none,none,none,none,none,none,none,none,none,none,none,none,none,none,none] H;cbv;show(a,ns,0,rfl,hA,U,⋯,λc0=>?_);cbv;mpure
 cbv;generalize decide ((c0.fdiv 70).fmod 2=1)=b
 mframe;show(len0,?_);rename_i a2 c7 h6 H H1 S1 e1;cbv
 mframe;show(a,ns,0,rfl,hA.same S1,U,⋯,λc1=>?_);cbv;mpure
 have q1:=Mth.fm (x:=c1) (y:=10) ⋯;obtain⟨n,hn⟩:∃ n:Nat,1+c1.fmod 10=(n:Int):=⟨(1+c1.fmod 10).toNat,∅⟩;rw[hn];show(_,rfl,∅,∅,?_);show nh.byN (λi σ C=>∃(W:Option V)(px:List V)(ls:List PD),σ=[some (.ref a),some (.bl b),some (.ref a2),W,none,none,none,none,none,none,none,none,none,none,none,none,none,none,none,none]/\dC H C/\C a2=some (.lst px)/\fh (mV K C) ls px/\G81 ls/\ls.length=i) ⟨none,[],[],rfl,S1,e1,rfl, .nil,rfl⟩ ?_ ?_
 .intro i σ H2 hi z_ N0 M;let(W,px,ls,rfl,S2,e2,hP,hG,li):=z_;rw[gA]at hi;have lP:=hP.length;cbv;rw[Int.zero_add];show(.inl ⟨rfl,_,fI.of e2⟩,?_);show(a,ns,_,rfl,hA.same S2,U,∅,λc2=>?_);show(a,ns,_,rfl,hA.same S2,U,∅,λc3=>?_);show(c2,c3,i,b,rfl,∅,λv p j H3 S3 pv nm ji b7 fz fm m0 w1 w5 dz=>?_);cbv;have e3:=S3 _ _ e2;show(a2,px,_,rfl,rfl,e3,∅,?_);generalize u4:upd H3 a2 _=H4;cbv;have e4:=jg u4;have T4:dH H3 H4:=dH.put u4 e3 rfl;cbv;show M _ _ ⟨_,px++[v],ls++[p],rfl,λc u h=>by rw[<- u4,fF (iy h c7)];show S3 _ _ (S2 _ _ h),e4,(hP.mono (P':=mV K H4) λ_ _ z=>(z.sameT S3.t).sameT T4).append (.one (pv.sameT T4)),?_,by simp[li]⟩;rw[<- li]at nm ji b7;show .snoc hG nm ji b7 fz fm m0 w1 w5 dz
 .intro σ H2 z_;let(W,px,ls,rfl,S2,e2,hP,hG,li):=z_;rw[gA]at li;cbv;show(a,ns,0,rfl,hA.same S2,U,⋯,λc4=>?_);cbv;mpure
  show(a2,_,px,ls,rfl,fI.of e2,hP,∅,λpp py o H3 S3 e3 hK f9=>?_);let(pl,I):=hG.turn ∅ f9;rw[li]at I;have i4:=S2.trans S3;clear hP hG e2 f9
  mframe;rename_i sd f1 l0 H3 H4 S4 e4;cbv;have lK:=hK.length;have m8:=I.len;have g7:=I.n10
  mframe;show(pp,rfl,jj.byLN (xs:=py) ((fI.of e3).same S4) (λi σ C=>i<=py.length/\∃ v5:Option V,σ=[some (.ref a),some (.bl b),some (.ref pp),W,some (.ref sd),v5,none,none,none,none,none,none,none,none,none,none,none,none,none,none]/\dC H3 C/\pA K C i sd (o.take i) (wM o)) ⟨dG _,none,rfl,S4,[],e4,dh _,λp G=>by rw[gQ]at G;cases G⟩ (λi σ C q=>by let(_,_,_,S,_):=q;show(fI.of e3).same S) ?_ ?_)
  .rintro i y σ H5 hy ⟨hi,v5,rfl,S5,hD⟩ N0 M;have lj:=(aU.mp hy).1;let(p,G,a_,vz,vm,rfl,hq,hz,_):=hK.at_ hy;cbv;show iK (i:=3) (hq.same S5) rfl ?_;cbv;show iK (i:=0) (hq.same S5) rfl ?_;show Ba hD G (v:=vz) (by rw[A3 I.nd (aY G)];show fO.same S5 hz) ∅ λH6 o6 j8=>?_;cbv;show M _ _ ⟨lj,_,rfl,λc u h=>o6 c u (iy h f1) (S5 _ _ h),j8⟩
  .rintro σ H5 ⟨hi,v5,rfl,S5,hD⟩;rw[de ∅]at hD;have c8:=i4.trans S5
   mframe;show(len0,?_);rename_i gl f3 l8 H5 H6 S6 e6;cbv
   mframe;show(a,ns,0,rfl,hA.same (c8.trans S6),U,⋯,λc5=>?_);cbv;mpure
   have q7:=Mth.fm (x:=c5.fdiv 10) (y:=7) ⋯;let(m,hm):=iz q7.1;rw[hm]at q7 ⊢;show(_,rfl,∅,∅,?_);show nh.byN (λi σ C=>∃(W:Option V)(gx:List V)(J:List GD),σ=[some (.ref a),some (.bl b),some (.ref pp),W,some (.ref sd),v5,some (.ref gl),none,none,none,none,none,none,none,none,none,none,none,none,none]/\dC H5 C/\C gl=some (.lst gx)/\fh (λ(g:GD) v=>TV K C g.td v) J gx/\J.length=i/\∀(k:Nat) g,J[k]?=some g->ng k n pl g) ⟨W,[],[],rfl,S6,e6,rfl,rfl,λk g h=>by simp at h⟩ ?_ ?_
   .intro i σ H7 hi z_ N0 M;let(W,gx,J,rfl,S7,e7,hX,lg,a0):=z_;rw[gA]at hi;have lX:=hX.length;have a5:=c8.trans S7;have L:=S5.trans S7;cbv;rw[Int.zero_add];show(.inl ⟨rfl,_,fI.of e7⟩,?_);show(a,ns,_,rfl,hA.same a5,U,∅,λc6=>?_);show(c6,i,pp,sd,b,py,o,n,pl,_,wM o,rfl,∅,(fI.of e3).same L,hK.mono (λ_ _ z=>z.sameT L.t),I,∅,hD.same S7,λp G=>A3 I.nd G,λv g H8 S8 tv gg=>?_);cbv;have e8:=S8 _ _ e7;show(gl,gx,_,rfl,rfl,e8,∅,?_);generalize u9:upd H8 gl _=H9;cbv;have e9:=jg u9;have T9:dH H8 H9:=dH.put u9 e8 rfl;cbv;have j0:fh (λ(g:GD) v=>TV K H9 g.td v) J gx:=hX.mono λg v (z:TV K H7 g.td v)=>TV.sameT T9 (TV.sameT S8.t z);show M _ _ ⟨_,gx++[v],J++[g],rfl,λc u h=>by rw[<- u9,fF (iy h f3)];show S8 _ _ (S7 _ _ h),e9,j0.append (.one (TV.sameT T9 tv)),by simp[lg],λk g' h=>?_⟩;rcases sR h with h | ⟨h1,h2⟩
    .show a0 k g' h
    .rw[h1,h2,lg];show gg
   .intro σ H7 z_;let(W,gx,J,rfl,S7,e7,hX,lg,a0):=z_;rw[gA]at lg;have l6:J.length<=6:=by ac_nf
    have a5:=c8.trans S7;have L:=S5.trans S7;have d3:∀ g∈J, ∃ k,k<6/\ng k n pl g:=λg hg=>by
     let(k,hk):=dA hg;have:=(aU.mp hk).1;show(k,∅,a0 k g hk)
    mframe;intro Y dt b8 f4 n3;have Sm:dC H7 (upd (upd H7 dt (.own Y)) Y (.ins Ad.Thing dt [])):=λb u q=>by rw[fF (iy q b8),fF (iy q f4)];show q
    show(Y,dt,pp,gl,py,gx,o,J,H7,rfl,jo,b8,Sm,(fI.of e3).same L,hK.mono (λ_ _ z=>z.sameT L.t),fI.of e7,hX,∅,∅,I.ok,λg hg=>?_,I.nd,xm a0 l6,I.free,λg hg=>?_,λH8 S8 tk=>⟨rfl,?_⟩)
    .let(k,k6,gg):=d3 g hg;show gg.tok k6 g7
    .let(k,k6,gg):=d3 g hg;let(i,j,i1,j1,_,x1,x2):=gg.fc;rw[x1,x2];show I.cn i j i1 j1
    have hc:=I.shc a0 l6;have c9:∀ e∈J.map (λg=>(g,ny o g)),0<=vl (roomF pl e.1)/\FB 101 3 (roomF pl e.1):=λe he=>by
     let(g,hg,rfl):=di.mp he;let(k,k6,gg):=d3 g hg;have:=gg.room I.plb;show(this.2.1,this.1.mono ⋯ ⋯)
    have d7:(J.map λg=>(g,ny o g)).map (·.1)=J:=by rw[ie];show List.map_id _
    mframe;show(Y,o,J.map λg=>(g,ny o g),pl,rfl,by rw[d7];show tk,hc,λe he=>(c9 e he).1,λtl zs rs H9 S9 k7 e9 hZ hR=>?_);have d1:∀ p∈o,FB 100 6 p.mo:=λp G=>(I.val p G).2.1.mono ⋯ ⋯;let(f_,E_,O):=hR.told hc ∅ (by rw[bc];show l6) d1 λe he=>(c9 e he).2;have R:mH o rs (rH rs) E_:=mH.of O hR.len
    mframe;rename_i qd f0 l5 H9 HA SA eA;cbv
    mframe;show(len0,?_);rename_i ti a3 l3 HA HB SB eB;cbv;have Z:=S8.trans S9;have n4:=a5.trans (Z.trans (SA.trans SB));have j2:=L.trans (Z.trans (SA.trans SB));have lR:=hR.len;have lZ:=hZ.length
    mframe;show(_, .inl ((fI.of e3).same j2),?_);cbv;show(_,rfl,∅,∅,?_);show nh.byN (λi σ C=>∃(W a6 b0 b3 a9 b2 b4:Option V)(tx:List V),σ=[some (.ref a),some (.bl b),some (.ref pp),W,some (.ref sd),v5,some (.ref gl),some (.ref Y),some (.ref tl),some (.ref qd),some (.ref ti),a6,b0,b3,a9,b2,b4,none,none,none]/\dC H9 C/\pA K C i qd (o.take i) (rH rs)/\C ti=some (.lst tx)/\fh (λ(g:GD) v=>TV K C g.td v) ((nM o rs).take i) tx) ⟨W,none,none,none,none,none,none,[],rfl,SA.trans SB,⟨[],SB _ _ eA,dh _,λp G=>by rw[gQ]at G;cases G⟩,eB,rfl⟩ ?_ ?_
    .intro i σ HC hi z_ N0 M;let(W,a6,b0,b3,a9,b2,b4,tx,rfl,SC,hQ,eT,hT):=z_;rw[gA]at hi;have G:=aV (by ac_nf:i<o.length);have D:=aV (by ac_nf:i<rs.length);let(y,hy,a_,vz,vm,rfl,hb,j7,hm):=hK.get G;let(z,hz,pr,vs,tt,rfl,b1,a4,h9):=hZ.get D;have k4:(o.zip rs)[i]?=some (o[i],rs[i]):=fN.mpr ⟨G,D⟩;have pm:=aY G;generalize o[i]=p at *;generalize rs[i]=r at *;have g3:=R.row i p r G D;have pb:=(I.val p pm).1;have rb:=R.fb p pm;rw[<- g3]at rb;have f7:=L.trans (Z.trans SC);have lT:=hT.length;rw[eS]at lT;cbv;rw[Int.zero_add];show so (i:=i) ((fI.of e3).same f7) hy ?_;cbv;show(a_,_,rfl,hb.same f7,rfl,?_);cbv;show so (i:=i) ((fI.of e9).same SC) hz ?_;show iK (i:=1) (b1.same SC) rfl ?_;let(m9,j6,_):=id hQ;show Ba hQ G (v:=vs) (by rw[<- g3];show fO.same SC a4) ∅ λHD oD g6=>?_;have g8:dH HC HD:=dH.of_ne oD j6;have g2:ti≠qd:=λz=>by rw[z,eA]at a3;cases a3
     have N:dC H9 HD:=λc u h=>oD c u (iy h f0) (SC _ _ h);have j9:=L.trans (Z.trans N);have d5:=oD _ _ g2 eT;have fz:fO K HD vz p.sz.1 p.sz.2:=fO.same j9 j7;have fs:fO K HD vs r.sl.1 r.sl.2:=fO.same N a4;let(q_,rfl,e0):=id a4
     (try try mstop)
     (with_reducible first | show GT λ_ _=>?_ | show ro.go (by assumption) ?_)
     generalize eX:ub (nU K) (ub (nU K) (qW 8) (qW 3)) (tC (V.int 1))=X;have hX:∀(C:Hp)(Q':VK),dC H9 C->Q' (.ref q_) C->X [some (.ref a),some (.bl b),some (.ref pp),some (.int (i:Int)),some (.ref sd),v5,some (.ref gl),some (.ref Y),some (.ref tl),some (.ref qd),some (.ref ti),some (.str p.nm),some (.str p.st),some (.str p.en),some vz,some vm,some (.int p.wt),none,none,none] C Q':=by
      intro C Q' S' q;rw[<- eX]
      (try try mstop)
      show so (i:=i) ((fI.of e9).same S') hz ?_;show iK (i:=1) (b1.same S') rfl q
     clear eX;simp only[wj,Ah,vY,wu,List.getElem?_cons_zero,List.getElem?_cons_succ,wm,we,wa,wo,vZ,wb,wq,wg];cbv;show(.inl ⟨rfl,_,fI.of d5⟩,?_);show hX _ _ N ?_;cbv;show iK (i:=0) (e0.same N) rfl ?_;cbv;show hX _ _ N ?_;cbv;show iK (i:=1) (e0.same N) rfl ?_;cbv;show(len2,?_);rename_i nt m3 l4 HD HE SE eE;cbv;show(vz, .ref nt,p.sz,gf r.sl,rfl,fO.same SE fz,fO.of eE,pb.w.mono ⋯ ⋯,rb.neg.w.mono ⋯ ⋯,λm1 HF SF eF=>?_);cbv;show hX _ _ (N.trans (SE.trans SF)) ?_;cbv;show(vz, .ref q_,p.sz,r.sl,rfl,fO.same (SE.trans SF) fz,fO.same (SE.trans SF) fs,pb.w.mono ⋯ ⋯,rb.w.mono ⋯ ⋯,λm2 HG SG eG=>?_);cbv;show(uk,?_);rename_i tp k9 m4 HG HI SI eI;cbv;have a1:=SE.trans (SF.trans (SG.trans SI));show(ti,tx,_,rfl,rfl,a1 _ _ d5,∅,?_);generalize u6:upd HI ti _=HJ;cbv;have eJ:=jg u6;have TJ:dH HI HJ:=dH.put u6 (a1 _ _ d5) rfl;have i6:dH HC HJ:=g8.trans (a1.t.trans TJ);let(i7,k1,k2,k3):=g6;have e1:(nM o rs)[i]?=some (t9 p r):=by unfold nM;rw[bg,k4];rfl
     cbv;show M _ _ ⟨_,_,_,_,_,_,_,tx++[.ref tp],rfl,λc u h=>by rw[<- u6,fF (iy (SA _ _ h) a3)];show a1 _ _ (N _ _ h),⟨i7,by rw[<- u6,fF (gk g2)];show a1 _ _ k1,k2,λp G=>?_⟩,eJ,?_⟩
     .let(v,h4,h5):=k3 p G;show(v,h4,fO.sameT (a1.t.trans TJ) h5)
     rw[dX,e1];have i9:fh (λ(g:GD) v=>TV K HJ g.td v) ((nM o rs).take i) tx:=hT.mono λg v (z:TV K HC g.td v)=>TV.sameT i6 z;show i9.append (.one ⟨tp, .ref m1, .ref m2,rfl,gZ.of (TJ _ _ rfl eI),fO.of (TJ _ _ rfl (SI _ _ (SG _ _ eF))),fO.of (TJ _ _ rfl (SI _ _ eG))⟩)
    .intro σ HC z_;let(W,a6,b0,b3,a9,b2,b4,tx,rfl,SC,hQ,eT,hT):=z_;have m7:(nM o rs).length=o.length:=by unfold nM;rw[bc,kR];ac_nf
     rw[gA,de ∅]at hT;rw[gA,de ∅]at hQ
     mframe;have d2:=S9.trans SC;show(Y,o,J.map λg=>(g,ny o g),pl,rfl,by rw[d7];show tk.same d2,hc,λe he=>(c9 e he).1,λp G=>⟨(I.val p G).1.mono ⋯ ⋯,d1 p G⟩,λfl fx B HD SD _ eD hF f6=>?_);have eR:B=rs:=f6.uniq I.nd (λp G=>(I.ok p G).w) hR;subst eR;have g9:fh (λ(g:GD) v=>TV K HD g.td v) (nM o B) tx:=hT.mono λg v (z:TV K HC g.td v)=>TV.sameT SD.t z;have i3:depD (.lst ((nM o B).map λg:GD=>qV g.td))<=20:=by
      have:=yO (n:=10) (f:=λg:GD=>qV g.td) (λg=>by simp[qV,GD.td,bD,og,depD,depL]) (nM o B);simp only[depD];ac_nf
     cbv;show(.lst ((nM o B).map λg:GD=>qV g.td), .lst ((nM o B).map λg:GD=>qV g.td),?_,?_,∅,rfl,?_)
     .simp only[Rep];show(fl,fx,rfl,fI.of eD,hF.repL λ_ _ z=>TV.rep z)
     .simp only[Rep];show(ti,tx,rfl,fI.of (SD _ _ eT),g9.repL λ_ _ z=>TV.rep z)
     rw[vJ];clear hF eD i3 f6;cbv;have d8:=SD _ _ (SC _ _ e9);have g5:=hZ.mono (P':=qK K HD) λ_ _ z=>z.sameT (SC.trans SD).t;show(tl,rfl, .inl ⟨⟨_,fI.of d8⟩,jW.list (xs:=zs) (λj ys C=>C=HD/\fh (pS K HD) ((B.take j).map (·.sl)) ys) ⟨rfl,rfl⟩ (λj ys C hj z=>by
      let(rfl,hY):=z;have:=hY.length;rw[bc,eS]at this;show(fI.of d8,∅)) ?_ ?_⟩)
     .rintro j y ys C hy ⟨rfl,hY⟩;let(r,D,pr,vs,tt,rfl,b1,a4,h9):=g5.at_ hy;simpa only[dD,dQ,fV,dF,mw,dw,fP,fK];show iK (i:=1) b1 rfl ?_;rw[dX,D,dy];show(rfl,hY.append (.one a4))
     .rintro oy C ⟨rfl,hY⟩;rw[de ∅]at hY;have i0:B.map (·.sl)=o.map λp=>rH B p.nm:=iS λi=>by
       rw[bg,bg];by_cases c:i<o.length
       .have h1:=aV c;have h2:=aV (by ac_nf:i<B.length);rw[h1,h2];show congrArg some (R.row i _ _ h1 h2)
       .rw[eN ∅,eN ∅];rfl
      rw[i0]at hY;rename_i on k5 l7 C HE SE eE;cbv;have g4:=SD.trans SE;show(Y,on,o,J.map λg=>(g,ny o g),oy,o.map λp=>rH B p.nm,pl,E_,rfl,by rw[d7];show tk.same (d2.trans g4),fI.of eE,hY.mono (P':=pS K HE) (λ_ _ z=>z.sameT SE.t),bc _,∅,O.fea.fbs O.ctx,O.ctx.E1,O.ctx.sE,d1,hc,O.fea.shp O.ctx,λHF SF=>?_);cbv
      mframe;have d6:=g4.trans SF;intro bx db b6 f8 n6;have Sb:dC HF (upd (upd HF db (.own bx)) bx (.ins Ad.Book db [])):=λb u q=>by rw[fF (iy q b6),fF (iy q f8)];show q
      have h0:fh (TV K HF) ((nM o B).map (·.td)) tx:=hT.map λg _ v (z:TV K HC g.td v)=>TV.sameT d6.t z;have k0:(nms ((nM o B).map (·.td))).Nodup:=by
       have e:nms ((nM o B).map (·.td))=o.map (·.nm):=by
        unfold nms nM;rw[ie,ie];show(ie (l:=o.zip B) (f:=Prod.fst) (g:=λp:PD=>p.nm)).symm.trans (by rw[List.map_fst_zip ∅])
       rw[e];show I.nd
      show(bx,db,ti,tx,(nM o B).map (·.td),HF,rfl,jo,b6,Sb,fI.of (d6 _ _ eT),h0,(R.bk I).ok,k0,by rw[bc];ac_nf,λd HG SG m6 hB=>⟨rfl,?_⟩);have e5:=d6.trans SG;have i8:=SC.trans e5;have j5:=a5.trans (Z.trans i8)
      mframe;show .inl (.inl ⟨a,_,rfl,hA.same j5,?_⟩);let(cz,ez,lz):=Ge (cz:=ns) (lo:=some 27) (hi:=some 63);rw[ez];rename_i cl k8 l9 HG HI SI eI;cbv;have b9:=e5.trans SI;have j3:=SC.trans b9;have b5:=Z.trans j3;have d9:=L.trans b5;have lX:=hX.length;have h7:=(fI.of (K:=K) e7).same b5
      mframe;show(gl,rfl,jj.byLN (xs:=gx) h7 (λi σ C=>i<=gx.length/\∃ d0:Option V,σ=[some (.ref a),some (.bl b),some (.ref pp),W,some (.ref sd),v5,some (.ref gl),some (.ref Y),some (.ref tl),some (.ref qd),some (.ref ti),a6,b0,b3,a9,b2,b4,some (.ref bx),some (.ref cl),d0]/\dC HI C) ⟨dG _,none,rfl,dC.refl _⟩ (λi σ C q=>by let(_,_,_,S):=q;show h7.same S) ?_ ?_)
      .rintro i y σ HJ hy ⟨hi,d0,rfl,SJ⟩ N0 M;have lj:=(aU.mp hy).1;let(g,hg,tv):=hX.at_ hy;have gg:=a0 i g hg;have a7:=b5.trans SJ;have a8:=d9.trans SJ;cbv;show(bx,d,pp,sd,qd,cl,y,(nM o B).map (·.td),_,py,o,n,i,pl,rH B,g,E_,_,_,wM o,cz,rfl,hB.same (SI.trans SJ),R.bk I,R.tis I,λq hq=>⟨_,R.has hq,rfl,rfl⟩,(fI.of e3).same a8,hK.mono (λ_ _ z=>z.sameT a8.t),I,∅,TV.sameT a7.t tv,gg,hD.same (S7.trans a7),λq hq=>A3 I.nd hq,hQ.same (b9.trans SJ),R.ke O I (aY hg) gg,fI.of (SJ _ _ eI),∅,λHL SL=>?_);cbv;show M _ _ ⟨lj,_,rfl,SJ.trans SL⟩
      .rintro σ HJ ⟨hi,d0,rfl,SJ⟩;have a7:=b5.trans SJ;have a8:=d9.trans SJ;have d4:=d2.trans (b9.trans SJ);let(xd,n7,n5,n0,n1,m5,n2,f2,_):=id tk
       mframe;show(Y,_,xd,_,rfl,d4 _ _ f2,rfl,rfl,Y,o,J,rfl,tk.same d4,∅,λl1 y1 HL SL _ eL hY=>?_);have g0:=a8.trans SL;have j4:fh (mV K HL) o py:=hK.mono λp v z=>z.sameT g0.t;cbv;show(.lst (o.map vk), .lst (o.map vk),?_,?_,?_,rfl,?_)
       .simp only[Rep];show(l1,y1,rfl,fI.of eL,hY.repL λ_ _ z=>z.rep)
       .simp only[Rep];show(pp,py,rfl,fI.of (g0 _ _ e3),j4.repL λ_ _ z=>z.rep)
       .have:=yO (n:=10) (f:=vk) (λa=>by simp[vk,og,depD,depL]) o;simp only[depD];ac_nf
       rw[vJ];cbv;have f5:=d4.trans SL;show(Y,_,xd,_,rfl,f5 _ _ f2,rfl,rfl,Y,o,J,rfl,tk.same f5,∅,λl2 y2 HM SM _ eM h3=>?_);have g1:=a7.trans (SL.trans SM);have i2:fh (λ(g:GD) v=>TV K HM g.td v) J gx:=hX.mono λg v (z:TV K H7 g.td v)=>TV.sameT g1.t z;cbv;show(.lst (J.map λg=>qV g.td), .lst (J.map λg=>qV g.td),?_,?_,?_,rfl,?_)
       .simp only[Rep];show(l2,y2,rfl,fI.of eM,h3.repL λ_ _ z=>TV.rep z)
       .simp only[Rep];show(gl,gx,rfl,fI.of (g1 _ _ e7),i2.repL λ_ _ z=>TV.rep z)
       .have:=yO (n:=10) (f:=λg:GD=>qV g.td) (λg=>by simp[qV,GD.td,bD,og,depD,depL]) J;simp only[depD];ac_nf
       rw[vJ];cbv;show kq _
end
theorem xc{α}{P:List α->Prop}(h:∀ a,P [a]):∀ us:List α,us.length=1->P us|[a],_=>h a
theorem xa{α}{P:List α->Prop}(h:∀ a b,P [a,b]):∀ us:List α,us.length=2->P us|[a,b],_=>h a b
theorem w8{α}{P:List α->Prop}(h:∀ a b c,P [a,b,c]):∀ us:List α,us.length=3->P us|[a,b,c],_=>h a b c
theorem w7{α}{P:List α->Prop}(h:∀ a b c d,P [a,b,c,d]):∀ us:List α,us.length=4->P us|[a,b,c,d],_=>h a b c d
theorem w6{α}{P:List α->Prop}(h:∀ a b c d e,P [a,b,c,d,e]):∀ us:List α,us.length=5->P us|[a,b,c,d,e],_=>h a b c d e
theorem w4{α}{P:List α->Prop}(h:∀ a b c d e f,P [a,b,c,d,e,f]):∀ us:List α,us.length=6->P us|[a,b,c,d,e,f],_=>h a b c d e f
def xY(K:aW)(f:Addr)(n q:Str)(s:Stmt)(d:aX):Prop:=∃ fd,mX K n q s d f fd/\jm K (.ref f)=true
def CH(K:aW)(f:Addr)(n:Str)(s:Stmt):Prop:=∃ fd,mX K n n s .none f fd/\jm K (.ref f)=true/\W.nsIn K gi n=some (some (.ref f))
def CG(K:aW)(C f:Addr)(n q:Str)(s:Stmt):Prop:=xY K f n q s .none/\jn K (.ref C) n=some (some (.ref f))/\W.isFn K (.ref f)=true
variable{x:Str}{st:Stmt}{oc dc pm cd ct:aX}{od an:Option Addr}
theorem fnG{K:aW}{f:Addr}{q:Str}{d:aX}{kV:aX}{sl:Array (Option aX)}(l:K.lookup f=some ⟨oc,od, .func (ky x q (qk st) (pQ st) (iC st) d kV dc pm an cd ct),sl⟩)(c:W.codeIn K cd q=true)(k:jm K (.ref f)=true):xY K f x q st d:=⟨_,CC l c k,k⟩
theorem fnA{K:aW}{f:Addr}{kV:aX}{sl:Array (Option aX)}(a:W.nsIn K gi x=some (some (.ref f)))(l:K.lookup f=some ⟨oc,od, .func (ky x x (qk st) (pQ st) (iC st) .none kV dc pm an cd ct),sl⟩)(c:W.codeIn K cd x=true)(k:jm K (.ref f)=true):CH K f x st:=⟨_,CC l c k,k,a⟩
theorem fnM{K:aW}{C f:Addr}{q:Str}(a:jn K (.ref C) x=some (some (.ref f)))(i:W.isFn K (.ref f)=true)(h:xY K f x q st .none):CG K C f x q st:=⟨h,a,i⟩
local macro_rules|`($f:ident∘$n:str)=>`(W.nsIn $(Lean.mkIdent `K) gi $n=some (some (.ref $f)))|`($i:num∘$n:str∘$t:ident)=>`(CH $(Lean.mkIdent `K) $(Lean.mkIdent (.mkSimple s!"f{i.getNat}")) $n $t)|`($i:num∘$n:str∘$q:str∘$t:ident)=>`(xY $(Lean.mkIdent `K) $(Lean.mkIdent (.mkSimple s!"f{i.getNat}")) $n $q $t .none)
local macro_rules|`($c:ident∣$n:str)=>`(W.codeIn $(Lean.mkIdent `K) $c $n=true)
local macro_rules|`(-$f)=>`(jm $(Lean.mkIdent `K) (.ref $f)=true)
local macro_rules|`($f:ident/$n:str)=>`(jn $(Lean.mkIdent `K) (.ref $f) $n=some none)|`($f:ident/$n:str/$g:ident)=>`(jn $(Lean.mkIdent `K) (.ref $f) $n=some (some (.ref $g)))
local macro_rules|`(!$f:ident)=>`(mX.binds $f (by bv_omega))
local macro_rules|`(tactic|bv_omega)=>`(tactic|first|exact fun _ _ _ _ _ _=>xc fun _=>rfl|exact fun _ _ _ _ _ _=>xa fun _ _=>rfl|exact fun _ _ _ _ _ _=>w8 fun _ _ _=>rfl|exact fun _ _ _ _ _ _=>w7 fun _ _ _ _=>rfl|exact fun _ _ _ _ _ _=>w6 fun _ _ _ _ _=>rfl|exact fun _ _ _ _ _ _=>w4 fun _ _ _ _ _ _=>rfl)
local macro_rules|`($n:str∘0)=>`(W.nsIn $(Lean.mkIdent `K) gi $n=some none)|`($c:ident∘$d:ident∘0)=>`(W.kitOne $(Lean.mkIdent `K) (.ref $c) (.ref $d)=some false)|`($c:ident∘$d:ident∘1)=>`(W.kitOne $(Lean.mkIdent `K) (.ref $c) (.ref $d)=some true)|`($c:ident∘$d:ident∘2)=>`(W.mroIn $(Lean.mkIdent `K) $c (.ref $d)=some true)|`($c:ident∘$d:str∘2)=>`(W.mroIn $(Lean.mkIdent `K) $c (.type $d)=some true)|`($c:ident∘0)=>`(W.isFn $(Lean.mkIdent `K) (.ref $c)=true)|`($c:ident∘1)=>`(W.hasDictIn $(Lean.mkIdent `K) $c=true)|`($c:ident∘2)=>`(W.excIn $(Lean.mkIdent `K) $c [.type "ValueError",.type "Exception",.type "BaseException",.type "object"] "ValueError.__new__"=true)|`($c:ident∘$n:str∘$b:str)=>`(jn $(Lean.mkIdent `K) (.ref $c) $n=some (some (.builtin $b)))|`($c:ident∘$i:num∘$n:str∘$q:str∘$t:ident)=>`(CG $(Lean.mkIdent `K) $c $(Lean.mkIdent (.mkSimple s!"f{i.getNat}")) $n $q $t)|`(!$l:ident*$g)=>`($(Lean.mkIdent `cC) $l $g (by bv_omega))
theorem all_mk{l:W.OpenLaw}{w:fA}{K:aW}{h:Heap}{mg:Str->Option aX}{fa:Addr}{Tie Just Between Part Gap Joints Thing Scale Lid Step Book f1 f2 f3 f4 f5 f6 f7 f8 f9 f10 f11 f12 f13 f14 f15 f16 f17 f18 f19 f20 f21 f22 f23 f24 f25 f26 f27 f28 f29 f30 f31 f32 f33 f34 f35 f36 f37 f38 f39 f40 f41 f42 f43 f44 f45 f46 f47 f48 f49 f50 f51 f52 f53 f54 f55 f56 f57 f58 f59 f60 f61 f62 f63 f64 f65 f66 f67 f68 f69 f70 f71 f72 f73 f74 f75 f76 f77 f78 f79 f80 f81 ZERO:Addr}{od81 an81:Option Addr}{sl81:Array (Option aX)}{oc81 kV81 dc81 pm81 cd81 ct81:aX}{Baa:Tok}{Bab:Tok}{Bei:Option Addr}{Bej:Nat}{Bek:Array (Option aX)}{Bee Bef:Tok}(X:K.In h)(G:h.Ns gi mg)(hfa:mg "law"=some (.ref fa))
 (aa:Tie∘"Tie") (ab:Just∘"Just") (ac:Between∘"Between") (ad:Part∘"Part") (ae:Gap∘"Gap") (af:Joints∘"Joints") (ag:Thing∘"Thing") (ah:Scale∘"Scale") (ai:Lid∘"Lid") (aj:Step∘"Step") (ak:Book∘"Book") (l1:1∘"common_divisor"∘Dy) (l2:2∘"plus"∘CK) (l3:3∘"minus"∘CN) (l4:4∘"times"∘CM) (l5:5∘"over"∘CJ) (l6:6∘"under"∘CL) (l7:7∘"is_name"∘Dl) (l8:8∘"is_whole"∘C7) (l9:9∘"is_fraction"∘DR) (l10:10∘"is_bound"∘C6) (l11:11∘"are_faces"∘Df) (l12:12∘"are_bounds"∘DI) (l13:13∘"is_tie"∘CS) (a14:Part/"__init__"/f14) (l14:14∘"__init__"∘"Part.__init__"∘Ds) (l15:Part∘15∘"plain"∘"Part.plain"∘DH) (a16:Gap/"__init__"/f16) (l16:16∘"__init__"∘"Gap.__init__"∘Do) (l17:Gap∘17∘"plain"∘"Gap.plain"∘De) (l18:18∘"is_part"∘Dk) (l19:19∘"is_gap"∘CQ) (l20:20∘"part_of"∘Dj) (l21:21∘"gap_of"∘CP) (a22:Joints/"__init__"/f22) (l22:22∘"__init__"∘"Joints.__init__"∘DA) (l23:Joints∘23∘"link"∘"Joints.link"∘DQ) (l24:Joints∘24∘"way_between"∘"Joints.way_between"∘DC) (a25:Thing/"__init__"/f25) (l25:25∘"__init__"∘"Thing.__init__"∘Dx) (l26:Thing∘26∘"parts"∘"Thing.parts"∘DP) (l27:Thing∘27∘"gaps"∘"Thing.gaps"∘DG) (l28:Thing∘28∘"way"∘"Thing.way"∘Dd) (l29:Thing∘29∘"middle"∘"Thing.middle"∘Dm) (l30:Thing∘30∘"room"∘"Thing.room"∘DF) (a31:Scale/"__init__"/f31) (l31:31∘"__init__"∘"Scale.__init__"∘Dw) (l32:Scale∘32∘"lifted"∘"Scale.lifted"∘DX) (l33:Scale∘33∘"lowered"∘"Scale.lowered"∘Dr) (l34:34∘"scale_of"∘C5) (l35:35∘"part_names"∘DE) (a36:Lid/"__init__"/f36) (l36:36∘"__init__"∘"Lid.__init__"∘DW) (l37:Lid∘37∘"full_level"∘"Lid.full_level"∘Du) (l38:Lid∘38∘"settle"∘"Lid.settle"∘DD) (l39:Lid∘39∘"has_stopped"∘"Lid.has_stopped"∘Dz) (l40:40∘"lids_of"∘Di) (l41:41∘"most_levels"∘DO) (l42:42∘"coming_stops"∘DU) (l43:43∘"first_level"∘DN) (l44:44∘"stopped_at"∘D8) (l45:45∘"risen_levels"∘DT) (l46:46∘"gap_stop"∘C4) (l47:47∘"share"∘CT) (l48:48∘"fits"∘CI) (l49:49∘"is_sharing"∘D7) (l50:50∘"share_ties"∘D6) (a51:Tie/"__init__"/f51) (l51:51∘"__init__"∘"Tie.__init__"∘DS) (l52:52∘"tie_of"∘CO) (a53:Tie/"steps"/f53) (l53:53∘"steps"∘"Tie.steps"∘Dc) (a54:Step/"__init__"/f54) (l54:54∘"__init__"∘"Step.__init__"∘Dq) (l55:55∘"steps_of"∘C3) (l56:56∘"last_steps"∘D5) (l57:57∘"chains_from"∘DM) (l58:58∘"faces_of"∘C2) (a59:Book/"kept"/f59) (l59:59∘"kept"∘"Book.kept"∘Da) (a60:Book/"faces"/f60) (l60:60∘"faces"∘"Book.faces"∘D4) (a61:Book/"__init__"/f61) (l61:61∘"__init__"∘"Book.__init__"∘Dp) (l62:62∘"places_of"∘C9) (l63:63∘"gap_between"∘DL) (a64:Book/"check_faces"/f64) (l64:64∘"check_faces"∘"Book.check_faces"∘DB) (a65:Book/"chains_of"/f65) (l65:65∘"chains_of"∘"Book.chains_of"∘Dt) (a66:Book/"gap"/f66) (l66:66∘"gap"∘"Book.gap"∘C1) (l67:67∘"_law_cell_at"∘DK) (l68:68∘"_law_divisor"∘DJ) (l69:69∘"_law_lowest"∘D3) (l70:70∘"_law_plus"∘C0) (l71:71∘"_law_times"∘C8) (l72:72∘"_law_less"∘CZ) (l73:73∘"_law_part"∘CY) (l74:74∘"_law_turned"∘D2) (l75:75∘"_law_middle"∘DZ) (l76:76∘"_law_slacks"∘DY) (l77:77∘"_law_made"∘CW) (l78:78∘"_law_way"∘Dh) (l79:79∘"_law_gap"∘Dg) (l80:80∘"_law_kept"∘CU) (a81:f81∘"law") (l81:K.lookup f81=some ⟨oc81,od81, .func (ky "law" "law" (qk t6) (pQ t6) (iC t6) .none kV81 dc81 pm81 an81 cd81 ct81),sl81⟩) (c81:cd81∣"law") (k81:-f81) (al:"abs"∘0) (am:"isinstance"∘0) (an:"len"∘0) (ao:"int"∘0) (ap:"bool"∘0) (aq:"tuple"∘0) (ar:"str"∘0) (au:"range"∘0) (av:"list"∘0) (aw:"min"∘0) (ax:"sorted"∘0) (ay:"all"∘0) (az:"sum"∘0) (aA:"dict"∘0) (aB:"zip"∘0) (aC:"reversed"∘0) (aD:"set"∘0) (aE:W.nsIn K gi "SMALL_LETTERS"=some (some (.str "abcdefghijklmnopqrstuvwxyz" Baa))) (aF:W.nsIn K gi "LONGEST_NAME"=some (some (.int 8 Bab))) (aG:ZERO∘"ZERO") (aH:K.lookup ZERO=some ⟨.type "tuple",Bei, .seq #[.int 0 Bee, .int 1 Bef] Bej,Bek⟩) (aI:Mk K Just f51) (aJ:Just/"steps"/f53) (aK:Mk K Between f51) (aL:Between/"steps"/f53) (aM:f53∘0) (aN:Mk K Part f14) (aO:Mk K Gap f16) (aP:Mk K Joints f22) (aQ:Mk K Thing f25) (aR:Mk K Scale f31) (aS:Mk K Lid f36) (aT:Mk K Step f54) (bh:Mk K Book f61) (bi:f59∘0) (bj:f60∘0) (bk:f64∘0) (bl:f65∘0) (bm:f66∘0) (bn:TieC K Just) (bo:TieC K Between) (bp:PartC K Part) (bq:GapC K Gap) (br:E6 K Joints) (bs:Ej K Thing) (bt:Ek K Scale) (bu:LidC K Lid) (bv:StepC K Step) (bw:BookC K Book)
  : ∃ fd:ip,(∀(s:da)(v:aX),BindsTo s fd ⟨[v],[]⟩ [("_law_script",v)])/\∀ base:Heap,K.In base->base.Ns gi mg->mr l.prog w K mg base (ou l.prog w) 12 fa fd ["_law_script"] (zj K):=by
 have e:=hfa.symm.trans (W.mg_of X G a81);cases e;have o:∀{x:Str}{v:aX},W.nsIn K gi x=some (some v)->mg x=some v:=λh=>W.mg_of X G h;have n:∀{x:Str},W.nsIn K gi x=some none->mg x=none:=λh=>W.mg_none_of X G h;have T:Txt K mg ⟨Tie,Just,Between,Part,Gap,Joints,Thing,Scale,Lid,Step,Book,(.str "abcdefghijklmnopqrstuvwxyz" Baa),(.int 8 Bab),ZERO⟩:=⟨n al,n am,n an,n ao,n ap,n aq,n ar,n au,n av,n aw,n ax,n ay,n az,n aA,n aB,n aC,n aD,o aa,o ab,o ac,o ad,o ae,o af,o ag,o ah,o ai,o aj,o ak,o aE,⟨_,rfl⟩,o aF,⟨_,rfl⟩,o aG,rfl,λH=>.inr ⟨_,_,_,aH,rfl,rfl,by show 2<=sizeLine;decide, .cons ⟨_,rfl⟩ (.cons ⟨_,rfl⟩ (.nil))⟩,(λC hC=>by rcases hC with rfl | rfl<;>assumption),(λC hC=>by cases hC;show bp),(λC hC=>by cases hC;show bq),(λC hC=>by cases hC;show br),(λC hC=>by cases hC;show bs),(λC hC=>by cases hC;show bt),(λC hC=>by cases hC;show bu),(λC hC=>by cases hC;show bv),(λC hC=>by cases hC;show bw)⟩;let(_,F53,k53):=l53;let(_,F59,k59):=l59;let(_,F60,k60):=l60;let(_,F64,k64):=l64;let(_,F65,k65):=l65;let(_,F66,k66):=l66;have F81:=CC l81 c81 k81;show(ky "law" "law" (qk t6) (pQ t6) (iC t6) .none kV81 dc81 pm81 an81 cd81 ct81,λs v=>.of_eq rfl,λbase _ _=>?_);have cM:∀{ps:List Str}{sp:Sp}{fd:ip}{k:Nat}{m:Str}{Cs:Addr->Prop}{f:Addr},mr l.prog w K mg base (ou l.prog w) k f fd ps sp->(∀ C,Cs C->Cls K C/\uz K C m f)->jm K (.ref f)=true->Binds K fd ps []->oY l.prog w K mg base k m Cs ps sp:=λh a c b=>⟨_,_,h,a,c,b⟩;have cC:∀{ps:List Str}{sp:Sp}{k:Nat}{x:Str}{f:Addr}{st:Stmt},CH K f x st->(∀{fd:ip},mX K x x st .none f fd->mr l.prog w K mg base (ou l.prog w) k f fd ps sp)->(∀(kV dc pm:aX)(an:Option Addr)(cd ct:aX)(us:List aX),us.length=ps.length->bindArgs (ky x x (qk st) (pQ st) (iC st) .none kV dc pm an cd ct) ⟨us,[]⟩=pure (ps.zip us))->zi l.prog w K mg base k x ps [] sp:=λ⟨_,F,c,a⟩ g b=>⟨_,_,[],g F,o a,c,F.binds b, .nil⟩;have cK:∀{ps:List Str}{sp:Sp}{k:Nat}{x y q:Str}{f C:Addr}{st:Stmt},xY K f x q st .none->(∀{fd:ip},mX K x q st .none f fd->mr l.prog w K mg base (ou l.prog w) k f fd ps sp)->W.nsIn K gi y=some (some (.ref C))->Mk K C f->(∀(kV dc pm:aX)(an:Option Addr)(cd ct:aX)(us:List aX),us.length=ps.length->bindArgs (ky x q (qk st) (pQ st) (iC st) .none kV dc pm an cd ct) ⟨us,[]⟩=pure (ps.zip us))->mJ l.prog w K mg base k y C ps sp:=λ⟨_,F,_⟩ g a c b=>⟨_,_,g F,o a,c,F.binds b⟩;have c':∀{ps:List Str}{sp:Sp}{k:Nat}{x q:Str}{f C:Addr}{st:Stmt},CG K C f x q st->(∀{fd:ip},mX K x q st .none f fd->mr l.prog w K mg base (ou l.prog w) k f fd ps sp)->Cls K C->(∀(kV dc pm:aX)(an:Option Addr)(cd ct:aX)(us:List aX),us.length=ps.length->bindArgs (ky x q (qk st) (pQ st) (iC st) .none kV dc pm an cd ct) ⟨us,[]⟩=pure (ps.zip us))->oY l.prog w K mg base k x (·=C) ps sp:=λ⟨⟨_,F,c⟩,a,i⟩ g d b=>⟨_,_,g F,(λD e=>by cases e;show(d,a,i,c)),c,F.binds b⟩;have cB:∀{ps:List Str}{sp:Sp}{fd:ip}{k:Nat}{m:Str}{f:Addr},mr l.prog w K mg base (ou l.prog w) k f fd ps sp->jn K (.ref Book) m=some (some (.ref f))->W.isFn K (.ref f)=true->jm K (.ref f)=true->Binds K fd ps []->oY l.prog w K mg base k m (sT _) ps sp:=λh a c d b=>⟨_,_,h,λC hC=>⟨(T.book C hC).cls,by cases hC;show(a,c,d)⟩,d,b⟩;have bx:=!l1*(OT · T);have bz:=!l2*(Lm · T bx);have bA:=!l3*(LW · T bz);have bB:=!l4*(Ms · T bx);have bC:=!l5*(Ku · T bB);have bD:=!l6*(Mr · T);have bE:=!l7*(MX · T);have bF:=!l8*(NK · T);have bG:=!l9*(OC · T bF bx);have bH:=!l10*(NL · T bG);have bI:=!l11*(Of · T bE);have bJ:=!l12*(Oa · T bH bD);have bK:=!l13*(MF · T bE bI bJ);have bL:=cK l14 (OQ · T) ad aN (by bv_omega);have bM:=c' l15 (Od · T) bp.cls (by bv_omega);have bN:=cK l16 (Pc · T) ae aO (by bv_omega);have bO:=c' l17 (Oi · T) bq.cls (by bv_omega);have bP:=!l18*(MW · T bE bI bG bF bD);have bQ:=!l19*(MG · T bK);have bR:=!l20*(Nk · T bP bL);have bS:=!l21*(MH · T bQ bN);have bT:=cK l22 (Pf · T) af aP (by bv_omega);have bU:=c' l23 (OH · T) br.cls (by bv_omega);have bV:=c' l24 (Pd · T) br.cls (by bv_omega);have bW:=cK l25 (OU · T bT bR bS bV bU) ag aQ (by bv_omega);have bX:=c' l26 (OG · T bM) bs.cls (by bv_omega);have bY:=c' l27 (Oc · T bO) bs.cls (by bv_omega);have bZ:=c' l28 (Oh · T) bs.cls (by bv_omega);have b0:=c' l29 (O9 · T bZ bz bA) bs.cls (by bv_omega);have ca:=c' l30 (Ob · T b0 bA bD) bs.cls (by bv_omega);have cb:=cK l31 (OW · T bx) ah aR (by bv_omega);have cc:=c' l32 (Pa · T bx) bt.cls (by bv_omega);have cd:=c' l33 (O6 · T bx) bt.cls (by bv_omega);have ce:=!l34*(ND · T bX bY cb);have cf:=!l35*(NZ · T bZ);have cg:=cK l36 (Pb · T) ai aS (by bv_omega);have ch:=c' l37 (OX · T bC) bu.cls (by bv_omega);have ci:=c' l38 (OO · T bA bB) bu.cls (by bv_omega);have cj:=c' l39 (Pe · T) bu.cls (by bv_omega);have ck:=!l40*(Nl · T bX bY ca bD cf cg cc);have cl:=!l41*(Oz · T bX cc bC);have cm:=!l42*(O8 · T ch);have cn:=!l43*(OE · T bD);have co:=!l44*(NX · T);have cp:=!l45*(O7 · T cm cn co ci);have cq:=!l46*(NM · T cj);have cr:=!l47*(LV · T ce ck cl cp bX cd bB cq);have cs:=!l48*(Kv · T bz bD);have ct:=!l49*(N9 · T ce bX bY bD cc cf cs ca);have cu:=!l50*(NY · T cr bX bA bz);have cv:=cK l51 (Hg · T) ab aI (by bv_omega);have cw:=cK l51 (Hg · T) ac aK (by bv_omega);have cx:=!l52*(ME · T bK cv cw);have cy:=cM (m:="steps") (Cs:=pe _) (Og F53 T bA) (λC hC=>⟨(T.tie C hC).cls,(by rcases hC with rfl | rfl <;> first | show(aJ,aM,k53) | show(aL,aM,k53))⟩) k53 (!F53);have cz:=cK l54 (O5 · T cc) aj aT (by bv_omega);have cA:=!l55*(NC · T cy cb cz);have cD:=!l56*(N8 · T);have cE:=!l57*(OF · T cD bz);have cF:=!l58*(NN · T);have cG:=cB (Oj F59 T) a59 bi k59 (!F59);have cH:=cB (OP F60 T cG cF) a60 bj k60 (!F60);have cI:=cK l61 (OR · T cx) ak bh (by bv_omega);have cJ:=!l62*(Ow · T cE);have cL:=!l63*(OD · T bA);have cN:=cB (Pg F64 T cH) a64 bk k64 (!F64);have cO:=cB (OY F65 T cG cH cA cJ cE) a65 bl k65 (!F65);have cP:=cB (Nn F66 T cN cO cL) a66 bm k66 (!F66);have cQ:=!l67*(OB · T);have cR:=!l68*(OA · T);have cS:=!l69*(N7 · T cR);have cT:=!l70*(NF · T cS);have cU:=!l71*(Oe · T cS);have cV:=!l72*(NI · T);have cW:=!l73*(NG · T cS);have cX:=!l74*(N4 · T);have cY:=!l75*(N6 · T cT);have cZ:=!l76*(N5 · T cT);have c0:=!l77*(NH · T cT cU);have c1:=!l78*(Nm · T);have c2:=!l79*(MV · T c1 cY cT);have c3:=!l80*(NJ · T cP c1 cY cZ cT cV c0);show JJ F81 T cQ cW cX c2 bW cr cT cu ct cI c3 bX bY
theorem walk{l:PySem.W.OpenLaw}{q:fH}{loose:List Str}{XP:(Str->Option aX)->Heap->Prop}{YP:fA->Heap->Prop}{d:DefRec}{K:Params->PySem.W.Frag}(hn:l.most=some 63)(hdf:d.params.defaults=[])
  (hY:∀(w:fA)(h:Heap),YP w h->(K w.params).In h)
  (F:∀(w:fA)(mg:Str->Option aX)(fa:Addr)(h:Heap),(K w.params).In h->h.Ns gi mg->mg d.name=some (.ref fa) ->
   ∃ fd:ip,(∀(s:da)(u:aX),BindsTo s fd ⟨[u],[]⟩ [("_law_script",u)])/\∀ base:Heap,(K w.params).In base->base.Ns gi mg->mr l.prog w (K w.params) mg base (ou l.prog w) 12 fa fd ["_law_script"] (zj (K w.params))) :
  PySem.W.WalkO q loose XP YP l.row.toRowW d [] (λf vs=>PySem.call f vs) :=
 L2.Pz (n:=63) (k:=12) (x:="_law_script") (CX:=λw=>ou l.prog w) (sp:=λw=>zj (K w.params)) hn ⋯ hdf ⟨rfl,⋯,⋯⟩ hY F (λ_ _ a ns hl _ hS=>⟨a,ns,rfl,hS,hl,λ_=>rfl⟩) λ_ _ _ _ _ z=>by
  let(_,_,_,_,_,_,_,_,_,_,_,_,z):=z;show z
end Prg
open PySem PySem.W PyProof.Rows
set_option maxRecDepth 100000 in
set_option maxHeartbeats 0 in
theorem PySem.Challenge.cw_slackchain_k81_whole_made_within_shares_holds : PySem.Challenge.rw_slackchain_k81_whole_made_within_shares.Holds := by
 refine HDk ?_
 k_fill
 refine Prg.walk (l:=PySem.Challenge.rw_slackchain_k81_whole_made_within_shares) rfl rfl (fun w h Y=>PySem.W.kIn_of Y) ?F;case F=>
  intro w mg fa h KX G hmg;refine' Prg.all_mk KX G hmg ..;all_goals try repeat' first|with_reducible refine' Prg.fnM ..|with_reducible refine' Prg.fnA ..|with_reducible refine' Prg.fnG ..|with_reducible apply Prg.TieC.mk|with_reducible apply Prg.PartC.mk|with_reducible apply Prg.GapC.mk|with_reducible apply Prg.E6.mk|with_reducible apply Prg.Ej.mk|with_reducible apply Prg.Ek.mk|with_reducible apply Prg.LidC.mk|with_reducible apply Prg.StepC.mk|with_reducible apply Prg.BookC.mk|with_reducible apply L2.Cls.mk|with_reducible apply L2.Mk.mk|k_is|k_exc|(show _=_;k_is)|kit_is|kernel_rfl
