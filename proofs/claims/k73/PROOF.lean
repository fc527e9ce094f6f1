import PyProof.Rows.All
import Wide.FinOn
import KE.KIntText
import KE.KDictList
import KE.KDictOf
import KE.KRevIter
import KE.RegKIsAll
import Open.Fors
import KE.KItem
import KE.KTabLook
import PySem.Challenge.RW_slackchain_k73_rows_refused_at_the_desk
set_option Elab.async false
set_option linter.all false
set_option maxRecDepth 100000
local macro_rules|`(command|universe $x)=>do return Lean.mkNullNode (<-(((List.range 1305).map (fun i=>s!"o_{i+43}")++"sts_1236 sts_952 sts_214 sts_131 view_39 tree_368 tree_316 tree_618 tree_826 tree_461 sts_169 tree_1347 sts_1063 sts_619 tree_168 tree_183 tree_491 sts_507 sts_982 sts_101 tree_1025 env_41 tree_213 sts_49 sts_146 tree_228 tree_145 heap_46 tree_476 tree_634 tree_506 tree_745 sts_418 tree_70 sts_116 sts_71 tree_251 sts_184 sts_86 sts_830 sts_886 sts_229 tree_1184 tree_885 sts_635 tree_521 tree_47 sts_369 tree_1116 tree_100 sts_1026 sts_317 sts_1117 heap_39 tree_417 tree_266 tree_1233 sts_570 tree_1062 sts_199 tree_951 sts_522 sts_462 sts_492 tree_115 sts_267 sts_252 tree_1289 heap_1348 tree_130 sts_477 tree_569 sts_1290 tree_85 tree_198 tree_981 sts_1185".splitOn " ").map ((`HDk).str ·)++[`PySem.Challenge.pw_slackchain_k73_rows_refused_at_the_desk]).toArray.mapM fun x=>`(command|theorem $(Lean.mkIdent (.str `PySem.W.Fast s!"tw{x.hash}")):ident:True:=⟨⟩))
universe x
set_option maxHeartbeats 0 in
open_top HDk for PySem.Challenge.rw_slackchain_k73_rows_refused_at_the_desk
set_option maxHeartbeats 4000000

open Nat renaming eq_of_beq_eq_true→bN,beq→cj,le_of_ble_eq_true→cm,ne_of_lt→cq,le_refl→cB,lt_of_lt_of_le→gv,le_trans→g0,ne_of_gt→hB,lt_irrefl→il,ble→iO,lt_succ_self→jI,le_add_right→jJ,zero_le→kM,lt_succ_of_lt→lN,le_succ→mm,le_of_eq→mJ,blt→mK
open PySem renaming wpAny_bind→bO,Value→bV,Shared→b8,wpAny→gu,wpAny_pure→gw,model→gx,starEach→gy,bootBuiltins→gI,wpAny_mono→gJ,Program→gN,mainGlobals→hW,compareOp→ib,wpAny_Call_Name_kw→ic,World→ik,wpAny_field→ix,FuncData→iC,Around→iM,backTo→iP,attributeBase→jb,wpAny_loadPart_at→je,relabel→jf,mem_of_lookup→j5,wpAny_truthy_bool→j9,call_meetsIn→ka,binaryOp→kb,wpAny_holding→kc,sysModules→kd,codeAny→kl,wpAny_seqItems→kn,tupleKind_room_in1→kE,wpAny_passesOwn→kJ,wpAny_newObj_type→kO,wpAny_setField→kZ,codeAny_call_builtin→lb,call_meets→lg,cLine→lh,wpAny_call_entry→lq,wpAny_execs_nil→lE,wpAny_setField_rec→lK,rawInt→lL,wpAny_getItem_str_slice→lP,wpAny_callSpecial?_slot→lQ,wpAny_Call_method0_late→lR,keywordEach→lS,wpAny_Call_method→me,codeAny_mono→mf,NameKind→mh,IsPair→mi,evalArgs_none→mq,wpAny_call→my,assignEach→mz,Paired→mB,behindInMarks→mD,sliceBounds→mF,excClassObj→mG,IntMulOk→mI,wpAny_specialOf→mS,letOwnedTupleGo→mT,codeAny_builtin→mU,leaving→m8,noteFrame→nj,typeIs_str→nv
open PySem.Heap renaming get?_push_of_some→bW,lt_size→b9,get?_push_size→ck,get?_update_other→g5,size_push→iD,get?_none_of_le→i3,get?_update_self→jh,SameBut→jC,FlyingW→jZ
open PySem.W renaming Frag→bY,findIn→iL,kitOne→iU,kia_one→iY,keepIn→ki,excIn→kx,emptyDict→kW,hasDictIn→lF,fnOf→lU,methodCall_KW→mH,instObj→mZ,nsIn→m9
open Subtype renaming mk→bZ
open List renaming getElem?_eq_getElem→b7,getElem?_eq_some_iff→cb,replicate→gB,size_toArray→gF,getElem?_map→gG,range→gO,getElem?_append_right→gU,mem_cons→gW,getElem?_append_left→gZ,mem_append_right→hG,getElem?_set_ne→hU,map_cons→hV,mem_cons_of_mem→ia,getElem?_set_self→ij,getD_eq_getElem?_getD→iw,length_map→iz,getElem?_eq_none→iH,not_mem_nil→iJ,prefix_refl→iS,length_cons→i6,mem_singleton→i7,mem_cons_self→i8,mem_filterMap→jt,getElem?_replicate→jv,length_set→jO,length_append→j6,lookup→kj,lookup_cons→ko,all_eq_true→kq,mem_of_getElem?→kL,find?_cons→lr,any_cons→lT,nodup_cons→mr,all_cons→m2,rec→oH,foldr→p7
open PySem.Value renaming ref→cf,none→gY,bool→ir,builtin→jo
open Bool renaming and_eq_true→cn,false_ne_true→gC,rec→g8,or_eq_true→iR,not_eq_true'→kF,eq_iff_iff→mv
open PySem.F renaming excBase_ValueError→cp,plainAttrs_list→gz,type_list_append→gD,slot_list_append→gE,plainAttrs_dict→iK,slot_dict_get→iT,slot_dict_values→ji,plainAttrs_str→jx,entry_dict_get→ke,slot_tuple_iterator_next→kX,slot_list_getattribute→lM,args_dict_values_1→mC
open PySem.PassesOwn renaming leaving→gA,never→g9
open Option renaming map_eq_some_iff→gK,some.inj→gL
open PySem.SeqAt renaming RcNeAt→gT,RcAt→hZ
open PyProof.Rows renaming envOfC→hI,callWith_type1→ie,callWith_builtin1→lA,AllBare→ng
open PySem.Calls renaming spliced_cons→h9,callWith_builtin→ig,spliced_nil→iI,evalArgs_plain→jr
open Array renaming getElem?_eq_some_iff→iu,length_toList→jy,getElem?_toList→jK,toArray_toList→kK
open PySem.Builtin.SmallTypes renaming nextOf→iG,ownedTupleIsFree→jj
open True renaming intro→iN
open Ne renaming symm→iQ
open Sum renaming inr→iZ
open False renaming elim→i0
open PyProof.Rows.KTD renaming datumAt→jc
open PySem.Builtin.List renaming listExtendWith→js
open PySem.Txt renaming partition→jG
open PySem.Obj renaming data_mapFields→jL,mapFields→kz,isFreed_of_fields→lW
open PySem.Builtin.Str renaming occurrences→jR
open PySem.Str renaming ofString→j0
open PySem.SeqAt.EqAt renaming bool_bool→lG
open PySem.Around renaming under_plainId→lX
open Or renaming inr→m1
local macro_rules(kind:=Lean.Parser.Command.declaration)|s=>do
  if s.getHeadInfo matches .original .. then
    let s:=s.rewriteBottomUp (·.setInfo .none)
    return if s[0].getArgs.all (·.getNumArgs==0)&&(s[1].isOfKind `Lean.Parser.Command.definition||s[1].isOfKind `Lean.Parser.Command.abbrev) then s.setArg 0 (s[0].setArg 4 (Lean.mkNullNode #[Lean.mkNode `Lean.Parser.Command.noncomputable #[Lean.mkAtom "noncomputable"]])) else s
  else Lean.Macro.throwUnsupported
local macro_rules(kind:=Lean.Parser.Tactic.tacticLet__)|s=>do
  let m x:=Lean.mkNode `Lean.Parser.Tactic.rcasesPatMed #[Lean.mkNullNode #[x]]
  let g(r:Lean.Syntax->Lean.Syntax)(x:Lean.Syntax):Lean.Syntax:=if x.isIdent then Lean.mkNode `Lean.Parser.Tactic.rcasesPat.one #[x] else if x.isOfKind `Lean.Parser.Term.tuple then Lean.mkNode `Lean.Parser.Tactic.rcasesPat.tuple #[Lean.mkAtom "⟨",Lean.mkNullNode ((#[x[1][0],x[1][1]]++x[1][2].getArgs).map λy=>if y.isAtom then y else Lean.mkNode `Lean.Parser.Tactic.rcasesPatLo #[m (r y),Lean.mkNullNode]),Lean.mkAtom "⟩"] else Lean.mkNode `Lean.Parser.Tactic.rcasesPat.ignore #[x[0]]
  let d:=s[2][0]
  if !d[0].isOfKind `Lean.Parser.Term.tuple then Lean.Macro.throwUnsupported
  let h p v:Lean.TSyntax `tactic:=⟨Lean.mkNode `Lean.Parser.Tactic.obtain #[Lean.mkAtom "obtain",Lean.mkNullNode #[m (g (g (g (g id))) p)],Lean.mkNullNode,Lean.mkNullNode #[Lean.mkAtom ":=",Lean.mkNullNode #[v]]]⟩
  let o:=h d[0] d[4]
  let e:Array Lean.Term:=((#[d[0][1][0]]++d[0][1][2].getArgs).filter (!·.isAtom)).map (⟨·⟩)
  let i(x:Lean.Term):=x.raw.isIdent&&x.raw.getId != `rfl||x.raw.isOfKind `Lean.Parser.Term.hole
  let w:=(e.takeWhile i).size
  if e.size<4 then return o
  let f(c:Lean.Name)(k:Nat):Lean.MacroM (Lean.TSyntax `tactic):=do
    if w<k&&k != 1||e.size<=k||e.size==k+1&&w<=k then return<-`(tactic|fail)
    let mut b:=e.extract 0 k
    let mut u:Lean.TSyntax `tactic<-`(tactic|skip)
    if w==0 then
      let x<-`(x)
      u:=h b[0]! x
      b:=#[x]
    let(r,t):Lean.Term×Lean.TSyntax `tactic<-if e.size==k+1 then pure (e[k]!,<-`(tactic|skip)) else pure (<-`(r),<-`(tactic|let ($(e[k]!),$(e.extract (k+1) e.size),*):=r))
    let v:Lean.Term:=⟨d[4]⟩
    if v.raw.isIdent then `(tactic|(revert $(⟨v.raw⟩):ident;refine fun q=>$(Lean.mkIdent c) q fun $b* $r=>?_;clear q;$u;$t)) else `(tactic|(refine $(Lean.mkIdent c) $v fun $b* $r=>?_;$u;$t))
  `(tactic|first|($(<-f `L2.ex6 6):tactic)|($(<-f `L2.an6 6):tactic)|($(<-f `L2.ex3 3):tactic)|($(<-f `L2.an3 3):tactic)|($(<-f `Exists.elim 1):tactic)|($(<-f `L2.an1 1):tactic)|($o:tactic))
local macro_rules|`(tactic|show $t:term)=>do
  let x:=t.raw
  if !x.isOfKind `Lean.Parser.Term.tuple then return<-`(tactic|first|refine $t|change $t)
  let a:=#[x[1][0],x[1][1]]++x[1][2].getArgs
  let c(a:Array Lean.Syntax):Lean.Term:=⟨Lean.mkNode `Lean.Parser.Term.anonymousCtor #[Lean.mkAtom "⟨",Lean.mkNullNode a,Lean.mkAtom "⟩"]⟩
  let f(n:Lean.Name)(k:Nat):Lean.MacroM (Lean.TSyntax `tactic):=if a.size<2*k+1 then `(tactic|fail) else
    let e:Array Lean.Term:=((Array.range k).map λi=>⟨a[2*i]!⟩).push (if a.size==2*k+1 then ⟨a[2*k]!⟩ else c (a.extract (2*k) a.size))
    `(tactic|refine $(Lean.mkIdent n) $e*)
  if a.size<6 then `(tactic|first|refine $(c a)|change $t) else `(tactic|first|($(<-f `L2.xi6 6):tactic)|($(<-f `L2.xi3 3):tactic)|refine $(c a)|change $t)
local macro_rules|`(tactic|ac_nf)=>`(tactic|first|lia|omega)
local macro_rules|`(⋯)=>`(by decide)
local macro_rules|`(∅)=>`(by ac_nf)
local macro_rules|`(tactic|subst_eqs)=>`(tactic|(intro _ _ _ _ h;(repeat obtain ⟨_,h⟩:=h);all_goals(subst_vars;rfl)))
local macro_rules|`(tactic|decreasing_tactic)=>`(tactic|first|exact $(Lean.mkIdent `L2.p4) rfl|rfl|exact .inl rfl|exact .inr rfl|exact .inr (.inl rfl)|exact .inr (.inr rfl)|exact fun _=>rfl|exact fun _ _=>rfl|assumption|decide)
namespace L2
theorem xi3{α β γ:Sort _}{p:α->β->γ->Prop}(a b c)(h:p a b c):∃ a b c,p a b c:=⟨a,b,c,h⟩
theorem xi6{α β γ δ ε ζ:Sort _}{p:α->β->γ->δ->ε->ζ->Prop}(a b c d e f)(h:p a b c d e f):∃ a b c d e f,p a b c d e f:=⟨a,b,c,d,e,f,h⟩
theorem Sa(_:True:=by decreasing_tactic):True:=⟨⟩
@[reducible]def Au:=Sa._auto_1
theorem ex3{α β γ:Sort _}{p:α->β->γ->Prop}{r:Prop}:(∃ a b c,p a b c)->(∀ a b c,p a b c->r)->r:=λ⟨a,b,c,h⟩ k=>k a b c h
theorem ex6{α β γ δ ε ζ:Sort _}{p:α->β->γ->δ->ε->ζ->Prop}{r:Prop}:(∃ a b c d e f,p a b c d e f)->(∀ a b c d e f,p a b c d e f->r)->r:=λ⟨a,b,c,d,e,f,h⟩ k=>k a b c d e f h
theorem an1{a b r:Prop}(h:a/\b)(k:a->b->r):r:=k h.1 h.2
theorem an3{a b c d r:Prop}:a/\b/\c/\d->(a->b->c->d->r)->r:=λh k=>k h.1 h.2.1 h.2.2.1 h.2.2.2
theorem an6{a b c d e f g r:Prop}:a/\b/\c/\d/\e/\f/\g->(a->b->c->d->e->f->g->r)->r:=λh k=>an3 h λx y z h=>an3 h (k x y z)
open PySem PySem.Spec PyProof.Rows
abbrev jz:=Sum Bool Str
def isBoolOf:Bool->bV->Bool
 | b, .bool c=>b == c
 | _,_=>false
variable{b:Bool}
theorem Px{v:bV}(h:isBoolOf b v=true):v=.bool b:=by
 cases v <;> simp_all [isBoolOf]
def keyIs:jz->bV->Bool
 | .inl k,v=>isBoolOf k v
 | .inr x,v=>bV.isStrOf x v
def Aa(w:ik):jz->Int
 | .inl k=>hashInt (if k then 1 else 0)
 | .inr x=>hashStr w x
theorem rB:∀{k:jz}{v:bV},keyIs k v=true->(∃ i,k=Sum.inl i/\v=ir i)\/(∃ x t,k=iZ x/\v=bV.str x t)
 | .inl i,v,h=>.inl ⟨i,rfl,Px h⟩
 | .inr x,v,h=>by
  let(t,e):=bV.isStrOf_shape (x:=x) (v:=v) h;show .inr ⟨x,t,rfl,e⟩
theorem NG(i:Bool):keyIs (.inl i) (.bool i)=true:=by simp[keyIs,isBoolOf]
theorem M7(x:Str)(t:Tok):keyIs (.inr x) (.str x t)=true:=by simp[keyIs,bV.isStrOf]
theorem IL(a b:Bool):decide ((Sum.inl a:jz)=Sum.inl b)=(a == b):=by cases a <;> cases b <;> rfl
theorem II(a b:Str):decide ((iZ a:jz)=iZ b)=decide (a=b):=by
 by_cases e:a=b
 .subst e;simp
 .have h:¬(iZ a:jz)=iZ b:=λq=>e (iZ.inj q);rw[decide_eq_false h,decide_eq_false e]
theorem IK(a:Bool)(b:Str):decide ((Sum.inl a:jz)=iZ b)=false:=decide_eq_false (λq=>nomatch q)
theorem IJ(a:Str)(b:Bool):decide ((iZ a:jz)=Sum.inl b)=false:=decide_eq_false (λq=>nomatch q)
variable{prog:gN}{w:ik}{A:iM}{E:bV->b8->Prop}{s:b8}
theorem OM{Q:Int->b8->Prop}(h:Q (hashInt (if b then 1 else 0)) { s with toks:=s.toks+1 }) :
  gu (gx prog w) A (pyHash (.bool b)) Q E s:=by
 have c:=rawHash_range (if b then 1 else 0);have a:s.TypeIs (.bool b) "bool":=rfl;unfold pyHash;have d:[ir b].any bV.onHeap=false:=rfl;show bO ?_;rw[cRoomFor,if_neg (by rw[d];show gC)];show gw ?_;show bO (mS a F.slot_bool_hash.lookup ?_);show gu _ _ (if(some (jo "int.__hash__") == some gY)=true then _ else _) Q E s;rw[if_neg (by rw[beq_builtin_none];show gC)];show bO (mS a F.slot_bool_hash.lookup ?_);show gu _ _ (callSpecialIfBoundUnlessNone? (.bool b) "__hash__" _ >>= _) Q E s;show bO (wpAny_callSpecialIfBoundUnlessNone?_slot a F.slot_bool_hash
  (lq F.slot_bool_hash a entry_int_hash
   (show gu _ _ (do ret (<- mkInt (rawHash (if b then 1 else 0)))) _ _ s from wpAny_ret_mkInt ?_) (args_int_hash _)))
 show gu _ _ (if(decide (-(2:Int) ^ 63<=rawHash (if b then 1 else 0))&&decide (rawHash (if b then 1 else 0)<2 ^ 63))=true then _ else _) Q E _;rw[if_pos (by rw[decide_eq_true c.1,decide_eq_true c.2];rfl)];show gw h
def nh(prog:gN)(w:ik):PySem.KeyKind prog w jz where
 is:=keyIs
 hash:=Aa w
 inj:=λv a b ha hb=>by
  rcases rB ha with⟨i,rfl,rfl⟩ | ⟨x,t,rfl,rfl⟩
  .rcases rB hb with⟨j,rfl,e⟩ | ⟨y,u,rfl,e⟩
   .injection e with e1;rw[e1]
   .show nomatch e
  .rcases rB hb with⟨j,rfl,e⟩ | ⟨y,u,rfl,e⟩
   .show nomatch e
   .injection e with e1 _;rw[e1]
 byValue:=λk v h=>by
  rcases rB h with⟨i,rfl,rfl⟩ | ⟨x,t,rfl,rfl⟩ <;> rfl
 pyHash:=λhv h=>by
  rcases rB hv with⟨i,rfl,rfl⟩ | ⟨x,t,rfl,rfl⟩
  .show OM h
  .show wpAny_pyHash_str h
 eqBool:=λhu hv h=>by
  rcases rB hu with⟨i,rfl,rfl⟩ | ⟨x,t,rfl,rfl⟩
  .rcases rB hv with⟨j,rfl,rfl⟩ | ⟨y,u,rfl,rfl⟩
   .rw[IL]at h;show lG i j _ _ _ _ h
   .rw[IK]at h;show SeqAt.EqAt.bool_str i y u _ _ _ _ h
  .rcases rB hv with⟨j,rfl,rfl⟩ | ⟨y,u,rfl,rfl⟩
   .rw[IJ]at h;show SeqAt.EqAt.str_bool x t j _ _ _ _ h
   .rw[II]at h;show wpAny_eqBool_str h
 «strs»:=λk x t v h=>by
  rcases rB h with⟨i,rfl,e⟩ | ⟨y,u,rfl,e⟩
  .show nomatch e
  .injection e with e1 _
   subst e1;cases v <;> rfl
theorem Ph(prog:gN)(w:ik)(i:Bool):(nh prog w).is (.inl i) (.bool i)=true:=NG i
theorem ON(prog:gN)(w:ik)(x:Str)(t:Tok):(nh prog w).is (.inr x) (.str x t)=true:=M7 x t
inductive V where
 | non | bl (b:Bool) | int (i:Int) | str (x:Str) | byt (b:Array UInt8) | flt (b:UInt64) | ref (a:Addr) | ty (n:String)
 deriving DecidableEq
def RelV:V->bV->Prop
 | .non,u=>u=gY
 | .bl b,u=>u=ir b
 | .int i,u=>∃ t,u=bV.int i t
 | .str x,u=>∃ t,u=bV.str x t
 | .byt b,u=>∃ t,u=bV.bytes b t
 | .flt b,u=>∃ t,u=bV.float b t
 | .ref a,u=>u=cf a
 | .ty n,u=>u=bV.type n
abbrev Vals:List V->List bV->Prop:=mB RelV
variable{xs:List V}{us:List bV}
theorem Vals.length(r:Vals xs us):xs.length=us.length:=mB.length r
variable{i:Nat}
theorem Vals.get{x:V}(h:Vals xs us):xs[i]?=some x->∃ u,us[i]?=some u/\RelV x u:=by
 induction h generalizing i with
 | nil=>showλe=>by cases e
 | cons r _ ih=>
  cases i with
  | zero=>showλe=>by cases e;show(_,rfl,r)
  | succ i=>showλe=>ih e
variable{ys:List V}
theorem Vals.append{ws:List bV}(h:Vals xs us)(s:Vals ys ws):Vals (xs++ys) (us++ws):=by
 induction h with
 | nil=>show s
 | cons r _ ih=>show .cons r ih
theorem Vals.take(n:Nat)(h:Vals xs us):Vals (xs.take n) (us.take n):=by
 induction h generalizing n with
 | nil=>cases n <;> show .nil
 | cons r _ ih=>
  cases n with
  | zero=>show .nil
  | succ n=>show .cons r (ih n)
theorem Vals.drop:∀{xs:List V}{us:List bV}(n:Nat),Vals xs us->Vals (xs.drop n) (us.drop n)
 | _,_,0,r=>r
 | _,_,_+1, .nil=>.nil
 | _,_,n+1, .cons _ t=>Vals.drop n t
def RelO:Option V->Option bV->Prop
 | some v,some u=>RelV v u
 | none,none=>True
 | _,_=>False
def KV{κ:Type}:List (κ × V)->List (κ × bV)->Prop:=mB λ(p : κ × V)(q : κ × bV)=>p.1=q.1/\RelV p.2 q.2
def kV:jz->V
 | .inl i=>.bl i
 | .inr x=>.str x
inductive HO where
 | lst (xs:List V)
 | tup (xs:List V)
 | dK (kvs:List (jz × V)) | dT (kvs:List (List jz × V))
 | set (S:Int->Bool) (n:Nat)
 | ins (C dx:Addr) (fs:List (Str × V))
 | own (x:Addr)
 | xd (fs:List (Str × V))
 | met (f x:Addr)
 | rng (lo hi:Int)
 | frz (o:Obj) (u:HO)
 | tbl (ps:Array bV)
 | ext (φ : Heap->Prop)
abbrev Hp:=Addr->Option HO
def upd(H:Hp)(a:Addr)(o:HO):Hp:=λb=>if b=a then some o else H b
variable{H:Hp}{a:Addr}{o:HO}
theorem md:upd H a o a=some o:=by unfold upd;rw[if_pos rfl]
variable{b:Addr}
theorem kk(h:b≠a):upd H a o b=H b:=by unfold upd;rw[if_neg h]
variable{u:HO}
theorem xv(h:H a=some o)(h':H b=some u)(d:o≠u):a≠b:=by
 intro e;subst e;rw[h]at h';show d (gL h')
theorem rn(h:H a=some o)(h':H b=none):a≠b:=by
 intro e;subst e;rw[h]at h';cases h'
section
variable(P:gN)(w:ik)
def jk(H:Hp)(h:Heap)(a:Addr):HO->Prop
 | .lst xs=>xs.length<=sizeLine/\∃(its:List bV)(n:Nat),Vals xs its/\h.get? a=some { cls:=.type "list",data:=.seq its.toArray n }
 | .tup xs=>xs.length<=sizeLine/\∃ its:List bV,Vals xs its/\IsTup h a its.toArray
 | .dK kvs=>kvs.length<=sizeLine/\(a == kd)=false/\∃ vs,KV kvs vs/\h.DictOf (nh P w) a vs
 | .dT kvs=>kvs.length<=sizeLine/\(a == kd)=false/\∃ xs:List (List jz × Addr × bV),
   mB (λ(p:List jz × V)(q:List jz × Addr × bV)=>p.1=q.1/\H q.2.1=some (.tup (p.1.map kV))/\RelV p.2 q.2.2) kvs xs /\
   ∃ o es ep,h.get? a=some o/\o.ExactDict/\o.data=.dict es ep/\es.toList=xs.map (entryOfKey (tupleKind (nh P w)))/\(xs.map (·.1)).Nodup
 | .set S n=>h.SetOf (intKind P w) a S n
 | .ins C dx fs=>H dx=some (.own a)/\fs.length<=1000/\dx≠a/\h.get? a=some (mZ C dx) /\
   ∃ mA,h.Ns1 dx mA/\(∀ f,RelO (fs.lookup f) (mA f))/\PySem.Within mA (fs.map (·.1))
 | .own _=>∃ o,h.get? a=some o
 | .xd fs=>∃ mA,h.Ns1 a mA/\∀ f,RelO (fs.lookup f) (mA f)
 | .rng lo hi=>∃ t u v,h.get? a=some { cls:=.type "range",data:=.fields #[.int lo t, .int hi u, .int 1 v] }
 | .frz o u=>h.get? a=some o/\jk H h a u
 | .tbl ps=>h.get? a=some { cls:=.none,data:=.fields ps }
 | .met f x=>h.get? a=some (W.methodObj (.ref f) (.ref x))
 | .ext φ=>φ h/\(∃ o,h.get? a=some o)/\∀ h1 h2:Heap,φ h1->(∀ o,h1.get? a=some o->h2.get? a=some o)->φ h2
def ni(H:Hp)(h:Heap):Prop:=∀ a o,H a=some o->jk P w H h a o
end
variable{P:gN}{H':Hp}{h h':Heap}
theorem jk.lt(x:jk P w H h a o):a<h.objs.size:=by
 cases o with
 | lst xs=>let(_,_,_,_,e):=x;show b9 e
 | tup xs=>let(_,_,_,p):=x;show p.lt
 | dK kvs=>let(_,_,_,_,o,_,_,e,_):=x;show b9 e
 | dT kvs=>let(_,_,_,_,o,_,_,e,_):=x;show b9 e
 | set S n=>let(o,_,_,_,e,_):=x;show b9 e
 | ins C dx fs=>let(_,_,_,e,_):=x;show b9 e
 | own y=>let(_,e):=x;show b9 e
 | xd fs=>let(_,(_,_,_,e,_),_):=x;show b9 e
 | rng lo hi=>let(_,_,_,e):=x;show b9 e
 | frz ob u=>let(e,_):=x;show b9 e
 | tbl ps=>show b9 (show h.get? a=some _ from x)
 | met f y=>show b9 (show h.get? a=some _ from x)
 | ext φ=>let(_,(_,e),_):=x;show b9 e
variable{α:Type}
theorem Paired.mapP{β:Type}{F G : α->β->Prop}{l₁ : List α}{l₂ : List β}(h:mB F l₁ l₂)(f:∀ a b,F a b->G a b):mB G l₁ l₂:=by
 induction h with
 | nil=>show .nil
 | cons r _ ih=>show .cons (f _ _ r) ih
theorem jk.stay(x:jk P w H h a o)(k:∀ b u,(b=a\/H b=some (.own a))->h.get? b=some u->h'.get? b=some u)
  (ho:∀ b,H b=some (.own a)->H' b=some (.own a)) (ht:∀ b xs,H b=some (.tup xs)->H' b=some (.tup xs)):jk P w H' h' a o:=by
 induction o with
 | lst xs=>let(z,l,n,r,e):=x;show(z,l,n,r,k _ _ (.inl rfl) e)
 | tup xs=>let(z,l,r,g,e,c):=x;show(z,l,r,g,k _ _ (.inl rfl) e,c)
 | dK kvs=>let(z,y,D,r,g,i,j,e,c):=x;show(z,y,D,r,g,i,j,k _ _ (.inl rfl) e,c)
 | dT kvs=>
  let(z,y,xs,r,g,i,j,e,c):=x;show(z,y,xs,Paired.mapP r λp q z=>⟨z.1,ht _ _ z.2.1,z.2.2⟩,g,i,j,k _ _ (.inl rfl) e,c)
 | set S n=>let(g,i,j,t,e,c):=x;show(g,i,j,t,k _ _ (.inl rfl) e,c)
 | ins C dx fs=>
  let(d,z,E,e,s,(m,i,j,B,c),r):=x;show(ho _ d,z,E,k _ _ (.inl rfl) e,s,⟨m,i,j,k _ _ (.inr d) B,c⟩,r)
 | own y=>let(g,e):=x;show(g,k _ _ (.inl rfl) e)
 | xd fs=>let(s,(m,i,j,e,c),r):=x;show(s,⟨m,i,j,k _ _ (.inl rfl) e,c⟩,r)
 | rng lo hi=>let(t,u,v,e):=x;show(t,u,v,k _ _ (.inl rfl) e)
 | frz g u ih=>let(e,q):=x;show(k _ _ (.inl rfl) e,ih q)
 | tbl ps=>
  have e:h.get? a=some { cls:=.none,data:=.fields ps }:=x;show h'.get? a=some { cls:=.none,data:=.fields ps };show k a _ (.inl rfl) e
 | met f y=>
  have e:h.get? a=some (W.methodObj (.ref f) (.ref y)):=x;show h'.get? a=some (W.methodObj (.ref f) (.ref y));show k a _ (.inl rfl) e
 | ext φ=>let(p,(o,e),A):=x;show(A _ _ p λo q=>k _ _ (.inl rfl) q,⟨o,k _ _ (.inl rfl) e⟩,A)
theorem ni.lt(x:ni P w H h)(e:H a=some o):a<h.objs.size:=(x a o e).lt
theorem ni.fresh(x:ni P w H h)(e:h.objs.size<=a):H a=none:=by
 cases q:H a with
 | none=>rfl
 | some u=>show absurd (gv (x.lt q) e) (il _)
theorem ni.kept(x:ni P w H h)(k:∀ b u,h.get? b=some u->h'.get? b=some u):ni P w H h':=λa o e=>
 (x a o e).stay (λb u _ q=>k b u q) (λ_ q=>q) λ_ _ q=>q
theorem ni.laid(x:ni P w H h)(k:∀ b u,h.get? b=some u->h'.get? b=some u)(hp:h.objs.size<=a)(new:jk P w (upd H a o) h' a o):ni P w (upd H a o) h':=λb u e=>by
 have d:=x.fresh hp;by_cases hb:b=a
 .subst hb;rw[md]at e;cases e;show new
 .rw[kk hb]at e;show(x b u e).stay (λc v _ q=>k c v q) (λc q=>by rw[kk (rn q d)];show q) λc f q=>by rw[kk (rn q d)];show q
def Rd(H:Hp)(a:Addr)(u:HO):Prop:=H a=some u\/∃ o,H a=some (.frz o u)
theorem Rd.ok(r:Rd H a u)(x:ni P w H h):jk P w H h a u:=by
 rcases r with r | ⟨o,r⟩
 .show x a u r
 .let(_,q):=x a _ r;show q
def Mut:Option HO->Prop
 | some (.lst _)=>True
 | some (.dK _)=>True
 | some (.dT _)=>True
 | some (.set _ _)=>True
 | some (.ins _ _ _)=>True
 | some (.ext _)=>True
 | _=>False
variable{x e:Addr}{o':HO}
theorem ni.write(ok:ni P w H h)(mu:Mut (H x))(he:e=x\/H e=some (.own x))(k:∀ b u,b≠e->h.get? b=some u->h'.get? b=some u)(heo:∃ u,h'.get? e=some u)
  (new:jk P w (upd H x o') h' x o'):ni P w (upd H x o') h':=λb u q=>by
 have d:∀ c y,H c=some (.own y)->c≠x:=λc y r z=>by subst z;rw[r]at mu;show mu
 have f:∀ c g,H c=some (.tup g)->c≠x:=λc g r z=>by subst z;rw[r]at mu;show mu
 by_cases hb:b=x
 .subst hb;rw[md]at q;cases q;show new
 .rw[kk hb]at q;by_cases a:b=e
  .have j:H b=some (.own x):=by
    rcases he with z | z
    .show absurd (a.trans z) hb
    .rw[a];show z
   rw[q]at j;cases j;let(v,l):=heo;show(v,by rw[a];show l)
  .show(ok b u q).stay (λc v i r=>k c v ?_ r) (λc r=>by rw[kk (d c b r)];show r) λc g r=>by rw[kk (f c g r)];show r
   rcases i with rfl | i
   .show a
   .rintro rfl;rcases he with z | z
    .show d c b i z
    .rw[i]at z;cases z;show hb rfl
structure Un(fs ex:List Addr)(H H':Hp)(h h':Heap):Prop where
 keep:∀ b o,h.get? b=some o->H b=none->b∉fs->b∉ex->h'.get? b=some o
 slot:∀ b o,h.get? b=some o->H b=none->b∈fs->b∉ex->∃ sl,h'.get? b=some { o with slots:=sl }
 free:∀ b o,h.get? b=some o->H b=none->b∉ex->H' b=none
 there:∀ b o,h.get? b=some o->b∉ex->∃ o',h'.get? b=some o'
 tups:∀ b xs,H b=some (.tup xs)->H' b=some (.tup xs)
 frzs:∀ b o u,H b=some (.frz o u)->H' b=some (.frz o u)
 tbls:∀ b ps,H b=some (.tbl ps)->∃ more,H' b=some (.tbl (ps++more))
section
variable{fs' ex ex':List Addr}{H1 H2:Hp}{h1 h2:Heap}{fs:List Addr}
theorem Un.any(u:Un fs ex H H1 h h1){b:Addr}{ob:Obj}(q:h.get? b=some ob)(n:H b=none)(hx:b∉ex):∃ sl,h1.get? b=some { ob with slots:=sl }:=by
 by_cases hb:b∈fs
 .show u.slot b ob q n hb hx
 .show(ob.slots,u.keep b ob q n hb hx)
theorem Un.kept(k:∀ b u,h.get? b=some u->h'.get? b=some u):Un fs ex H H h h' :=
 ⟨λb a q _ _ _=>k b a q,λb a q _ _ _=>⟨a.slots,k b a q⟩,λ_ _ _ n _=>n,λb a q _=>⟨a,k b a q⟩,λ_ _ q=>q,λ_ _ _ q=>q,λ_ c q=>⟨#[],by rw[q];simp⟩⟩
theorem Un.refl:Un fs ex H H h h:=Un.kept λ_ _ q=>q
theorem Un.laid(k:∀ b u,h.get? b=some u->h'.get? b=some u)(hp:h.objs.size<=a)(hn:H a=none):Un fs ex H (upd H a o) h h' where
 keep:=λb u q _ _ _=>k b u q
 slot:=λb u q _ _ _=>⟨u.slots,k b u q⟩
 free:=λb u q n _=>by rw[kk (cq (gv (b9 q) hp))];show n
 there:=λb u q _=>⟨u,k b u q⟩
 tups:=λb c q=>by rw[kk (rn q hn)];show q
 frzs:=λb u c q=>by rw[kk (rn q hn)];show q
 tbls:=λb d q=>⟨#[],by rw[kk (rn q hn),q];simp⟩
theorem Un.write(mu:Mut (H x))(he:e=x\/H e=some (.own x))(k:∀ b u,b≠e->h.get? b=some u->h'.get? b=some u)(heo:∃ u,h'.get? e=some u):Un fs ex H (upd H x o) h h':=by
 have hx:∀ b,H b=none->b≠x:=λb n z=>by subst z;rw[n]at mu;show mu
 have hb:∀ b,H b=none->b≠e:=λb n z=>by
  subst z;rcases he with r | r
  .show hx b n r
  .rw[n]at r;cases r
 have c:∀ b u,H b=some u->¬ Mut (some u)->b≠x:=λb u q d z=>by subst z;rw[q]at mu;show d mu
 show(λb u q n _ _=>k b u (hb b n) q,λb u q n _ _=>⟨u.slots,k b u (hb b n) q⟩,λb u q n _=>by rw[kk (hx b n)];show n,λb u q _=>?_,
  λb f q=>by rw[kk (c b _ q λz=>z)];show q,λb u f q=>by rw[kk (c b _ q λz=>z)];show q,λb g q=>⟨#[],by rw[kk (c b _ q λz=>z),q];simp⟩)
 by_cases a:b=e
 .subst a;show heo
 .show(u,k b u a q)
end
def yz(h:Heap)(H:Hp):List Addr:=(gO h.objs.size).filter λa=>(H a).isSome
def pG(h:Heap)(H:Hp):Heap:=W.hideAll h (yz h H)
theorem Nb(h:Heap)(H:Hp):(pG h H).objs.size=h.objs.size:=W.hideAll_size _ _
variable{o:Obj}
theorem MX(e:h.get? b=some o)(n:H b=none):(pG h H).get? b=some o :=
 W.hideAll_get _ e λa=>by
  have q:(H b).isSome=true:=(List.mem_filter.mp a).2;rw[n]at q;simp at q
theorem Jp(e:(pG h H).get? b=some o):h.get? b=some o/\H b=none:=by
 have a:h.get? b=some o:=W.of_hideAll (yz h H) e;show(a,?_);cases q:H b with
 | none=>rfl
 | some x=>
  have c:b∈yz h H:=List.mem_filter.mpr ⟨List.mem_range.mpr (b9 a),by simp[q]⟩;have z:(pG h H).get? b=none:=W.hideAll_none (yz h H) c;rw[z]at e;cases e
def KA(g h:Heap)(L:Addr):List (Addr × Obj):=(gO h.objs.size).filterMap λa=>if a=L\/(g.get? a).isSome=true then none else(h.get? a).map λo=>(a,o)
def rest(g h:Heap)(L d:Addr):List (Addr × Obj):=(KA g h L).filter λp=>decide (p.1≠d)
structure Mod(K:bY)(mg:Str->Option bV)(base:Heap):Prop where
 kin:K.In base
 glob:base.Ns hW mg
 blt:∃ mb,base.Ns builtinsNs mb/\∀ x:Str,x≠"__name__"->mb x=gI x
 nolimit:base.NoLimit
set_option genInjectivity false in
structure Cx where
 prog:gN
 w:ik
 K:bY
 mg:Str->Option bV
 base:Heap
 A:iM
 N:List Str
 s₀ : b8
 H₀ : Hp
 env:Env
 outer:List Env
 stack:List Env
 ex:List Addr
 fn:Str->Bool
 calm:Bool
 pn:List (Addr × Obj)
 xe:bV->b8->Prop
def ll(l:List Env):List Addr:=l.filterMap (·.frame)
abbrev Cx.fs(X:Cx):List Addr:=ll X.outer
def Ag(sc:Scope)(x:Str):Prop:=sc.names.lookup x=some .local\/sc.names.lookup x=some .cell\/sc.names.lookup x=some .free
def Loc(sc:Scope)(x:Str):Prop:=sc.names.lookup x=some .local\/sc.names.lookup x=some .cell
def Look(env:Env)(h:Heap)(m:Str->Option bV)(x:Str)(u:bV):Prop :=
 (env.kindOf x=some .local/\m x=some u)\/((env.kindOf x=some .cell\/env.kindOf x=some .free)/\∃ c,env.cells.lookup x=some c/\h.IsCell c (some u))
structure Cx.Ok(X:Cx):Prop where
 mod:Mod X.K X.mg X.base
 kind:X.env.scope.kind=.function
 glob:X.env.globals=hW
 blt:X.env.builtins=builtinsNs
 above:X.s₀.heap.objs.size<=X.env.locals
 inj:∀ x y c,X.env.cells.lookup x=some c->X.env.cells.lookup y=some c->x=y
 has:∀ x,(X.env.kindOf x=some .cell\/X.env.kindOf x=some .free)->∃ c,X.env.cells.lookup x=some c
 cab:∀ x c,X.fn x=true->X.env.cells.lookup x=some c->X.s₀.heap.objs.size<=c
 hd:X.calm=true->X.A.handled=none
 frames:X.A.frames=some X.stack
 stk:X.stack=X.outer\/(X.stack=X.env::X.outer/\X.env.frame=some X.env.locals)
 exf:∀ b∈X.ex,b≠X.env.locals/\∀ x c,X.env.cells.lookup x=some c->c≠b
 bs:∀ b o,X.base.get? b=some o->X.s₀.heap.get? b=some o/\X.H₀ b=none
 bsz:X.base.objs.size<=X.s₀.heap.objs.size
 noex:∀ b o,X.base.get? b=some o->b∉X.ex
 exfs:∀ b∈X.ex,b∉X.fs
 funs:X.s₀.heap.FunFrames X.base X.outer
 frf:∀ b∈X.fs,X.H₀ b=none
structure Inv(X:Cx)(pins:List (Addr × Obj))(σ : List (Option V))(H:Hp)(s:b8):Prop where
 ok:X.Ok
 os:s.os=X.s₀.os
 bare:ng s.gens
 base:Un X.fs X.ex X.H₀ H X.s₀.heap s.heap
 loc:∃ m,s.heap.Ns X.env.locals m/\∀(i:Nat)(x:Str)(v:V),X.N[i]?=some x->σ[i]?=some (some v)->Ag X.env.scope x->∃ u,RelV v u/\Look X.env s.heap m x u
 cell:∀ x c,X.env.cells.lookup x=some c->∃ v,s.heap.IsCell c v
 free:H X.env.locals=none
 freeC:∀ x c,X.env.cells.lookup x=some c->H c=none
 pin:∀ p∈X.pn++pins,s.heap.get? p.1=some p.2/\H p.1=none/\p.1≠X.env.locals/\p.1∉X.fs/\∀ v,p.2.data≠.cell v
 hok:ni X.prog X.w H s.heap
 len : σ.length=X.N.length
variable{X:Cx}{pins:List (Addr × Obj)}{σ:List (Option V)}
theorem Cx.Ok.nofr(ok:X.Ok){b:Addr}{o:Obj}(e:X.base.get? b=some o):b∉X.fs:=λhb=>by
 have:=(ok.funs.mem hb).1;rw[e]at this;cases this
theorem Inv.bs(I:Inv X pins σ H s):∀ b o,X.base.get? b=some o->s.heap.get? b=some o/\H b=none:=λb o e=>
 ⟨I.base.keep b o (I.ok.bs b o e).1 (I.ok.bs b o e).2 (I.ok.nofr e) (I.ok.noex b o e),I.base.free b o (I.ok.bs b o e).1 (I.ok.bs b o e).2 (I.ok.noex b o e)⟩
theorem Inv.bk(I:Inv X pins σ H s):∀ b o,X.base.get? b=some o->s.heap.get? b=some o:=λb o e=>(I.bs b o e).1
theorem Inv.mod(I:Inv X pins σ H s):Mod X.K X.mg X.base:=I.ok.mod
theorem Inv.kIn(I:Inv X pins σ H s):X.K.In s.heap:=I.ok.mod.kin.keeps I.bk
theorem Inv.lt(I:Inv X pins σ H s):X.env.locals<s.heap.objs.size:=let⟨_,hn,_⟩:=I.loc;hn.lt
theorem Inv.sz(I:Inv X pins σ H s):X.s₀.heap.objs.size<=s.heap.objs.size:=g0 I.ok.above (Nat.le_of_lt I.lt)
theorem Inv.nofs(I:Inv X pins σ H s){a:Addr}(h:s.heap.objs.size<=a):a∉X.fs:=λhb=>by
 let(_,o,b,_):=I.ok.funs.mem hb;show absurd (gv (b9 b) (g0 I.sz h)) (il _)
theorem Inv.cne(I:Inv X pins σ H s):∀ x c,X.env.cells.lookup x=some c->c≠X.env.locals:=λx c e z=>by
 let(v,o,d,f):=I.cell x c e;let(m,(h,g,i,b,a,_),_):=I.loc;rw[z,b]at d;cases d;rw[a]at f;cases f
theorem Inv.funs(I:Inv X pins σ H s):s.heap.FunFrames X.base X.outer:=by
 have all:∀(l:List Env),(∀ b∈ll l,b∈X.fs)->X.s₀.heap.FunFrames X.base l->s.heap.FunFrames X.base l:=by
  intro l;induction l with
  | nil=>intro _ _;trivial
  | cons env r ih=>
   intro hs j;let(d,(L,o,c,g,f,i),h):=j;have a:L∈X.fs:=hs L (by unfold ll;rw[List.filterMap_cons,c];show i8);let(k,e):=I.base.slot L o f (I.ok.frf L a) a λz=>I.ok.exfs L z a;show(d,⟨L,_,c,g,e,i⟩,ih (λb hb=>hs b (by unfold ll;rw[List.filterMap_cons,c];show ia _ hb)) h)
 show all X.outer (λ_ hb=>hb) I.ok.funs
theorem Inv.stack(I:Inv X pins σ H s):s.heap.FunFrames X.base X.stack:=by
 rcases I.ok.stk with e | ⟨e,hf⟩
 .rw[e];show I.funs
 .rw[e];let(m,a,_):=I.loc;show .cons (by rw[I.ok.kind];decide) hf a ?_ I.funs;show i3 (g0 I.ok.bsz I.ok.above)
theorem Inv.stkSub(I:Inv X pins σ H s):∀ b∈ll X.stack,b∈X.env.locals::X.fs:=λb hb=>by
 rcases I.ok.stk with e | ⟨e,hf⟩
 .rw[e]at hb;show ia _ hb
 .rw[e]at hb;unfold ll at hb;rw[List.filterMap_cons,hf]at hb;show hb
theorem Inv.stkFree(I:Inv X pins σ H s):∀ b∈ll X.stack,H b=none:=λb hb=>by
 rcases gW.mp (I.stkSub b hb)with e | hb
 .rw[e];show I.free
 .let(_,o,a,_):=I.ok.funs.mem hb;show I.base.free b o a (I.ok.frf b hb) λz=>I.ok.exfs b z hb
variable{g':Array GenState}{t':Nat}{d':Drawn}{ch:List Addr}
theorem Inv.step(I:Inv X pins σ H s)
  (hch:∀ b∈ch,(b∈X.ex\/X.s₀.heap.objs.size<=b)/\b≠X.env.locals/\(∀ x c,X.env.cells.lookup x=some c->c≠b)/\∀ p∈X.pn++pins,p.1≠b)
  (keep:∀ b o,b≠X.env.locals->b∉X.fs->b∉ch->s.heap.get? b=some o->H b=none->h'.get? b=some o)
  (slot:∀ b o,b≠X.env.locals->b∈X.fs->b∉ch->s.heap.get? b=some o->H b=none->∃ sl,h'.get? b=some { o with slots:=sl }) (free:∀ b o,b∉ch->s.heap.get? b=some o->H b=none->H' b=none)
  (there:∀ b o,b∉ch->s.heap.get? b=some o->∃ o',h'.get? b=some o')
  (tups:∀ b xs,H b=some (.tup xs)->H' b=some (.tup xs)) (frzs:∀ b o u,H b=some (.frz o u)->H' b=some (.frz o u)) (tbls:∀ b ps,H b=some (.tbl ps)->∃ more,H' b=some (.tbl (ps++more)))
  (ns:∀ m,s.heap.Ns X.env.locals m->h'.Ns X.env.locals m) (hok:ni X.prog X.w H' h') (hg:ng g') :
  Inv X pins σ H' { s with heap:=h',gens:=g',drawn:=d',toks:=t' }:=by
 have t:∀ b o,X.s₀.heap.get? b=some o->b≠X.env.locals:=λb o e=>cq (gv (b9 e) I.ok.above);have g:∀ b o,X.s₀.heap.get? b=some o->b∉X.ex->b∉ch:=λb o e hx hb=>by
  rcases(hch b hb).1 with z | z
  .show hx z
  .show absurd (gv (b9 e) z) (il _)
 have a:∀ x c,X.env.cells.lookup x=some c->∀ v,s.heap.IsCell c v->h'.IsCell c v:=λx c e v ⟨o,j,A⟩=>by
  have f:c∉ch:=λz=>(hch c z).2.2.1 x c e rfl;by_cases D:c∈X.fs
  .let(sl,q):=slot c o (I.cne x c e) D f j (I.freeC x c e);show(_,q,A)
  .show(o,keep c o (I.cne x c e) D f j (I.freeC x c e),A)
 show(I.ok,I.os,hg,⟨λb o e n hb hx=>?_,λb o e n hb hx=>?_,λb o e n hx=>?_,λb o e hx=>?_,λb xs e=>tups b xs (I.base.tups b xs e),λb o xs e=>frzs b o xs (I.base.frzs b o xs e),λb ps e=>?_⟩,?_,λx c e=>?_,?_,λx c e=>?_,λp C=>?_,hok,I.len)
 .show keep b o (t b o e) hb (g b o e hx) (I.base.keep b o e n hb hx) (I.base.free b o e n hx)
 .let(sl,h):=I.base.slot b o e n hb hx;let(B,y):=slot b _ (t b o e) hb (g b o e hx) h (I.base.free b o e n hx);show(B,y)
 .let(o',h):=I.base.there b o e hx;show free b o' (g b o e hx) h (I.base.free b o e n hx)
 .let(o',h):=I.base.there b o e hx;show there b o' (g b o e hx) h
 .let(K,h):=I.base.tbls b ps e;let(J,y):=tbls b _ h;show(K++J,by rw[y,Array.append_assoc])
 .let(m,G,L):=I.loc;show(m,ns m G,λi x v h y M=>?_);let(u,r,l):=L i x v h y M;show(u,r,?_);rcases l with l | ⟨k,c,e,z⟩
  .show .inl l
  .show .inr ⟨k,c,e,a x c e _ z⟩
 .let(v,z):=I.cell x c e;show(v,a x c e v z)
 .let(m,(o,_,_,j,_),_):=I.loc;show free _ o (λz=>(hch _ z).2.1 rfl) j I.free
 .let(v,o,j,A):=I.cell x c e;show free c o (λz=>(hch c z).2.2.1 x c e rfl) j (I.freeC x c e)
 .let(e,n,F,E,d):=I.pin p C;have f:p.1∉ch:=λz=>(hch p.1 z).2.2.2 p C rfl;show(keep p.1 p.2 F E f e n,free p.1 p.2 f e n,F,E,d)
theorem Inv.un(I:Inv X pins σ H s)(u:Un X.fs [] H H' s.heap h')(hok:ni X.prog X.w H' h'):Inv X pins σ H' { s with heap:=h',toks:=t' }:=by
 let(m,(o,k,l,f,r),_):=id I.loc;let(q,g):=u.any f I.free (by simp);show I.step (g':=s.gens) (d':=s.drawn) (ch:=[]) (λ_ z=>nomatch z) (λb o _ hb _ e n=>u.keep b o e n hb (by simp)) (λb o _ hb _ e n=>u.slot b o e n hb (by simp)) (λb o _ e n=>u.free b o e n (by simp)) (λb o _ e=>u.there b o e (by simp)) u.tups u.frzs u.tbls (λj i=>by
  let(p,c,d,a,h):=i;rw[f]at a;cases a;show(_,c,d,g,h)) hok I.bare
theorem Inv.call(I:Inv X pins σ H s)(u:Un (ll X.stack) ch H H' s.heap h')(hok:ni X.prog X.w H' h')(hg:ng g')
  (hch:∀ b∈ch,(b∈X.ex\/X.s₀.heap.objs.size<=b)/\b≠X.env.locals/\(∀ x c,X.env.cells.lookup x=some c->c≠b)/\∀ p∈X.pn++pins,p.1≠b) :
  Inv X pins σ H' { s with heap:=h',gens:=g',drawn:=d',toks:=t' }:=by
 let(m,(o,q,t,i,r),_):=id I.loc;let(y,f):=u.any i I.free λz=>(hch _ z).2.1 rfl;show I.step (ch:=ch) hch (λb o f hb a e n=>u.keep b o e n (λz=>(gW.mp (I.stkSub b z)).elim f hb) a) (λb o _ _ a e n=>u.any e n a) (λb o a e n=>u.free b o e n a) (λb o a e=>u.there b o e a) u.tups u.frzs u.tbls (λl k=>by
  let(v,g,h,d,j):=k;rw[i]at d;cases d;show(_,g,h,f,j)) hok hg
variable{it:Addr}
theorem Inv.turned(I:Inv X pins σ H s)(k:∀ b o,b≠it->s.heap.get? b=some o->h'.get? b=some o)(hn:H it=none)(hL:it≠X.env.locals)
  (h1:it∈X.ex\/X.s₀.heap.objs.size<=it) (h2:∀ x c,X.env.cells.lookup x=some c->c≠it) (h3:∀ p∈X.pn++pins,p.1≠it):Inv X pins σ H { s with heap:=h',toks:=t' }:=by
 have d:∀ b u,H b=some u->b≠it:=λb u e z=>by rw[z,hn]at e;cases e
 show I.step (g':=s.gens) (d':=s.drawn) (ch:=[it]) (λb hb=>?_) (λb o _ _ a e _=>k b o (λz=>a (by simp[z])) e) (λb o _ _ a e _=>⟨o.slots,k b o (λz=>a (by simp[z])) e⟩) (λ_ _ _ _ n=>n)
  (λb o a e=>⟨o,k b o (λz=>a (by simp[z])) e⟩) (λ_ _ e=>e) (λ_ _ _ e=>e) (λb j e=>⟨#[],by rw[e];simp⟩) (λm g=>?_) (λb u e=>?_) I.bare
 .have e:b=it:=by simpa using hb
  subst e;show(h1,hL,h2,h3)
 .let(o,h,i,f,r):=g;show(o,h,i,k _ o (iQ hL) f,r)
 .show(I.hok b u e).stay (λc v a q=>k c v ?_ q) (λ_ q=>q) λ_ _ q=>q;rcases a with z | z
  .rw[z];show d b u e
  .show d c _ z
theorem Inv.tok(I:Inv X pins σ H s)(t:Nat):Inv X pins σ H { s with toks:=t }:=I.un (h':=s.heap) (t':=t) Un.refl I.hok
theorem Inv.kept(I:Inv X pins σ H s)(k:∀ b u,s.heap.get? b=some u->h'.get? b=some u):Inv X pins σ H { s with heap:=h',toks:=t' }:=I.un (Un.kept k) (I.hok.kept k)
variable{o:HO}
theorem Inv.laid(I:Inv X pins σ H s)(k:∀ b u,s.heap.get? b=some u->h'.get? b=some u)(hp:s.heap.objs.size<=a)(new:jk X.prog X.w (upd H a o) h' a o) :
  Inv X pins σ (upd H a o) { s with heap:=h',toks:=t' }:=I.un (Un.laid k hp (I.hok.fresh hp)) (I.hok.laid k hp new)
theorem Inv.write(I:Inv X pins σ H s)(mu:Mut (H x))(he:e=x\/H e=some (.own x))(k:∀ b u,b≠e->s.heap.get? b=some u->h'.get? b=some u)(heo:∃ u,h'.get? e=some u)
  (new:jk X.prog X.w (upd H x o) h' x o):Inv X pins σ (upd H x o) { s with heap:=h',toks:=t' }:=I.un (Un.write mu he k heo) (I.hok.write mu he k heo new)
theorem Inv.pins_of{pins':List (Addr × Obj)}(I:Inv X pins σ H s)(h:∀ p∈pins',s.heap.get? p.1=some p.2/\H p.1=none/\p.1≠X.env.locals/\p.1∉X.fs/\∀ v,p.2.data≠.cell v):Inv X pins' σ H s :=
 ⟨I.ok,I.os,I.bare,I.base,I.loc,I.cell,I.free,I.freeC,λp a=>(List.mem_append.mp a).elim (λz=>I.pin p (List.mem_append_left _ z)) (h p),I.hok,I.len⟩
variable{N:List Str}
theorem Bm(hN:N.Nodup){i j:Nat}{x:Str}(a:N[i]?=some x)(b:N[j]?=some x):i=j:=by
 let(e,c):=cb.mp a;let(f,d):=cb.mp b;show(List.getElem_inj hN).mp (c.trans d.symm)
variable{M:Model}{x:Str}{v:V}{u:bV}{Q:Unit->b8->Prop}
theorem F6(I:Inv X pins σ H s)(hN:X.N.Nodup)(hi:X.N[i]?=some x)(hx:Loc X.env.scope x)(r:RelV v u)
  (h:∀ s',Inv X pins (σ.set i (some v)) H s'->(∃ a,jC a s.heap s'.heap/\(a=X.env.locals\/X.env.cells.lookup x=some a))->Q () s') (hf:autoParam (X.fn x=true\/X.env.scope.names.lookup x=some .local) Au):gu M A (storeName X.env x u) Q E s:=by
 let(m,W,hl):=id I.loc;have K:(X.env.scope.kind == .class||(X.env.scope.kind == .module&&X.env.locals != X.env.globals))=false:=by rw[I.ok.kind];rfl
 have hiσ : i<σ.length:=by rw[I.len];show(cb.mp hi).1
 have F:=I.cne;have g:∀{a:Addr}{G:Heap},(∃ o,s.heap.get? a=some o/\H a=none)->jC a s.heap G->ni X.prog X.w H G:=λ{a G} ha hs b ob e=>by
  let(_,_,t):=ha;show(I.hok b ob e).stay (λc S l q=>(hs.2 c ?_).trans q) (λ_ q=>q) λ_ _ q=>q;rintro rfl;rcases l with rfl | l
  .rw[t]at e;cases e
  .rw[t]at l;cases l
 rcases hx with hk | hk
 .show wpAny_storeName_local hk W (λG U hs=>?_) K;let(oL,_,_,a0,_):=id W;show h _ ⟨I.ok,I.os,I.bare,⟨λb o e n hb hx=>?_,λb o e n hb hx=>?_,I.base.free,λb o e hx=>?_,I.base.tups,I.base.frzs,I.base.tbls⟩,⟨_,U,λj y Z f B e3=>?_⟩,λy c e=>?_,I.free,I.freeC,λp Y=>?_,g ⟨oL,a0,I.free⟩ hs,by simpa using I.len⟩ ⟨_,hs, .inl rfl⟩
  .show(hs.2 b (cq (gv (b9 e) I.ok.above))).trans (I.base.keep b o e n hb hx)
  .let(sl,f):=I.base.slot b o e n hb hx;show(sl,(hs.2 b (cq (gv (b9 e) I.ok.above))).trans f)
  .let(o',f):=I.base.there b o e hx;show(o',(hs.2 b (cq (gv (b9 e) I.ok.above))).trans f)
  .by_cases D:j=i
   .subst D;rw[hi]at f;cases f;rw[ij hiσ]at B;cases B;show(u,r, .inl ⟨hk,by simp⟩)
   .rw[hU (iQ D)]at B;let(u',r',q):=hl j y Z f B e3;show(u',r',?_);rcases q with⟨k,e⟩ | ⟨k,c,e,z⟩
    .show .inl ⟨k,?_⟩;have : y≠x:=λe=>D (Bm hN f (e ▸ hi));simp[this,e]
    .show .inr ⟨k,c,e,z.sameBut hs (F y c e)⟩
  .let(S,z):=I.cell y c e;show(S,z.sameBut hs (F y c e))
  .let(e,n,T,nf,d):=I.pin p Y;show((hs.2 p.1 T).trans e,n,T,nf,d)
 .have C:X.fn x=true:=by
   rcases hf with z | z
   .show z
   .rw[z]at hk;cases hk
  let(c,l):=I.ok.has x (.inl hk);let(S,z):=I.cell x c l;show wpAny_storeName_cell I.ok.kind hk l z (λG P hs=>?_);let(oc,L,O):=id z;show h { s with heap:=G } ⟨I.ok,I.os,I.bare,⟨λb o e n hb hx=>?_,λb o e n hb hx=>?_,I.base.free,λb o e hx=>?_,I.base.tups,I.base.frzs,I.base.tbls⟩,⟨m,W.sameBut hs (iQ (F x c l)),λj y Z f B e3=>?_⟩,λy R e=>?_,I.free,I.freeC,λp Y=>?_,g ⟨oc,L,I.freeC x c l⟩ hs,by simpa using I.len⟩ ⟨c,hs, .inr l⟩
  .show(hs.2 b (cq (gv (b9 e) (I.ok.cab x c C l)))).trans (I.base.keep b o e n hb hx)
  .let(sl,f):=I.base.slot b o e n hb hx;show(sl,(hs.2 b (cq (gv (b9 e) (I.ok.cab x c C l)))).trans f)
  .let(o',f):=I.base.there b o e hx;show(o',(hs.2 b (cq (gv (b9 e) (I.ok.cab x c C l)))).trans f)
  .by_cases D:j=i
   .subst D;rw[hi]at f;cases f;rw[ij hiσ]at B;cases B;show(u,r, .inr ⟨.inl hk,c,l,P⟩)
   .rw[hU (iQ D)]at B;let(u',r',q):=hl j y Z f B e3;show(u',r',?_);rcases q with q | ⟨k,R,e,z'⟩
    .show .inl q
    .show .inr ⟨k,R,e,z'.sameBut hs ?_⟩;rintro rfl;show D (Bm hN f (I.ok.inj _ _ _ e l ▸ hi))
  .by_cases J:R=c
   .subst J;show(_,P)
   .let(w2,z2):=I.cell y R e;show(w2,z2.sameBut hs J)
  .let(e,n,T,nf,d):=I.pin p Y;show((hs.2 p.1 ?_).trans e,n,T,nf,d);intro q;rw[q,L]at e;have q':oc=p.2:=gL e;show d S (by rw[<- q'];show O)
theorem A8(I:Inv X pins σ H s)(hN:X.N.Nodup)(hi:X.N[i]?=some x)(hx:Loc X.env.scope x)(r:RelV v u)
  (h:∀ s',Inv X pins (σ.set i (some v)) H s'->Q () s') (hf:autoParam (X.fn x=true\/X.env.scope.names.lookup x=some .local) Au):gu M A (storeName X.env x u) Q E s :=
 F6 I hN hi hx r (λs' I' _=>h s' I') hf
variable{s':b8}
theorem Inv.call'(I:Inv X pins σ H s)(ho:s'.os=s.os)(u:Un (ll X.stack) ch H H' s.heap s'.heap)(hok:ni X.prog X.w H' s'.heap)(hg:ng s'.gens)
  (hch:∀ b∈ch,(b∈X.ex\/X.s₀.heap.objs.size<=b)/\b≠X.env.locals/\(∀ x c,X.env.cells.lookup x=some c->c≠b)/\∀ p∈X.pn++pins,p.1≠b):Inv X pins σ H' s':=by
 let(d,g',d',t',a):=s';have e:a=s.os:=ho;subst e;show I.call (g':=g') (t':=t') (d':=d') u hok hg hch
abbrev XK:=bV->Option Addr->Hp->Prop
abbrev St:=List (Option V)
abbrev VK:=V->Hp->Prop
abbrev TE:=St->Hp->VK->Prop
abbrev TT:=St->Hp->(Bool->Hp->Prop)->Prop
abbrev TA:=St->Hp->(List V->Hp->Prop)->Prop
structure Ends where
 nx:St->Hp->Prop
 rt:VK
 bk:St->Hp->Prop:=λ_ _=>False
 ct:St->Hp->Prop:=λ_ _=>False
abbrev TS:=Ends->St->Hp->Prop
def EP(X:Cx)(pins:List (Addr × Obj))(σ : St)(Q:VK)(u:bV)(s':b8):Prop:=∃ v H',Inv X pins σ H' s'/\RelV v u/\Q v H'
def TP(X:Cx)(pins:List (Addr × Obj))(σ : St)(Q:Bool->Hp->Prop)(b:Bool)(s':b8):Prop:=∃ H',Inv X pins σ H' s'/\Q b H'
def AP(X:Cx)(pins:List (Addr × Obj))(σ : St)(Q:List V->Hp->Prop)(us:List bV)(s':b8):Prop:=∃ vs H',Inv X pins σ H' s'/\Vals vs us/\Q vs H'
def SP(X:Cx)(pins:List (Addr × Obj))(D:Ends)(f:Flow)(s':b8):Prop :=
 match f with
 | .next=>∃ σ' H',Inv X pins σ' H' s'/\D.nx σ' H'
 | .brk=>∃ σ' H',Inv X pins σ' H' s'/\D.bk σ' H'
 | .cont=>∃ σ' H',Inv X pins σ' H' s'/\D.ct σ' H'
 | .ret u=>∃ v σ' H',Inv X pins σ' H' s'/\RelV v u/\D.rt v H'
def PE(X:Cx)(e:Expr)(t:TE):Prop :=
 ∀(pins:List (Addr × Obj))(s:b8)(σ : St)(H:Hp)(Q:VK),Inv X pins σ H s->t σ H Q->gu (gx X.prog X.w) X.A (eval e X.env) (EP X pins σ Q) X.xe s
def PT(X:Cx)(e:Expr)(t:TT):Prop :=
 ∀(pins:List (Addr × Obj))(s:b8)(σ : St)(H:Hp)(Q:Bool->Hp->Prop),Inv X pins σ H s->t σ H Q->gu (gx X.prog X.w) X.A (isTrue e X.env (eval e X.env)) (TP X pins σ Q) X.xe s
def PW(X:Cx)(e:Expr)(t:TT):Prop :=
 ∀(whole:Sem bV)(pins:List (Addr × Obj))(s:b8)(σ : St)(H:Hp)(Q:Bool->Hp->Prop),Inv X pins σ H s->t σ H Q->gu (gx X.prog X.w) X.A (isTrue e X.env whole) (TP X pins σ Q) X.xe s
variable{e:Expr}
theorem PW.pt{t:TT}(h:PW X e t):PT X e t:=h _
def PA(X:Cx)(es:List Expr)(t:TA):Prop :=
 ∀(pos:Pos)(pins:List (Addr × Obj))(s:b8)(σ : St)(H:Hp)(Q:List V->Hp->Prop),Inv X pins σ H s->t σ H Q->gu (gx X.prog X.w) X.A (spliced (iP pos (gy es X.env))) (AP X pins σ Q) X.xe s
def PS(X:Cx)(st:Stmt)(t:TS):Prop :=
 ∀(pins:List (Addr × Obj))(s:b8)(σ : St)(H:Hp)(D:Ends),Inv X pins σ H s->t D σ H->gu (gx X.prog X.w) X.A (exec st X.env) (SP X pins D) X.xe s
def o8(X:Cx)(st:List Stmt)(t:TS):Prop :=
 ∀(pins:List (Addr × Obj))(s:b8)(σ : St)(H:Hp)(D:Ends),Inv X pins σ H s->t D σ H->gu (gx X.prog X.w) X.A (execs st X.env) (SP X pins D) X.xe s
theorem jl{t:Sem α}{Q Q' : α->b8->Prop}(h:gu M A t Q E s)(hQ:∀ a s,Q a s->Q' a s):gu M A t Q' E s:=gJ h hQ λ_ _ x=>x
section
def xP(o:Option (Option V))(H:Hp)(Q:VK):Prop:=match o with
 | some (some v)=>Q v H
 | _=>False
theorem Ka{o:Option (Option V)}{Q:VK}(h:xP o H Q):∃ v,o=some (some v)/\Q v H:=by
 match o,h with
 | some (some v),h=>show(v,rfl,h)
def lj(x:V)(R:Bool->Prop):Prop:=match x with
 | .bl k=>R k
 | _=>False
theorem vV{x:V}{R:Bool->Prop}(h:lj x R):∃ k,x=.bl k/\R k:=by
 cases x with
 | bl k=>show(k,rfl,h)
 | _=>show h.elim
def lH(i:Nat):TE:=λσ H Q=>xP σ[i]? H Q
def tC(v:V):TE:=λ_ H Q=>Q v H
variable{pos:Pos}
theorem HL(hN:X.N[i]?=some x)(hv:Ag X.env.scope x)(hd:autoParam ((x == ("__debug__" : Str))=false) Au)(hcd:autoParam ((x == ("__classdict__" : Str))=false) Au):PE X (.Name x pos) (lH i):=by
 intro b s σ H Q I h;let(v,e,h):=Ka h;let(m,d,f):=I.loc;let(u,r,l):=f i x v hN e hv;have a:EP X b σ Q u s:=⟨v,H,I,r,h⟩;rcases l with⟨hk,hm⟩ | ⟨hk,c,hc,hcell⟩
 .show wpAny_Name (wpAny_loadName_local I.ok.kind hk d hm a) hd
 .rcases hk with hk | hk
  .show wpAny_Name (wpAny_loadName_cell I.ok.kind hk hc hcell a) hd
  .show wpAny_Name (wpAny_loadName_free I.ok.kind hk hc hcell a hcd) hd
theorem jA{i j pos}:PE X (.Constant (.int i) j pos) (tC (.int i)):=λ_ _ _ H _ I h=>wpAny_Constant_int ⟨.int i,H,I.tok _,⟨_,rfl⟩,h⟩
theorem jw{b j pos}:PE X (.Constant (.bool b) j pos) (tC (.bl b)):=λ_ _ _ H _ I h=>Constant_bool ⟨.bl b,H,I,rfl,h⟩
theorem nP{j pos}:PE X (.Constant .none j pos) (tC .non):=λ_ _ _ H _ I h=>Constant_none ⟨.non,H,I,rfl,h⟩
theorem gP{x j pos}:PE X (.Constant (.str x) j pos) (tC (.str x)):=λ_ _ _ H _ I h=>Calls.Constant_str ⟨.str x,H,I.tok _,⟨_,rfl⟩,h⟩
def Gl(X:Cx)(x:Str):Prop:=X.env.kindOf x=some .globalImplicit
variable{σ:St}{Q:bV->b8->Prop}
theorem uu(I:Inv X pins σ H s)(hg:Gl X x)(hm:X.mg x=some u)(h:Q u s)
  (hd:autoParam ((x == ("__debug__" : Str))=false) Au):gu (gx X.prog X.w) X.A (eval (.Name x pos) X.env) Q E s :=
 Calls.Name_function_global I.ok.kind hg (Calls.loadGlobal_global (by rw[I.ok.glob];show I.mod.glob.keeps I.bk) hm h) hd
theorem se(I:Inv X pins σ H s)(hg:Gl X x)(hm:X.mg x=none)(hv:gI x=some u)(h:Q u s)
  (hn:autoParam (x≠"__name__") Au) (hd:autoParam ((x == ("__debug__" : Str))=false) Au):gu (gx X.prog X.w) X.A (eval (.Name x pos) X.env) Q E s:=by
 let(c,b,a):=I.mod.blt;show Calls.Name_function_global I.ok.kind hg (Calls.loadGlobal_builtin (by rw[I.ok.glob];show I.mod.glob.keeps I.bk) hm (by rw[I.ok.blt];show b.keeps I.bk) ((a x hn).trans hv) h) hd
theorem n7(hg:Gl X x)(hm:X.mg x=some u)(r:RelV v u)(hd:autoParam ((x == ("__debug__" : Str))=false) Au):PE X (.Name x pos) (tC v) :=
 λ_ _ _ H _ I h=>uu I hg hm ⟨v,H,I,r,h⟩ hd
theorem sh(hg:Gl X x)(hm:X.mg x=none)(hv:gI x=some u)(r:RelV v u)(hn:autoParam (x≠"__name__") Au)(hd:autoParam ((x == ("__debug__" : Str))=false) Au):PE X (.Name x pos) (tC v) :=
 λ_ _ _ H _ I h=>se I hg hm hv ⟨v,H,I,r,h⟩ hn hd
variable{a b:Expr}{ta tb:TE}
def PC(X:Cx)(op:CmpOp)(a b:Expr)(t:TE):Prop :=
 ∀(pins:List (Addr × Obj))(s:b8)(σ : St)(H:Hp)(Q:VK),Inv X pins σ H s->t σ H Q ->
  gu (gx X.prog X.w) X.A (eval a X.env) (λv s₁=>gu (gx X.prog X.w) X.A (eval b X.env) (λu s₂=>gu (gx X.prog X.w) X.A (ib op v u) (EP X pins σ Q) X.xe s₂) X.xe s₁) X.xe s
def tB(t:TE):TT:=λσ H Q=>t σ H λx H1=>lj x λc=>Q c H1
variable{op:CmpOp}
theorem IX{t:TE}(h:PC X op a b t)(h1:autoParam (mD op b=false) Au):PE X (.Compare a [op] [b] pos) t:=λc s σ H Q I d=>wpAny_Compare1 (h c s σ H Q I d) h1
theorem p9{t:TE}(h:PC X op a b t)(h1:autoParam (mD op b=false) Au):PT X (.Compare a [op] [b] pos) (tB t):=by
 intro e s σ H Q I j;show wpAny_isTrue_Compare1 (jl (h e s σ H _ I j) λv m h1=>jl h1 λu l k=>jl k λc n ζ=>?_) h1;let(x,g,I1,i,f):=ζ;let(d,rfl,q):=vV f;cases i;show j9 ⟨g,I1,q⟩
theorem nH{t:TE}(h:PE X e t)(he:autoParam (∀ whole,isTrue e X.env whole=(do let v <- whole;standAt e.pos;holding [v] (truthy v))) Au):PT X e (tB t):=by
 intro a s σ H Q I f;show isTrue_plain (jl (h a s σ H _ I f) λv i ζ=>?_) (he _);let(x,b,I1,c,g):=ζ;let(d,rfl,q):=vV g;cases c;show j9 ⟨b,I1,q⟩
variable{tA tB':TT}{rest:List Expr}
def q5(t u:TT):TT:=λσ H Q=>t σ H λc H1=>if c=true then u σ H1 Q else Q false H1
def zX(t u:TT):TT:=λσ H Q=>t σ H λc H1=>if c=true then Q true H1 else u σ H1 Q
def qZ(t:TT):TT:=λσ H Q=>t σ H λc H1=>Q (!c) H1
theorem tJ(ha:PT X a tA):PW X (.BoolOp .And [a] pos) tA:=by
 intro d b s σ H Q I h;show isTrue_and (jl (ha b s σ H Q I h) λc f e=>?_);cases c with
 | true=>show isTrue_and_nil e
 | false=>show e
theorem pP(ha:PT X a tA):PW X (.BoolOp .Or [a] pos) tA:=by
 intro d b s σ H Q I h;show isTrue_or (jl (ha b s σ H Q I h) λc f e=>?_);cases c with
 | false=>show isTrue_or_nil e
 | true=>show e
theorem tF(ha:PT X a tA)(hb:PW X (.BoolOp .And (b::rest) pos) tB'):PW X (.BoolOp .And (a::b::rest) pos) (q5 tA tB'):=by
 intro g d s σ H Q I h;show isTrue_and (jl (ha d s σ H _ I h) λc i ζ=>?_);let(e,I1,f):=ζ;cases c with
 | true=>show hb g d i σ e Q I1 f
 | false=>show(e,I1,f)
theorem lu(ha:PT X a tA)(hb:PW X (.BoolOp .Or (b::rest) pos) tB'):PW X (.BoolOp .Or (a::b::rest) pos) (zX tA tB'):=by
 intro g d s σ H Q I h;show isTrue_or (jl (ha d s σ H _ I h) λc i ζ=>?_);let(e,I1,f):=ζ;cases c with
 | true=>show(e,I1,f)
 | false=>show hb g d i σ e Q I1 f
theorem ot(ha:PT X a tA):PT X (.UnaryOp .Not a pos) (qZ tA):=by
 intro b s σ H Q I h;show isTrue_not (ha b s σ H (λc d=>Q (!c) d) I h)
def rH(ta tb:TE):TE:=λσ H Q=>ta σ H λx H1=>lj x λc=>if c=true then tb σ H1 Q else Q (.bl false) H1
def uD(ta tb:TE):TE:=λσ H Q=>ta σ H λx H1=>lj x λc=>if c=true then Q (.bl true) H1 else tb σ H1 Q
def rE(ta:TE):TE:=λσ H Q=>ta σ H λx H1=>lj x λc=>Q (.bl (!c)) H1
theorem sd{op}{t:TE}(h:PE X a t):PE X (.BoolOp op [a] pos) t:=λb s σ H Q I c=>BoolOp_one (h b s σ H Q I c)
theorem rm(ha:PE X a ta)(hb:PE X (.BoolOp .And (b::rest) pos) tb):PE X (.BoolOp .And (a::b::rest) pos) (rH ta tb):=by
 intro d s σ H Q I h;show BoolOp_and (jl (ha d s σ H _ I h) λv i ζ=>?_);let(x,f,I1,g,e):=ζ;let(c,rfl,e):=vV e;cases g;show j9 ?_;cases c with
 | true=>show hb d i σ f Q I1 e
 | false=>show(.bl false,f,I1,rfl,e)
theorem rT(ha:PE X a ta)(hb:PE X (.BoolOp .Or (b::rest) pos) tb):PE X (.BoolOp .Or (a::b::rest) pos) (uD ta tb):=by
 intro d s σ H Q I h;show BoolOp_or (jl (ha d s σ H _ I h) λv i ζ=>?_);let(x,f,I1,g,e):=ζ;let(c,rfl,e):=vV e;cases g;show j9 ?_;cases c with
 | false=>show hb d i σ f Q I1 e
 | true=>show(.bl true,f,I1,rfl,e)
theorem Ay(ha:PE X a ta):PE X (.UnaryOp .Not a pos) (rE ta):=by
 intro b s σ H Q I h;show UnaryOp_ (jl (ha b s σ H _ I h) λv g ζ=>?_);let(x,e,I1,f,d):=ζ;let(c,rfl,d):=vV d;cases f;show not_of (j9 ⟨.bl (!c),e,I1,rfl,d⟩)
def yB(t:TT)(ta tb:TE):TE:=λσ H Q=>t σ H λc H1=>if c=true then ta σ H1 Q else tb σ H1 Q
variable{c:Expr}
theorem sH(hc:PT X c tA)(ha:PE X a ta)(hb:PE X b tb):PE X (.IfExp c a b pos) (yB tA ta tb):=by
 intro e s σ H Q I h;show wpAny_IfExp (jl (hc e s σ H _ I h) λd i ζ=>?_);let(f,I1,g):=ζ;cases d with
 | true=>show ha e i σ f Q I1 g
 | false=>show hb e i σ f Q I1 g
end
def jM(K:bY)(H:Hp)(a:Addr)(xs:List V):Prop :=
 Rd H a (.lst xs) \/
  ∃(o:Obj)(its:Array bV)(n:Nat),K.lookup a=some o/\o.cls=.type "list"/\o.dict=none/\o.data=.seq its n/\its.size<=sizeLine/\Vals xs its.toList
def mQ(K:bY)(H:Hp)(a:Addr)(xs:List V):Prop :=
 Rd H a (.tup xs) \/
  ∃(o:Obj)(its:Array bV)(n:Nat),K.lookup a=some o/\o.cls=.type "tuple"/\o.data=.seq its n/\its.size<=sizeLine/\Vals xs its.toList
def absV:bV->Option V
 | .none=>some .non
 | .bool b=>some (.bl b)
 | .int i _=>some (.int i)
 | .str x _=>some (.str x)
 | .bytes b _=>some (.byt b)
 | .float b _=>some (.flt b)
 | .ref a=>some (.ref a)
 | .type n=>some (.ty n)
 | _=>none
variable{x:V}
theorem RelV.abs(r:RelV x u):absV u=some x:=by
 cases x with
 | non=>cases r;rfl
 | bl _=>cases r;rfl
 | int _=>let(t,rfl):=r;rfl
 | str _=>let(t,rfl):=r;rfl
 | byt _=>let(t,rfl):=r;rfl
 | flt _=>let(t,rfl):=r;rfl
 | ref _=>cases r;rfl
 | ty _=>cases r;rfl
variable{y:V}
theorem RelV.inj(r:RelV x u)(q:RelV y u):x=y:=gL (r.abs.symm.trans q.abs)
theorem Vals.inj(h:Vals xs us)(k:Vals ys us):xs=ys:=by
 induction h generalizing ys with
 | nil=>cases k;rfl
 | cons r _ ih=>
  cases k with
  | cons q s=>rw[r.inj q,ih s]
variable{σ:St}
theorem jM.of{K:bY}(h:H a=some (.lst xs)):jM K H a xs:=.inl (.inl h)
theorem mQ.of{K:bY}(h:H a=some (.tup xs)):mQ K H a xs:=.inl (.inl h)
theorem Inv.list(I:Inv X pins σ H s)(h:jM X.K H a xs):∃ its:List bV,Vals xs its/\PlainL s.heap a its.toArray/\xs.length<=sizeLine:=by
 rcases h with h | ⟨o,its,n,hk,hc,hd,hs,hz,r⟩
 .let(z,its,n,r,e):=h.ok I.hok;show(its,r,⟨_,n,e,rfl,rfl,rfl⟩,z)
 .show(its.toList,r,⟨o,n,I.kIn a o hk,hc,hd,by simpa using hs⟩,?_);have e:=r.length;simp only[jy]at e;ac_nf
theorem Inv.tuple(I:Inv X pins σ H s)(h:mQ X.K H a xs):∃ its:List bV,Vals xs its/\IsTup s.heap a its.toArray/\xs.length<=sizeLine:=by
 rcases h with h | ⟨o,its,n,hk,hc,hs,hz,r⟩
 .let(z,its,r,p):=h.ok I.hok;show(its,r,p,z)
 .show(its.toList,r,⟨o,I.kIn a o hk,hc,n,by simpa using hs⟩,?_);have e:=r.length;simp only[jy]at e;ac_nf
theorem Inv.list_inj(I:Inv X pins σ H s)(h:jM X.K H a xs)(h':jM X.K H a ys):xs=ys:=by
 let(c,r,(o,n,e,_,_,d),_):=I.list h;let(b,i,(j,k,g,_,_,f),_):=I.list h';rw[e]at g;cases g;rw[d]at f;injection f with d1 _
 have : c=b:=by simpa using congrArg Array.toList d1
 subst this;show r.inj i
theorem Inv.tuple_inj(I:Inv X pins σ H s)(h:mQ X.K H a xs)(h':mQ X.K H a ys):xs=ys:=by
 let(c,r,(o,e,_,n,d),_):=I.tuple h;let(b,i,(j,g,_,k,f),_):=I.tuple h';rw[e]at g;cases g;rw[d]at f;injection f with d1 _
 have : c=b:=by simpa using congrArg Array.toList d1
 subst this;show r.inj i
abbrev Cx.wish(X:Cx)(E:bV->b8->Prop):Cx:={ X with xe:=E }
abbrev Cx.nox(X:Cx):Cx:=X.wish λ_ _=>False
theorem Cx.Ok.wish(ok:X.Ok)(E:bV->b8->Prop):(X.wish E).Ok :=
 ⟨ok.mod,ok.kind,ok.glob,ok.blt,ok.above,ok.inj,ok.has,ok.cab,ok.hd,ok.frames,ok.stk,ok.exf,ok.bs,ok.bsz,ok.noex,ok.exfs,ok.funs,ok.frf⟩
theorem Cx.Ok.unwish(ok:(X.wish E).Ok):X.Ok :=
 ⟨ok.mod,ok.kind,ok.glob,ok.blt,ok.above,ok.inj,ok.has,ok.cab,ok.hd,ok.frames,ok.stk,ok.exf,ok.bs,ok.bsz,ok.noex,ok.exfs,ok.funs,ok.frf⟩
theorem Inv.wish(I:Inv X pins σ H s)(E:bV->b8->Prop):Inv (X.wish E) pins σ H s:=⟨I.ok.wish E,I.os,I.bare,I.base,I.loc,I.cell,I.free,I.freeC,I.pin,I.hok,I.len⟩
theorem Inv.unwish(I:Inv (X.wish E) pins σ H s):Inv X pins σ H s:=⟨I.ok.unwish,I.os,I.bare,I.base,I.loc,I.cell,I.free,I.freeC,I.pin,I.hok,I.len⟩
theorem SP.unwish{D:Ends}{f:Flow}(h:SP (X.wish E) pins D f s'):SP X pins D f s':=by
 cases f with
 | next=>let(σ',a,I,q):=h;show(σ',a,I.unwish,q)
 | brk=>let(σ',a,I,q):=h;show(σ',a,I.unwish,q)
 | cont=>let(σ',a,I,q):=h;show(σ',a,I.unwish,q)
 | ret u=>let(v,σ',a,I,r,q):=h;show(v,σ',a,I.unwish,r,q)
theorem o8.nox{st:List Stmt}{t:TS}(h:o8 X.nox st t):o8 X st t:=λa s σ H D I b=>
 gJ (h a s σ H D (I.wish _) b) (λ_ _ q=>q.unwish) λ_ _ z=>i0 z
section
variable{st:Stmt}{u:TS}{te:TE}{pos:Pos}{rest:List Stmt}{t:TS}
def tNext:TS:=λD σ H=>D.nx σ H
def lY(t u:TS):TS:=λD σ H=>t { D with nx:=u D } σ H
theorem j8:o8 X [] tNext:=λ_ _ σ H _ I h=>lE ⟨σ,H,I,h⟩
theorem gH(h1:PS X st t)(h2:o8 X rest u):o8 X (st::rest) (lY t u):=by
 intro a s σ H D I h;show wpAny_execs_cons (jl (h1 a s σ H { D with nx:=u D } I h) λf c q=>?_);cases f with
 | next=>
  let(σ',b,I',q):=q;show h2 a c σ' b D I' q
 | ret v=>show q
 | brk=>show q
 | cont=>show q
theorem gQ(h1:PS X st t):o8 X [st] t:=by
 intro a s σ H D I h;show wpAny_execs_cons (jl (h1 a s σ H D I h) λf b q=>?_);cases f with
 | next=>show lE q
 | ret v=>show q
 | brk=>show q
 | cont=>show q
theorem Inv.quiet(I:Inv X pins σ H s):interactive X.env=false:=by simp[interactive,I.ok.kind]
def qE(te:TE):TS:=λD σ H=>te σ H λ_ H1=>D.nx σ H1
theorem oh(he:PE X e te)(hs:autoParam (swapsWith e none pos.line X.env=pure false) Au):PS X (.Expr e pos) (qE te):=by
 intro a s σ H D I h;show wpAny_Expr_any (jl (he a s σ H _ I h) λv f ζ=>by let(x,b,I1,d,c):=ζ;show(σ,b,I1,c)) I.quiet hs
def o4(te:TE):TS:=λD σ H=>te σ H D.rt
theorem iX(he:PE X e te):PS X (.Return (some e) pos) (o4 te):=by
 intro a s σ H D I h;show wpAny_Return_some (jl (he a s σ H _ I h) λv f ζ=>by let(x,b,I1,c,d):=ζ;show(x,σ,b,I1,c,d))
def tRetN:TS:=λD _ H=>D.rt .non H
def o5(c:TT)(t u:TS):TS:=λD σ H=>c σ H λb H1=>if b=true then t D σ H1 else u D σ H1
variable{c:Expr}{tc:TT}
theorem gM{a b:List Stmt}(hc:PT X c tc)(ha:o8 X a t)(hb:o8 X b u):PS X (.If c a b pos) (o5 tc t u):=by
 intro e s σ H D I h;show wpAny_If (jl (hc e s σ H _ I h) λd i ζ=>?_);let(f,I1,g):=ζ;cases d with
 | true=>show ha e i σ f D I1 g
 | false=>show hb e i σ f D I1 g
end
abbrev TG:=V->St->Hp->(St->Hp->Prop)->Prop
abbrev rk:=List V->St->Hp->(St->Hp->Prop)->Prop
def PG(X:Cx)(target:Expr)(t:TG):Prop :=
 ∀(pins:List (Addr × Obj))(s:b8)(σ : St)(H:Hp)(v:V)(u:bV)(Q:St->Hp->Prop),Inv X pins σ H s->RelV v u->t v σ H Q ->
  gu (gx X.prog X.w) X.A (assign target X.env u) (λ_ s'=>∃ σ' H',Inv X pins σ' H' s'/\Q σ' H') X.xe s
def ui(X:Cx)(ts:List Expr)(t:rk):Prop :=
 ∀(pins:List (Addr × Obj))(s:b8)(σ : St)(H:Hp)(vs:List V)(us:List bV)(Q:St->Hp->Prop),Inv X pins σ H s->Vals vs us->t vs σ H Q ->
  gu (gx X.prog X.w) X.A (assignInOrder ((mz ts X.env).map (·.2)) us) (λ_ s'=>∃ σ' H',Inv X pins σ' H' s'/\Q σ' H') X.xe s
variable{pos:Pos}
def nN(i:Nat):TG:=λv σ H Q=>Q (σ.set i (some v)) H
variable{x:Str}
theorem kQ(i:Nat)(hN:X.N.Nodup)(hi:autoParam (X.N[i]?=some x) Au)(hx:autoParam (Loc X.env.scope x) Au)(hf:autoParam (X.fn x=true\/X.env.scope.names.lookup x=some .local) Au):PG X (.Name x pos) (nN i):=by
 intro a s σ H v u Q I r h;show wpAny_assign_Name (A8 I hN hi hx r (λb I'=>⟨_,H,I',h⟩) hf)
def gNil:rk:=λvs σ H Q=>vs=[]/\Q σ H
def qI(t:TG)(u:rk):rk:=λvs σ H Q=>∃ v r,vs=v::r/\t v σ H λσ' H'=>u r σ' H' Q
theorem uq:ui X [] gNil:=by
 intro a s σ H b c Q I r h;let(e,h):=h;subst e;cases r;show assignInOrder_nil ⟨σ,H,I,h⟩
variable{es:List Expr}
theorem qc{t:TG}{u:rk}(h1:PG X e t)(h2:ui X es u)
  (hs:autoParam ((mz (e::es) X.env).map (·.2)=assign e X.env::(mz es X.env).map (·.2)) Au):ui X (e::es) (qI t u):=by
 intro a s σ H g j Q I r h;let(v,i,f,h):=h;subst f;cases r with
 | cons r rr=>
  rw[hs];show assignInOrder_cons (jl (h1 a s σ H _ _ _ I r h) λ_ d ζ=>?_);let(σ1,b,I1,c):=ζ;show h2 a d σ1 b _ _ Q I1 rr c
def uR(K:bY)(n:Nat)(t:rk):TG:=λv σ H Q=>∃ a xs,v=.ref a/\mQ K H a xs/\xs.length=n/\t xs σ H Q
theorem HK{k:Nat}{t:rk}{n:Nat}(hc:X.calm=true)(h:ui X es t)
  (hn:autoParam ((mz es X.env).length=n) Au) (hst:autoParam ((mz es X.env).findIdx? (·.1)=none) Au):PG X (.Tuple es k pos) (uR X.K n t):=by
 intro c s σ H v u Q I r d;let(a,g,p,m,q,d):=d;subst p;cases r;let(j,f,l,w):=I.tuple m;show assign_Tuple_tuple (I.ok.hd hc) l (by simp[hn, <- q,f.length]) hst λi hx=>?_;have I1:Inv X c σ H { s with heap:=i }:=I.kept (t':=s.toks) λb o e=>hx b o (cq (b9 e)) e;show h c _ σ H g _ Q I1 (by simpa using f) d
def oQ(te:TE)(g:TG):TS:=λD σ H=>te σ H λx H1=>g x σ H1 D.nx
variable{tg:Expr}{te:TE}
theorem HI{g:TG}(he:PE X e te)(hg:PG X tg g)(hs:autoParam (swapsWithSole [tg] e pos.line X.env=pure false) Au)(hw:autoParam (swappedStores [tg] e X.env=pure none) Au)
  (h1:autoParam ((mz [tg] X.env).map (·.2)=[assign tg X.env]) Au):PS X (.Assign [tg] e pos) (oQ te g):=by
 intro a s σ H D I h;show wpAny_Assign_stores (jl (he a s σ H _ I h) λv d ζ=>?_) hs hw;let(x,b,I1,c,f):=ζ;rw[h1];show jl (hg a d σ b x v _ I1 c f) λ_ i q=>q
variable{pos':Pos}
theorem iE(i:Nat)(hN:X.N.Nodup)(he:PE X e te)(hi:autoParam (X.N[i]?=some x) Au)(hx:autoParam (Loc X.env.scope x) Au)(hs:autoParam (swapsWith e (some (.Name x pos')) pos.line X.env=pure false) Au)(hf:autoParam (X.fn x=true\/X.env.scope.names.lookup x=some .local) Au) :
  PS X (.Assign [.Name x pos'] e pos) (oQ te (nN i)):=by
 intro a s σ H D I h;show wpAny_Assign_Name (jl (he a s σ H _ I h) λv g ζ=>?_) hs;let(y,b,I1,c,d):=ζ;show A8 I1 hN hi hx c (λf I2=>⟨_,b,I2,d⟩) hf
def EG(c:TT)(tb:TS):TS:=λD σ H=>∃ W:Nat->St->Hp->Prop,(∃ m,W m σ H)/\∀ m σ H,W m σ H ->
 c σ H λb H1=>if b=true then∃ N:St->Hp->Prop,(∀ σ' H',N σ' H'->∃ m',m'<m/\W m' σ' H')/\tb { D with nx:=N,ct:=N,bk:=D.nx } σ H1 else D.nx σ H1
variable{c:Expr}{body:List Stmt}{tb:TS}
theorem wC{tc:TT}(hp:PassesOwn (gx X.prog X.w) X.A X.env X.xe)(hc:PT X c tc)(hb:o8 X body tb):PS X (.While c body [] pos) (EG tc tb):=by
 intro a s σ H D I h;let(W,(y,u),e):=h;show wpAny_While (codeAny_whileLoop (λn z=>∃ σ' H',Inv X a σ' H' z/\W n σ' H') ?_ y ⟨σ,H,I,u⟩);rintro n x ⟨σ1,o,I1,r⟩;show kJ hp (jl (hc a x σ1 o _ I1 (e n σ1 o r)) λb t ζ=>?_);let(p,I2,g):=ζ;cases b with
 | true=>
  let(N,q,g):=g;rw[if_pos rfl];show kJ hp (jl (hb a t σ1 p _ I2 g) λf B i=>?_);cases f with
  | next=>
   let(σ3,d,I3,k):=i;let(j,l,m):=q σ3 d k;show(j,l,σ3,d,I3,m)
  | cont=>
   let(σ3,d,I3,k):=i;let(j,l,m):=q σ3 d k;show(j,l,σ3,d,I3,m)
  | brk=>show i
  | ret v=>show i
 | false=>
  rw[if_neg gC];show lE ⟨σ1,p,I2,g⟩
structure It where
 go:Nat->Hp->Prop
 yld:Nat->Hp->V->Hp->Prop
 stop:Nat->Hp->Prop
def oi(X:Cx)(pins:List (Addr × Obj))(H:Hp)(b:Addr):Prop :=
 H b=none/\b≠X.env.locals/\b∉X.fs/\(b∈X.ex\/X.s₀.heap.objs.size<=b)/\(∀ x c,X.env.cells.lookup x=some c->c≠b)/\∀ p∈X.pn++pins,p.1≠b
theorem Inv.fpOk(I:Inv X pins σ H s)(hb:s.heap.objs.size<=b)(hn:H' b=none):oi X pins H' b:=by
 show(hn,hB (gv I.lt hb),I.nofs hb, .inr (g0 I.sz hb),λx c e z=>?_,λp a z=>?_)
 .let(v,q):=I.cell x c e;show absurd (gv q.lt (by rw[z];show hb)) (il _)
 .show absurd (gv (b9 (I.pin p a).1) (by rw[z];show hb)) (il _)
structure Turn(P:gN)(w:ik)(K:bY)(tg:Expr)(J:It)(fp:List Addr)(it:Addr)(tn:Nat->Heap->Prop):Prop where
 mem:it∈fp
 obj:∀ i h,tn i h->∀ b∈fp, ∃ o,h.get? b=some o/\∀ v,o.data≠.cell v
 keep:∀ i h h',tn i h->(∀ b∈fp, ∀ o,h.get? b=some o->h'.get? b=some o)->tn i h'
 item:∀(X:Cx),X.prog=P->X.w=w->X.K=K->X.calm=true->∀(i:Nat)(pins:List (Addr × Obj))(s:b8)(σ : St)(H:Hp)(E:bV->b8->Prop),Inv X pins σ H s->(∀ b∈fp,oi X pins H b)->tn i s.heap->J.go i H ->
  gu (gx P w) X.A (pyNext (.ref it)) (λr s1=>∃ u,r=some u /\
   gu (gx P w) X.A (mT tg (.ref it) u) (λ_ s2=>∃ x H',Inv X pins σ H' s2/\RelV x u/\J.yld i H x H'/\tn (i+1) s2.heap/\∀ b∈fp,H' b=none) E s1) E s
 done:∀(X:Cx),X.prog=P->X.w=w->X.K=K->X.calm=true->∀(i:Nat)(pins:List (Addr × Obj))(s:b8)(σ : St)(H:Hp)(E:bV->b8->Prop),Inv X pins σ H s->(∀ b∈fp,oi X pins H b)->tn i s.heap->J.stop i H ->
  gu (gx P w) X.A (pyNext (.ref it)) (λr s1=>r=none/\Inv X pins σ H s1) E s
 self:∀(A:iM)(i:Nat)(s:b8)(Q:bV->b8->Prop)(E:bV->b8->Prop),tn i s.heap->Q (.ref it) s->gu (gx P w) A (pyIter (.ref it)) Q E s
abbrev TI:=St->Hp->(It->Hp->Prop)->Prop
def Aj(X:Cx)(pins:List (Addr × Obj))(σ : St)(tg:Expr)(R:It->Hp->Prop)(itv:bV)(s2:b8):Prop :=
 ∃(it:Addr)(fp:List Addr)(tn:Nat->Heap->Prop)(J:It)(H':Hp),itv=.ref it/\Inv X pins σ H' s2/\Turn X.prog X.w X.K tg J fp it tn/\tn 0 s2.heap/\(∀ b∈fp,oi X pins H' b)/\R J H'
def PI(X:Cx)(tg iter:Expr)(wi:TI):Prop :=
 ∀(pins:List (Addr × Obj))(s:b8)(σ : St)(H:Hp)(R:It->Hp->Prop),Inv X pins σ H s->wi σ H R ->
  gu (gx X.prog X.w) X.A (eval iter X.env) (λv s1=>gu (gx X.prog X.w) X.A (pyIter v) (Aj X pins σ tg R) X.xe s1) X.xe s
variable{o:Obj}
theorem oU{n:String}{vs:Array bV}(ho:s.heap.get? it=some o)(hc:o.cls=.type n)(hd:o.data=.fields vs)
    (hn:["enumerate","zip","dict_itemiterator","dict_reverseitemiterator","odict_iterator","itertools.zip_longest","itertools.pairwise"].contains n=false) (hQ:Q () s):gu M A (mT tg (.ref it) u) Q E s:=by
  unfold mT;cases tg <;> first
    | show gw hQ
    | (cases u <;> first
        | show gw hQ
        | (show bO (wpAny_load ho ?_)
           rw[hc,hd];show gu M A (if(["enumerate","zip","dict_itemiterator","dict_reverseitemiterator","odict_iterator","itertools.zip_longest","itertools.pairwise"].contains n&&vs[0]? == some (lL _))=true then _ else _) Q E s;rw[if_neg (by intro h;rw[hn,Bool.false_and]at h;cases h)];show gw hQ))
def wU(K:bY)(a:Addr):It :=
 ⟨λi H=>∃ xs x,jM K H a xs/\xs[i]?=some x,λi H x H'=>H'=H/\∀ xs,jM K H a xs->xs[i]?=some x,λi H=>∃ xs,jM K H a xs/\xs.length<=i⟩
def wR(K:bY)(a:Addr):It :=
 ⟨λi H=>∃ xs x,mQ K H a xs/\xs[i]?=some x,λi H x H'=>H'=H/\∀ xs,mQ K H a xs->xs[i]?=some x,λi H=>∃ xs,mQ K H a xs/\xs.length<=i⟩
def so(lo:Int)(n:Nat):It:=⟨λi _=>i<n,λi H x H'=>H'=H/\x=.int (lo+i),λi _=>n<=i⟩
theorem Mj{K:bY}(a it:Addr):Turn P w K tg (wU K a) [it] it (λi h=>h.IsListIter it a i) where
 mem:=by simp
 obj:=λi h f b hb=>by
  have e:b=it:=by simpa using hb
  subst e;let(o,e,c,d):=f;show(o,e,λv z=>by rw[d]at z;cases z)
 keep:=λi h l f k=>f.at λo e=>k it (by simp) o e
 item:=by
  intro X D C hK J i g s σ H E I n f t;subst D C hK;let(M,x,m,hx):=t;let(y,B,p,T):=I.list m;let(u,O,R):=B.get hx;let(q,r,Q,A,F,G):=n it (by simp);show wpAny_pyNext_list_item f p.isList (x:=u) (by simpa using O) λl j L=>?_;have I1:Inv X g σ H { s with heap:=l }:=I.turned (t':=s.toks) (λb o hb e=>(L.2 b hb).trans e) q r A F G;let(o,e,c,d):=id j;show(u,rfl,oU (s:={ s with heap:=l }) e c d ⋯ ⟨x,H,I1,R,⟨rfl,λU S=>by rw[I.list_inj S m];show hx⟩,j,λb hb=>(n b hb).1⟩)
 done:=by
  intro X D C hK J i g s σ H E I n f t;subst D C hK;let(M,m,hx):=t;let(y,B,p,T):=I.list m;let(q,r,Q,A,F,G):=n it (by simp);have V:=B.length;show wpAny_pyNext_list_end (I.ok.hd J) f p.isList (by simp;ac_nf) λl N=>⟨rfl,I.turned (t':=s.toks) (λb o hb e=>N b o hb e) q r A F G⟩
 self:=λ_ _ _ _ _ f h=>wpAny_pyIter_listiter f h
theorem Nq{K:bY}(a it:Addr):Turn P w K tg (wR K a) [it] it (λi h=>h.IsTupleIter it a i) where
 mem:=by simp
 obj:=λi h f b hb=>by
  have e:b=it:=by simpa using hb
  subst e;let(o,e,c,d):=f;show(o,e,λv z=>by rw[d]at z;cases z)
 keep:=λi h m f k=>f.at λo e=>k it (by simp) o e
 item:=by
  intro X D C hK J i g s σ H E I q f y;subst D C hK;let(M,x,n,hx):=y;let(j,B,p,T):=I.tuple n;let(u,O,R):=B.get hx;let(r,t,Q,A,F,G):=q it (by simp);show wpAny_pyNext_tuple_item f (show s.heap.IsTuple a j.toArray from p) (x:=u) (by simpa using O) λm l L=>?_;have I1:Inv X g σ H { s with heap:=m }:=I.turned (t':=s.toks) (λb o hb e=>(L.2 b hb).trans e) r t A F G;let(o,e,c,d):=id l;show(u,rfl,oU (s:={ s with heap:=m }) e c d ⋯ ⟨x,H,I1,R,⟨rfl,λU S=>by rw[I.tuple_inj S n];show hx⟩,l,λb hb=>(q b hb).1⟩)
 done:=by
  intro X D C hK J i g s σ H E I q f y;subst D C hK;let(M,n,hx):=y;let(j,B,p,T):=I.tuple n;let(r,t,Q,A,F,G):=q it (by simp);have V:=B.length;show wpAny_pyNext_tuple_end (I.ok.hd J) f (show s.heap.IsTuple a j.toArray from p) (by simp;ac_nf) λm N=>⟨rfl,I.turned (t':=s.toks) (λb o hb e=>N b o hb e) r t A F G⟩
 self:=λ_ _ _ _ _ f h=>wpAny_pyIter_tupleiter f h
theorem Nr{K:bY}(it:Addr)(lo:Int)(n:Nat):Turn P w K tg (so lo n) [it] it (λi h=>IsRangeIter h it (lo+(i:Nat)*1) ((n:Int)-(i:Nat)) 1) where
 mem:=by simp
 obj:=λi h a b hb=>by
  have e:b=it:=by simpa using hb
  subst e;show(_,a,λv z=>by
   have B:Data.fields _=Data.cell v:=z;cases B)
 keep:=λi h f a k=>k it (by simp) _ a
 item:=by
  intro X u q hK r i c s σ H E I g a m;subst u q hK;let(j,l,G,p,x,y):=g it (by simp);have W:=Walks.range (prog:=X.prog) (w:=X.w) (I.ok.hd r) it lo 1 n;show W.item i s _ _ m a λv f A D d F=>?_;let(t,rfl):=D;have I1:Inv X c σ H { s with heap:=f,toks:=A }:=I.turned (λb o hb e=>F b o (by simpa using hb) e) j l p x y;show(_,rfl,oU (s:={ s with heap:=f,toks:=A }) (n:="range_iterator") d rfl rfl ⋯ ⟨.int (lo+i),H,I1,⟨t,?_⟩,⟨rfl,rfl⟩,d,λb hb=>(g b hb).1⟩);rw[Int.mul_one]
 done:=by
  intro X u q hK r i c s σ H E I g a m;subst u q hK;let(j,l,G,p,x,y):=g it (by simp);show wpAny_pyNext_range_end (I.ok.hd r) a (by have : n<=i:=m;ac_nf) λf C=>⟨rfl,I.turned (t':=s.toks) (λb o hb e=>C b o hb e) j l p x y⟩
 self:=λ_ _ _ _ _ a h=>wpAny_pyIter_rangeiter a h
variable{lo:Int}
theorem Lx{R:It->Hp->Prop}{hi:Int}{t u v:Tok}{tk:Nat}(I:Inv X pins σ H s)(h1 : -(2 ^ 62)<=lo)(h2:lo<2 ^ 62)(h3 : -(2 ^ 62)<=hi)(h4:hi<2 ^ 62)
  (q:R (so lo (hi-lo).toNat) H):gu (gx X.prog X.w) X.A (pyIter (.ref s.heap.objs.size)) (Aj X pins σ tg R) E { s with heap:=s.heap.push { cls:=.type "range",data:=.fields #[.int lo t, .int hi u, .int 1 v] },toks:=tk }:=by
 show wpAny_pyIter_range (IsRange.new ..) (small_one h1 h2 h3 h4) ?_;have I1:Inv X pins σ H { s with heap:=s.heap.push { cls:=.type "range",data:=.fields #[.int lo t, .int hi u, .int 1 v] },toks:=tk }:=I.kept λb o e=>bW _ e;show((s.heap.push { cls:=.type "range",data:=.fields #[.int lo t, .int hi u, .int 1 v] }).objs.size,[(s.heap.push { cls:=.type "range",data:=.fields #[.int lo t, .int hi u, .int 1 v] }).objs.size],_,_,H,rfl,
  I1.kept (t':=tk) λb o e=>bW _ e,Nr _ lo (hi-lo).toNat,?_,λb hb=>?_,q)
 .have c:lo+((0:Nat):Int)*1=lo:=by simp
  have a:(((hi-lo).toNat:Nat):Int)-((0:Nat):Int)=Builtin.Range.rangeSize lo hi 1:=by rw[rangeSize_one];split <;> ac_nf
  show IsRangeIter _ _ (lo+((0:Nat):Int)*1) ((((hi-lo).toNat:Nat):Int)-((0:Nat):Int)) 1;rw[c,a];show ck _ rfl
 .have e:b=(s.heap.push { cls:=.type "range",data:=.fields #[.int lo t, .int hi u, .int 1 v] }).objs.size:=by simpa using hb
  subst e;show I1.fpOk (cB _) (I1.hok.fresh (cB _))
def qH(ta:TA):TI:=λσ H R=>ta σ H λvs H1=>∃ j:Int,vs=[.int j]/\-(2 ^ 62)<=j/\j<2 ^ 62/\R (so 0 j.toNat) H1
def xI(ta:TA):TI:=λσ H R=>ta σ H λvs H1=>∃ i j:Int,vs=[.int i, .int j]/\(-(2 ^ 62)<=i/\i<2 ^ 62/\-(2 ^ 62)<=j/\j<2 ^ 62)/\R (so i (j-i).toNat) H1
variable{a:Expr}
theorem Gv{ta:TA}{p:Pos}(hg:Gl X "range")(hm:X.mg "range"=none)(ha:PA X [a] ta)(hs:autoParam (gy [a] X.env=[(false,eval a X.env)]) Au):PI X tg (.Call (.Name "range" p) [a] [] pos) (qH ta):=by
 intro b s σ H R I h;show Call_ (se I hg hm boot_range (ie (jl (ha pos b s σ H _ I h) λk l ζ=>?_) hs rfl));let(i,g,I1,f,c):=ζ;let(j,e,c,d,q):=c;subst e;cases f with
 | cons r rr=>
  cases rr;let(t,rfl):=r;show call_range_1 (Lx I1 ∅ ∅ c d (by simpa using q))
def pU(wi:TI)(g:TG)(tb:TS):TS:=λD σ H=>wi σ H λJ H1=>∃ W:Nat->Nat->St->Hp->Prop,(∃ m,W 0 m σ H1)/\∀ i m σ H,W i m σ H ->
 (J.stop i H/\D.nx σ H)\/(J.go i H/\∃ N:St->Hp->Prop,(∀ σ' H',N σ' H'->∃ m',m'<m/\W (i+1) m' σ' H')/\∀ x H',J.yld i H x H'->g x σ H' λσ2 H2=>tb { D with nx:=N,ct:=N,bk:=D.nx } σ2 H2)
def yY(fp:List Addr)(h:Heap):List (Addr × Obj):=fp.filterMap λb=>(h.get? b).map λo=>(b,o)
variable{fp:List Addr}
theorem wG(hb:b∈fp)(e:h.get? b=some o):(b,o)∈yY fp h:=jt.mpr ⟨b,hb,by rw[e];rfl⟩
theorem Nj{p:Addr × Obj}(hp:p∈yY fp h):p.1∈fp/\h.get? p.1=some p.2:=by
 let(b,hb,e):=jt.mp hp;cases q:h.get? b with
 | none=>rw[q]at e;cases e
 | some o=>
  rw[q]at e;have a:(b,o)=p:=gL e;subst a;show(hb,q)
theorem Inv.pinned(I:Inv X pins σ H s)(hf:∀ b∈fp,oi X pins H b)(ho:∀ b∈fp, ∃ o,s.heap.get? b=some o/\∀ v,o.data≠.cell v):Inv X (pins++yY fp s.heap) σ H s :=
 I.pins_of λp f=>(List.mem_append.mp f).elim (λz=>I.pin p (hG _ z)) λz=>by
  let(hb,e):=Nj z;let(c,h,g,_):=hf p.1 hb;let(o,a,d):=ho p.1 hb;rw[e]at a;cases a;show(e,c,h,g,d)
theorem Inv.unpinned{pl:List (Addr × Obj)}(I:Inv X (pins++pl) σ H s):Inv X pins σ H s:=I.pins_of λp a=>I.pin p (hG _ (List.mem_append_left _ a))
theorem nD{iter:Expr}{wi:TI}{g:TG}(hp:PassesOwn (gx X.prog X.w) X.A X.env X.xe)(hc:X.calm=true)(hi:PI X tg iter wi)(hg:PG X tg g)(hb:o8 X body tb)
  (hs:autoParam (∀ x,foldedSetIterable iter X.env x=pure x) Au):PS X (.For tg iter body [] pos) (pU wi g tb):=by
 intro a s σ H D I h;show wpAny_For (jl (hi a s σ H _ I h) λv s1 h1=>jl h1 λa0 s2 h2=>?_) hs;let(it,q,M,J,H2,e,I2,T,F,R,W,(m0,V),z):=h2;subst e;have c:∀{H':Hp},(∀ b∈q,H' b=none)->∀ b∈q,oi X a H' b:=λU b hb=>⟨U b hb,(R b hb).2⟩;show codeAny_forLoop_any (λn Q=>∃ i σ' H',Inv X a σ' H' Q/\M i Q.heap/\(∀ b∈q,H' b=none)/\W i n σ' H') ?_ m0 ⟨0,σ,H2,I2,F,λb hb=>(R b hb).1,V⟩;intro n L z_;let(i,σ3,C,I3,B,y,w3):=z_;rcases z i n σ3 C w3 with⟨stop,qn⟩ | ⟨go,N,hN,step⟩
 .show kJ hp (jl (T.done X rfl rfl rfl hc i a L σ3 C X.xe I3 (c y) B stop) λr Y ⟨G,I4⟩=>?_);subst G;show lE ⟨σ3,C,I4,qn⟩
 .show kJ hp (jl (T.item X rfl rfl rfl hc i a L σ3 C X.xe I3 (c y) B go) λr Y ζ=>?_);let(u,G,h4):=ζ;subst G;show kJ hp (jl h4 λ_ O ζ=>?_);let(x,P,I5,r5,y5,p,E):=ζ;have I5':=I5.pinned (c E) (T.obj _ _ p);show kJ hp (jl (hg _ O σ3 P x u _ I5' r5 (step x P y5)) λ_ s6 ζ=>?_);let(σ6,S,I6,q6):=ζ;show kJ hp (jl (hb _ s6 σ6 S _ I6 q6) λf K l=>?_);have k:∀{σ7:St}{j:Hp},Inv X (a++yY q O.heap) σ7 j K->N σ7 j->∃ m,m<n/\∃ i σ' H',Inv X a σ' H' K/\M i K.heap/\(∀ b∈q,H' b=none)/\W i m σ' H':=λ{σ7 j} I7 t=>by
   let(Z,hm,w7):=hN σ7 j t;show(Z,hm,i+1,σ7,j,I7.unpinned,T.keep _ _ _ p λb hb o e=>(I7.pin (b,o) (hG _ (hG _ (wG hb e)))).1,λb hb=>?_,w7);let(o,e,d):=T.obj _ _ p b hb;show(I7.pin (b,o) (hG _ (hG _ (wG hb e)))).2.1
  cases f with
  | next=>let(σ7,j,I7,t):=l;show k I7 t
  | cont=>let(σ7,j,I7,t):=l;show k I7 t
  | brk=>let(σ7,j,I7,l):=l;show(σ7,j,I7.unpinned,l)
  | ret v=>let(x7,σ7,j,I7,r7,l):=l;show(x7,σ7,j,I7.unpinned,r7,l)
variable{n:Nat}
theorem Nd{g:TG}{D:Ends}(Pv:Nat->St->Hp->Prop)(h0:Pv 0 σ H)
  (hs:∀ i σ H,i<n->Pv i σ H->g (.int (lo+i)) σ H λσ2 H2=>tb { D with nx:=Pv (i+1),ct:=Pv (i+1),bk:=D.nx } σ2 H2) (hd:∀ σ H,Pv n σ H->D.nx σ H) :
  ∃ W:Nat->Nat->St->Hp->Prop,(∃ m,W 0 m σ H)/\∀ i m σ H,W i m σ H ->
   ((so lo n).stop i H/\D.nx σ H)\/((so lo n).go i H/\∃ N:St->Hp->Prop,(∀ σ' H',N σ' H'->∃ m',m'<m/\W (i+1) m' σ' H')/\∀ x H',(so lo n).yld i H x H'->g x σ H' λσ2 H2=>tb { D with nx:=N,ct:=N,bk:=D.nx } σ2 H2):=by
 show(λi m σ H=>m=n-i/\i<=n/\Pv i σ H,⟨n,by simp,kM _,h0⟩,?_);rintro i m σ H ⟨rfl,c,p⟩;by_cases a:i<n
 .show .inr ⟨a,Pv (i+1),λσ' H' b=>⟨n-(i+1),∅,rfl,a,b⟩,λx H' y=>?_⟩;let(e,y):=y;subst e y;show hs i σ _ a p
 .have e:i=n:=by ac_nf
  subst e;show .inl ⟨cB _,hd σ H p⟩
abbrev R2:=V->V->Hp->VK->Prop
def mX(X:Cx)(f:bV->bV->Sem bV)(r:R2):Prop :=
 ∀(pins:List (Addr × Obj))(s:b8)(σ : St)(H:Hp)(x y:V)(v u:bV)(Q:VK),Inv X pins σ H s->RelV x v->RelV y u->r x y H Q ->
  gu (gx X.prog X.w) X.A (f v u) (EP X pins σ Q) X.xe s
def Ah(X:Cx)(f:bV->Sem bV)(r:V->Hp->VK->Prop):Prop :=
 ∀(pins:List (Addr × Obj))(s:b8)(σ : St)(H:Hp)(x:V)(v:bV)(Q:VK),Inv X pins σ H s->RelV x v->r x H Q ->
  gu (gx X.prog X.w) X.A (f v) (EP X pins σ Q) X.xe s
def ky(X:Cx)(f:bV)(r:List V->Hp->VK->Prop):Prop :=
 ∀(pins:List (Addr × Obj))(s:b8)(σ : St)(H:Hp)(xs:List V)(us:List bV)(Q:VK),Inv X pins σ H s->Vals xs us->r xs H Q ->
  gu (gx X.prog X.w) X.A (call f us) (EP X pins σ Q) X.xe s
def om(r:R2)(ta tb:TE):TE:=λσ H Q=>ta σ H λx H1=>tb σ H1 λy H2=>r x y H2 Q
def yA(r:V->Hp->VK->Prop)(ta:TE):TE:=λσ H Q=>ta σ H λx H1=>r x H1 Q
def rI(C:Int->Int->Prop)(g:Int->Int->V):R2:=λx y H Q=>∃ i j,x=.int i/\y=.int j/\C i j/\Q (g i j) H
def rR(g:Int->Int->V):R2:=λx y H Q=>∃ i j,x=.int i/\y=.int j/\Q (g i j) H
def rU(g:Int->V):V->Hp->VK->Prop:=λx H Q=>∃ i,x=.int i/\Q (g i) H
variable{b:Expr}{ta tb tc:TE}
theorem uX(ha:PE X a ta)(hb:PE X b tb){pins:List (Addr × Obj)}{s:b8}{σ : St}{H:Hp}{R:V->V->Hp->Prop}(I:Inv X pins σ H s)
  (h:ta σ H λx H1=>tb σ H1 λy H2=>R x y H2) {Q:bV->b8->Prop} {f:bV->bV->Sem bV}
  (hf:∀ v u s2 x y H2,Inv X pins σ H2 s2->RelV x v->RelV y u->R x y H2->gu (gx X.prog X.w) X.A (f v u) Q X.xe s2) :
  gu (gx X.prog X.w) X.A (eval a X.env) (λv s₁=>gu (gx X.prog X.w) X.A (eval b X.env) (λu s₂=>gu (gx X.prog X.w) X.A (f v u) Q X.xe s₂) X.xe s₁) X.xe s:=by
 show jl (ha pins s σ H _ I h) λv g ζ=>?_;let(x,H1,I1,e,i):=ζ;show jl (hb pins g σ H1 _ I1 i) λu s2 ζ=>?_;let(y,H2,I2,c,d):=ζ;show hf v u s2 x y H2 I2 e c d
theorem gR{op:Operator}{r:R2}(ho:mX X (kb op) r)(ha:PE X a ta)(hb:PE X b tb):PE X (.BinOp a op b pos) (om r ta tb):=by
 intro c s σ H Q I h;show wpAny_BinOp (uX ha hb I h λv u e x y f I2 g d q=>ho c e σ f x y v u Q I2 g d q)
theorem pq{op:UnaryOp}{r:V->Hp->VK->Prop}(ho:Ah X (unaryOp op) r)(ha:PE X a ta):PE X (.UnaryOp op a pos) (yA r ta):=by
 intro b s σ H Q I h;show UnaryOp_ (jl (ha b s σ H _ I h) λv e ζ=>by let(x,c,I1,d,f):=ζ;show ho b e σ c x v Q I1 d f)
theorem z3{f:bV->bV->Sem bV}{C:Int->Int->Prop}{g:Int->Int->Int}
  (rule:∀(i j:Int)(t u:Tok)(s:b8)(Q:bV->b8->Prop)(E:bV->b8->Prop),C i j->Q (.int (g i j) s.toks) { s with toks:=s.toks+1 }->gu (gx X.prog X.w) X.A (f (.int i t) (.int j u)) Q E s) :
  mX X f (rI C λi j=>.int (g i j)):=by
 intro a s σ H x y v u Q I d b h;let(i,j,rfl,rfl,c,q):=h;let(t,rfl):=d;let(e,rfl):=b;show rule i j t e s _ _ c ⟨.int (g i j),H,I.tok _,⟨_,rfl⟩,q⟩
theorem xu{f:bV->bV->Sem bV}{g:Int->Int->Int}
  (rule:∀(i j:Int)(t u:Tok)(s:b8)(Q:bV->b8->Prop)(E:bV->b8->Prop),Q (.int (g i j) s.toks) { s with toks:=s.toks+1 }->gu (gx X.prog X.w) X.A (f (.int i t) (.int j u)) Q E s) :
  mX X f (rR λi j=>.int (g i j)):=by
 intro a s σ H x y v u Q I c b h;let(i,j,rfl,rfl,q):=h;let(t,rfl):=c;let(d,rfl):=b;show rule i j t d s _ _ ⟨.int (g i j),H,I.tok _,⟨_,rfl⟩,q⟩
theorem uK{f:bV->bV->Sem bV}{g:Int->Int->Bool}
  (rule:∀(i j:Int)(t u:Tok)(s:b8)(Q:bV->b8->Prop)(E:bV->b8->Prop),Q (.bool (g i j)) s->gu (gx X.prog X.w) X.A (f (.int i t) (.int j u)) Q E s) :
  mX X f (rR λi j=>.bl (g i j)):=by
 intro a s σ H x y v u Q I c b h;let(i,j,rfl,rfl,q):=h;let(t,rfl):=c;let(d,rfl):=b;show rule i j t d s _ _ ⟨.bl (g i j),H,I,rfl,q⟩
def yr(i j:Int):Prop:=0<=j/\j<=1000000/\i.natAbs<2 ^ 64
theorem Je:mX X (kb .Add) (rR λi j=>.int (i+j)):=xu λ_ _ _ _ _ _ _ q=>add_int q
theorem I0:mX X (kb .Sub) (rR λi j=>.int (i-j)):=xu λ_ _ _ _ _ _ _ q=>sub_int q
theorem Jn:mX X (kb .Mod) (rI (λ_ j=>j≠0) λi j=>.int (i.fmod j)):=z3 λ_ _ _ _ _ _ _ a q=>mod_int' a q
theorem Hq{f:bV->Sem bV}{g:Int->Int}
  (rule:∀(i:Int)(t:Tok)(s:b8)(Q:bV->b8->Prop)(E:bV->b8->Prop),Q (.int (g i) s.toks) { s with toks:=s.toks+1 }->gu (gx X.prog X.w) X.A (f (.int i t)) Q E s) :
  Ah X f (rU λi=>.int (g i)):=by
 intro a s σ H x v Q I b h;let(i,rfl,q):=h;let(t,rfl):=b;show rule i t s _ _ ⟨.int (g i),H,I.tok _,⟨_,rfl⟩,q⟩
theorem vP:Ah X (unaryOp .USub) (rU λi=>.int (-i)):=Hq λ_ _ _ _ _ q=>neg_int q
def scal:V->V->Bool
 | .non, .non=>true | .non, .int _=>true | .int _, .non=>true | .non, .bl _=>true | .bl _, .non=>true | .non, .str _=>true | .str _, .non=>true
 | .int _, .int _=>true | .bl _, .bl _=>true | .str _, .str _=>true | .byt _, .byt _=>true
 | .int _, .str _=>true | .str _, .int _=>true | .bl _, .str _=>true | .str _, .bl _=>true
 | _,_=>false
def rEq:R2:=λx y H Q=>scal x y=true/\Q (.bl (decide (x=y))) H
def rNe:R2:=λx y H Q=>scal x y=true/\Q (.bl (!decide (x=y))) H
theorem FH{i j:Int}:decide (V.int i=V.int j)=(i == j):=by
 rw[mv];simp
theorem EM{i j:Bool}:decide (V.bl i=V.bl j)=(i == j):=by
 rw[mv];simp
theorem FG{i j:Str}:decide (V.str i=V.str j)=(i == j):=by
 rw[mv];simp
theorem FI{i j:Array UInt8}:decide (V.byt i=V.byt j)=(i.toList == j.toList):=by
 rw[mv];cases i;cases j;simp
theorem nV{Q:VK}{k k':Bool}(I:Inv X pins σ H s)(q:Q (.bl k) H)(e:k=k'):EP X pins σ Q (.bool k') s:=by
 subst e;show(.bl k,H,I,rfl,q)
theorem op_eq:mX X (ib .Eq) rEq:=by
 intro d s σ H x y v u Q I c a h;let(hs,q):=h;cases x with
 | non=>
  cases c;cases y with
  | non=>cases a;show PySem.EqNone.eq_none_none (nV I q (by simp))
  | bl j=>cases a;show PySem.EqNone.eq_none_bool (nV I q (by simp))
  | int j=>let(b,rfl):=a;show PySem.EqNone.eq_none_int (nV I q (by simp))
  | str j=>let(b,rfl):=a;show PySem.EqNone.eq_none_str (nV I q (by simp))
  | _=>show absurd (show false=true from hs) gC
 | bl i=>
  cases c;cases y with
  | non=>cases a;show PySem.EqNone.eq_bool_none (nV I q (by simp))
  | bl j=>cases a;show eq_bool (nV I q EM)
  | str j=>let(b,rfl):=a;show PySem.EqMixed.eq_bool_str (nV I q (by simp))
  | _=>show absurd (show false=true from hs) gC
 | int i=>
  let(t,rfl):=c;cases y with
  | non=>cases a;show PySem.EqNone.eq_int_none (nV I q (by simp))
  | int j=>let(b,rfl):=a;show eq_int (nV I q FH)
  | str j=>let(b,rfl):=a;show PySem.EqMixed.eq_int_str (nV I q (by simp))
  | _=>show absurd (show false=true from hs) gC
 | str i=>
  let(t,rfl):=c;cases y with
  | non=>cases a;show PySem.EqNone.eq_str_none (nV I q (by simp))
  | bl j=>cases a;show PySem.EqMixed.eq_str_bool (nV I q (by simp))
  | int j=>let(b,rfl):=a;show PySem.EqMixed.eq_str_int (nV I q (by simp))
  | str j=>let(b,rfl):=a;show eq_str (nV I q FG)
  | _=>show absurd (show false=true from hs) gC
 | byt i=>
  let(t,rfl):=c;cases y with
  | byt j=>let(b,rfl):=a;show W.eq_bytes (nV I q FI)
  | _=>show absurd (show false=true from hs) gC
 | _=>cases y <;> show absurd (show false=true from hs) gC
theorem op_ne:mX X (ib .NotEq) rNe:=by
 intro d s σ H x y v u Q I c a h;let(hs,q):=h;cases x with
 | non=>
  cases c;cases y with
  | non=>cases a;show PySem.EqNone.ne_none_none (nV I q (by simp))
  | bl j=>cases a;show PySem.EqNone.ne_none_bool (nV I q (by simp))
  | int j=>let(b,rfl):=a;show PySem.EqNone.ne_none_int (nV I q (by simp))
  | str j=>let(b,rfl):=a;show PySem.EqNone.ne_none_str (nV I q (by simp))
  | _=>show absurd (show false=true from hs) gC
 | bl i=>
  cases c;cases y with
  | non=>cases a;show PySem.EqNone.ne_bool_none (nV I q (by simp))
  | bl j=>cases a;show ne_bool (nV I q (congrArg not EM))
  | str j=>let(b,rfl):=a;show PySem.EqMixed.ne_bool_str (nV I q (by simp))
  | _=>show absurd (show false=true from hs) gC
 | int i=>
  let(t,rfl):=c;cases y with
  | non=>cases a;show PySem.EqNone.ne_int_none (nV I q (by simp))
  | int j=>let(b,rfl):=a;show ne_int (nV I q (congrArg not FH))
  | str j=>let(b,rfl):=a;show PySem.EqMixed.ne_int_str (nV I q (by simp))
  | _=>show absurd (show false=true from hs) gC
 | str i=>
  let(t,rfl):=c;cases y with
  | non=>cases a;show PySem.EqNone.ne_str_none (nV I q (by simp))
  | bl j=>cases a;show PySem.EqMixed.ne_str_bool (nV I q (by simp))
  | int j=>let(b,rfl):=a;show PySem.EqMixed.ne_str_int (nV I q (by simp))
  | str j=>let(b,rfl):=a;show ne_str (nV I q (congrArg not FG))
  | _=>show absurd (show false=true from hs) gC
 | byt i=>
  let(t,rfl):=c;cases y with
  | byt j=>let(b,rfl):=a;show W.ne_bytes (nV I q (congrArg not FI))
  | _=>show absurd (show false=true from hs) gC
 | _=>cases y <;> show absurd (show false=true from hs) gC
theorem op_lt:mX X (ib .Lt) (rR λi j=>.bl (decide (i<j))):=uK λ_ _ _ _ _ _ _ q=>lt_int q
theorem op_gt:mX X (ib .Gt) (rR λi j=>.bl (decide (j<i))):=uK λ_ _ _ _ _ _ _ q=>gt_int q
theorem op_ge:mX X (ib .GtE) (rR λi j=>.bl (decide (j<=i))):=uK λ_ _ _ _ _ _ _ q=>ge_int q
theorem Nh:mX X (ib .In) (λx y H Q=>∃ i j,x=.str i/\y=.str j/\Q (.bl (!(jR j i 0 j.length 1).isEmpty)) H):=by
 intro a s σ H x y v u Q I c b h;let(i,j,rfl,rfl,q):=h;let(t,rfl):=c;let(d,rfl):=b;show in_str (nV I q rfl)
theorem Ja:mX X (ib .Is) (λx y H Q=>y=.non/\Q (.bl (decide (x=.non))) H):=by
 intro a s σ H x y v u Q I b c h;let(rfl,q):=h;cases c;show is_none_gen (nV I q ?_);cases x <;> first
  | (cases b;rfl)
  | (let(t,rfl):=b;rfl)
theorem Jk:mX X (ib .IsNot) (λx y H Q=>y=.non/\Q (.bl (!decide (x=.non))) H):=by
 intro a s σ H x y v u Q I b c h;let(rfl,q):=h;cases c;show isnot_none_gen (nV I q ?_);cases x <;> first
  | (cases b;rfl)
  | (let(t,rfl):=b;rfl)
theorem jB(b:Expr){op:CmpOp}(h:autoParam (op≠.In) Au)(h2:autoParam (op≠.NotIn) Au):mD op b=false:=by
 have a:(op == CmpOp.In)=false:=by cases op <;> first | rfl | show absurd rfl h
 have c:(op == CmpOp.NotIn)=false:=by cases op <;> first | rfl | show absurd rfl h2
 cases b <;> simp[mD,a,c]
variable{op:CmpOp}{r:R2}
theorem pJ(ho:mX X (ib op) r)(ha:PE X a ta)(hb:PE X b tb)(hm:mD op b=false):PE X (.Compare a [op] [b] pos) (om r ta tb):=by
 intro c s σ H Q I h;show wpAny_Compare1 (uX ha hb I h λv u e x y f I2 g d q=>ho c e σ f x y v u Q I2 g d q) hm
def n9(t:TE):TT:=λσ H Q=>t σ H λx H'=>lj x λk=>Q k H'
theorem j4(ho:mX X (ib op) r)(ha:PE X a ta)(hb:PE X b tb)(hm:mD op b=false):PT X (.Compare a [op] [b] pos) (n9 (om r ta tb)):=by
 intro d s σ H Q I h;show wpAny_isTrue_Compare1 (jl (ha d s σ H _ I h) λv l ζ=>?_) hm;let(x,n,I1,o,m):=ζ;show jl (hb d l σ n _ I1 m) λu i ζ=>?_;let(y,p,I2,g,j):=ζ;show jl (ho d i σ p x y v u _ I2 o g j) λc w ζ=>?_;let(z,t,I3,q,f):=ζ
 let(k,e,f):=vV f;subst e;cases q;show j9 ⟨t,I3,f⟩
def Hx(r r':R2)(ta tb tc:TE):TE:=λσ H Q=>ta σ H λx H1=>tb σ H1 λy H2=>r x y H2 λz H3=>lj z λk=>
 (if k=true then tc σ H3 λw' H4=>r' y w' H4 Q else Q (.bl false) H3)
theorem vU:(sizeLine:Nat)<2 ^ 63:=by rw[sizeLine_eq];decide
theorem Nz:mX X (kb .Add) (λx y H Q=>∃ i j,x=.str i/\y=.str j/\i.length+j.length<=sizeLine/\Q (.str (i++j)) H):=by
 intro a s σ H x y v u Q I d b h;let(i,j,rfl,rfl,e,q):=h;let(t,rfl):=d;let(c,rfl):=b;show add_str (λc f=>⟨.str (i++j),H,I.tok _,⟨_,rfl⟩,q⟩) e
variable{x:V}
theorem vals1(r:Vals [x] us):∃ u,us=[u]/\RelV x u:=by
 cases r with
 | cons r1 r2=>cases r2;show(_,rfl,r1)
theorem vals2(r:Vals [x,y] us):∃ u w',us=[u,w']/\RelV x u/\RelV y w':=by
 cases r with
 | cons r1 r2=>
  cases r2 with
  | cons r3 r4=>cases r4;show(_,_,rfl,r1,r3)
theorem MJ:ky X (.builtin "abs") (λxs H Q=>∃ i,xs=[.int i]/\Q (.int (if i<0 then -i else i)) H):=by
 intro a s σ H xs c Q I r h;let(i,rfl,q):=h;let(u,rfl,t,rfl):=vals1 r;show call_abs_int λu b=>⟨.int (if i<0 then -i else i),H,I.tok _,⟨_,rfl⟩,q⟩
theorem NZ(hc:X.calm=true):ky X (.builtin "min") (λxs H Q=>∃ i j,xs=[.int i, .int j]/\Q (.int (if j<i then j else i)) H):=by
 intro b s σ H xs g Q I r h;let(i,j,rfl,q):=h;let(u,f,rfl,(t,rfl),(e,rfl)):=vals2 r;show min_two_ints (I.ok.hd hc) λd c k=>⟨_,H,I.kept k,?_,q⟩;by_cases a:j<i
 .rw[if_pos a,if_pos a];show(_,rfl)
 .rw[if_neg a,if_neg a];show(_,rfl)
theorem N2:ky X (.type "int") (λxs H Q=>(∃ i,xs=[.int i]/\Q (.int i) H)\/∃ k,xs=[.bl k]/\Q (.int (if k then 1 else 0)) H):=by
 intro a s σ H xs c Q I r h;rcases h with⟨i,rfl,q⟩ | ⟨k,rfl,q⟩
 .let(u,rfl,t,rfl):=vals1 r;show call_int_int ⟨.int i,H,I,⟨_,rfl⟩,q⟩
 .let(u,rfl,b):=vals1 r;cases b;show call_int_bool ⟨.int (if k then 1 else 0),H,I.tok _,⟨_,rfl⟩,q⟩
theorem Pj:ky X (.type "str") (λxs H Q=>∃ i,xs=[.int i]/\i.natAbs.log2<1920/\Q (.str (toString i)) H):=by
 intro a s σ H xs c Q I r h;let(i,rfl,b,q):=h;let(u,rfl,t,rfl):=vals1 r;show PySem.P.str_of_int b ⟨.str _,H,I.tok _,⟨_,rfl⟩,q⟩
structure qp(h:Heap)(x dx C:Addr)(mA:Str->Option bV):Prop where
 obj:h.get? x=some (mZ C dx)
 ns:h.Ns1 dx mA
 ne:dx≠x
variable{dx:Addr}{mA:Str->Option bV}
theorem Bv(n:h.Ns1 dx mA):∃ od,h.get? dx=some od/\∀ name,W.lookIn name od=some (mA name):=by
 let(o,c,l,f,k,g,_,d):=n;show(o,f,λname=>?_);have e:=d name;unfold nsFind findBy at e;rw[<- Array.find?_toList]at e;unfold W.lookIn;rw[k];dsimp only;split
 .rename_i y q;rw[q]at e;show congrArg some e
 .rename_i q;rw[q]at e;have a:c.toList.any (·.refKey)=false:=by
   rw[List.any_eq_false];intro y i;let(z,t,b):=g y (Array.mem_toList_iff.mp i);simp[DictEntry.refKey,b]
  have j:¬ c.toList.any (·.refKey)=true:=by rw[a];show gC
  rw[if_neg j];show congrArg some e
variable{x C:Addr}
theorem qp.look(I:qp h x dx C mA):∃ od,W.InstAt h x (mZ C dx) C (some od)/\∀ name,W.lookIn name od=some (mA name) :=
 let⟨od,ho,hl⟩:=Bv I.ns
 ⟨od,⟨I.obj,rfl,rfl,ho⟩,hl⟩
section
variable{name:Str}{v:bV}{K:bY}{f:Addr}
theorem get_map{expr:Bool}{Q:bV->b8->Prop}(X:K.In s.heap)(I:qp s.heap x dx C mA)(hg:W.plainGet K C name=true)(hh:lF K C=true)
  (ha:iL K (.ref C) name=some none) (hv:mA name=some v) (hv':W.handedIn v=true) (h:Q v { s with toks:=s.toks+1 }) :
  gu (gx prog w) A (getAttr (.ref x) name expr) Q E s:=by
 let(b,J,a):=I.look;show W.get_value X J (W.plainGet_of hg).1 (W.findObj_own hh ha rfl (by rw[a,hv])) hv' h
variable{pl:Sem Bool}
theorem MY{Q:bV × List bV->b8->Prop}(X:K.In s.heap)(I:qp s.heap x dx C mA)(hg:W.plainGet K C name=true)
  (hf:iL K (.ref C) name=some (some (.ref f))) (ht:W.isFn K (.ref f)=true) (hv:mA name=none) (h:Q (.ref f,[.ref x]) s) :
  gu (gx prog w) A (getMethod (.ref x) name pl) Q E s:=by
 let(a,J,b):=I.look;show W.method_fn X J (W.plainGet_of hg).1 (W.plainGet_of hg).2 hf (beq_iff_eq.mp ht) (by show(W.lookIn name a).map (·.isSome)=some false;rw[b,hv];rfl) h
theorem JQ{ns:List Str}(X:K.In s.heap)(I:qp s.heap x dx C mA)
  (hs:iL K (.ref C) "__setattr__"=some (some (.builtin "object.__setattr__"))) (hp:W.plainOver K C=true) (ht:W.takerIn K C name=some none) (hh:lF K C=true)
  (hw:PySem.Within mA ns) (hsz:ns.length<=sizeLine)
  (h:∀ h',qp h' x dx C (λy=>if y=name then some v else mA y)->jC dx s.heap h'->Q () { s with heap:=h',toks:=s.toks+2 }) :
  gu (gx prog w) A (setAttr (.ref x) name v) Q E s:=by
 let(n,J,p):=I.look;show W.set_plain X J hs (W.osa_open (s:={ s with toks:=s.toks+1 }) (r:=none) X J hp ht λb=>?_);let(o,k,g):=W.any_some hh;have hx:s.heap.get? x=some ⟨.ref C,some dx, .plain, #[]⟩:=I.obj;show bO (gw (bO (bO (wpAny_loadPart hx (bO (W.Looks.here (s:={ s with toks:=s.toks+1 }) (W.looks_clsIn X k) ?_))))));rw[g];show gw (a:=some dx) (bO (gw (bO ?_)));show wpAny_nsSet1 (s:={ s with toks:=s.toks+1 }) I.ns λh' d c=>?_;let(m,l,j,e,i,f):=d.count (PySem.Within.cons name v hw);show bO (wpAny_lookBehind e (by rw[i];show pastItsLine_dict (g0 f (by rw[i6];ac_nf))) ?_);show gw (h _ ⟨(c.2 _ (iQ I.ne)).trans I.obj,d,I.ne⟩ c)
variable{kw:List (Str × bV)}
theorem LS{R:Result->b8->Prop}{vs:List bV}(X:K.In s.heap)(hm:W.makesIn K C=true)
  (hi:iL K (.ref C) "__init__"=some (some (.ref f))) (hf:W.typeIn K (.ref f)=some (.type "function"))
  (h:kl (gx prog w) (A.under (.builtin "type.__call__" ⟨.ref C::vs,kw⟩)) (.call (.ref f) ⟨.ref (s.heap.objs.size+1)::vs,kw⟩) (W.InitBack (s.heap.objs.size+1) R)
   { s with heap:=(s.heap.push kW).push (mZ C s.heap.objs.size) }) :
  kl (gx prog w) A (.call (.ref C) ⟨vs,kw⟩) R s:=by
 let(c,g,d,t,b):=s;show W.make_core (W.makes_of X hm) (W.looks_findIn X hi) (λa=>W.bind_fn X a hf) (.inl rfl) h
end
def m3(f:Str)(v:V):List (Str × V)->List (Str × V)
 | []=>[(f,v)]
 | (g,x)::r=>if g=f then(g,v)::r else(g,x)::m3 f v r
theorem GQ(f g:Str)(v:V):∀ fs:List (Str × V),(m3 f v fs).lookup g=if g=f then some v else fs.lookup g
 | []=>by
  show kj g [(f,v)]=_;by_cases h:g=f
  .have hb:(g == f)=true:=beq_iff_eq.mpr h;simp only[kj,hb,if_pos h]
  .have hb:(g == f)=false:=beq_eq_false_iff_ne.mpr h;simp only[kj,hb,if_neg h]
 | (k,x)::r=>by
  have ih:=GQ f g v r;rw[show m3 f v ((k,x)::r)=(if k=f then(k,v)::r else(k,x)::m3 f v r)from rfl];by_cases hk:k=f
  .rw[if_pos hk];by_cases h:g=k
   .have hb:(g == k)=true:=beq_iff_eq.mpr h;simp only[kj,hb,if_pos (h.trans hk)]
   .have hb:(g == k)=false:=beq_eq_false_iff_ne.mpr h;simp only[kj,hb,if_neg (λe:g=f=>h (e.trans hk.symm))]
  .rw[if_neg hk];by_cases h:g=k
   .have hb:(g == k)=true:=beq_iff_eq.mpr h;simp only[kj,hb,if_neg (λe:g=f=>hk (h.symm.trans e))]
   .have hb:(g == k)=false:=beq_eq_false_iff_ne.mpr h;simp only[kj,hb];show ih
theorem Bw(f:Str)(v:V):∀ fs:List (Str × V),f∈(m3 f v fs).map (·.1)/\∀ g,g∈fs.map (·.1)->g∈(m3 f v fs).map (·.1)
 | []=>⟨by simp[m3],λg h=>by simp at h⟩
 | (k,x)::r=>by
  let(i1,i2):=Bw f v r;rw[show m3 f v ((k,x)::r)=(if k=f then(k,v)::r else(k,x)::m3 f v r)from rfl];by_cases hk:k=f
  .rw[if_pos hk];subst hk;show(by simp,λg h=>by simpa using h)
  .rw[if_neg hk];show(?_,λg h=>?_)
   .rw[hV];show ia _ i1
   .rw[hV]at h ⊢;rcases gW.mp h with e | e
    .show gW.mpr (.inl e)
    .show ia _ (i2 g e)
theorem GR(f:Str)(v:V):∀ fs:List (Str × V),(m3 f v fs).length<=fs.length+1
 | []=>by simp[m3]
 | (k,x)::r=>by
  have ih:=GR f v r;rw[show m3 f v ((k,x)::r)=(if k=f then(k,v)::r else(k,x)::m3 f v r)from rfl];by_cases hk:k=f
  .rw[if_pos hk,i6,i6];ac_nf
  .rw[if_neg hk,i6,i6];ac_nf
variable{o:Option bV}
theorem RelO.some_of(r:RelO (some v) o):∃ u,o=some u/\RelV v u:=by
 cases o with
 | none=>show(show False from r).elim
 | some u=>show(u,rfl,r)
theorem RelO.none_of(r:RelO none o):o=none:=by
 cases o with
 | none=>rfl
 | some u=>show(show False from r).elim
theorem Gc(r:RelV v u):W.handedIn u=true:=by
 cases v with
 | non=>cases(show u=gY from r);rfl
 | bl b=>cases(show u=ir b from r);rfl
 | int i=>let(t,e):=(show∃ t,u=bV.int i t from r);cases e;rfl
 | str x=>let(t,e):=(show∃ t,u=bV.str x t from r);cases e;rfl
 | byt b=>let(t,e):=(show∃ t,u=bV.bytes b t from r);cases e;rfl
 | flt b=>let(t,e):=(show∃ t,u=bV.float b t from r);cases e;rfl
 | ref a=>cases(show u=cf a from r);rfl
 | ty n=>cases(show u=bV.type n from r);rfl
section
variable{a:Addr}{fs':List (Str × V)}{fs:List (Str × V)}
theorem zc(hok:ni P w H h)(e:H a=some (.ins C dx fs)):∃ mA,qp h a dx C mA/\(∀ f,RelO (fs.lookup f) (mA f))/\PySem.Within mA (fs.map (·.1))/\fs.length<=1000/\H dx=some (.own a):=by
 let(d,z,c,b,mA,n,r,q):=(show jk P w H h a (.ins C dx fs)from hok a _ e);show(mA,⟨b,n,c⟩,r,q,z,d)
end
structure Cls(K:bY)(C:Addr):Prop where
 pg:W.plainGet K C Str.empty=true
 hd:lF K C=true
 po:W.plainOver K C=true
 sa:iL K (.ref C) "__setattr__"=some (some (.builtin "object.__setattr__"))
theorem Cls.get{K:bY}(c:Cls K C)(f:Str):W.plainGet K C f=true:=c.pg
def kD(K:bY)(C:Addr)(f:Str):Prop:=iL K (.ref C) f=some none
theorem kD.taker{K:bY}{f:Str}(n:kD K C f):W.takerIn K C f=some none:=by
 unfold W.takerIn;rw[show iL K (.ref C) f=some none from n];rfl
structure u5(K:bY)(C:Addr)(m:Str)(f:Addr):Prop where
 at_:iL K (.ref C) m=some (some (.ref f))
 fn:W.isFn K (.ref f)=true
 kp:ki K (.ref f)=true
section
variable{a:Addr}{fs:List (Str × V)}{f:Str}{b:Bool}
theorem NH{Q:bV->b8->Prop}(I:Inv X pins σ H s)(e:H a=some (.ins C dx fs))(c:Cls X.K C)(n:kD X.K C f)(l:fs.lookup f=some v)
  (h:∀ u s',Inv X pins σ H s'->RelV v u->Q u s'):gu (gx X.prog X.w) A (getAttr (.ref a) f b) Q E s:=by
 let(i,O,r,_,_,_):=zc I.hok e;let(u,g,d):=RelO.some_of (v:=v) (o:=i f) (by rw[<- l];show r f);show get_map I.kIn O (c.get f) c.hd n g (Gc d) (h u _ (I.tok _) d)
theorem zw{m:Str}{g:Addr}{pl:Sem Bool}{Q:bV × List bV->b8->Prop}(I:Inv X pins σ H s)(e:H a=some (.ins C dx fs))(c:Cls X.K C)(k:u5 X.K C m g)(l:fs.lookup m=none)
  (h:Q (.ref g,[.ref a]) s):gu (gx X.prog X.w) A (getMethod (.ref a) m pl) Q E s:=by
 let(d,O,r,_,_,_):=zc I.hok e;have b:d m=none:=RelO.none_of (by rw[<- l];show r m);show MY I.kIn O (c.get m) k.at_ k.fn b h
theorem Nv(I:Inv X pins σ H s)(e:H a=some (.ins C dx fs))(c:Cls X.K C)(n:kD X.K C f)(hl:fs.length<1000)(ry:RelV y u)
  (h:∀ s',Inv X pins σ (upd H a (.ins C dx (m3 f y fs))) s'->Q () s'):gu (gx X.prog X.w) A (setAttr (.ref a) f u) Q E s:=by
 let(j,O,r,i,_,d):=zc I.hok e;have p:(fs.map (·.1)).length<=sizeLine:=by rw[iz,sizeLine_eq];ac_nf
 show JQ I.kIn O c.sa c.po n.taker c.hd i p λm O' l=>h _ ?_;have t:∃ o,m.get? dx=some o:=let⟨o,_,_,e',_⟩:=O'.ns;⟨o,e'⟩;show I.write (x:=a) (e:=dx) (by rw[e];show iN) (.inr d) (λb q hb z=>(l.2 b hb).trans z) t ?_;show(by rw[kk O.ne];show d,?_,O.ne,O'.obj,_,O'.ns,λg=>?_,λg k=>?_)
 .have:=GR f y fs;ac_nf
 .show RelO ((m3 f y fs).lookup g) (if g=f then some u else j g);rw[GQ];by_cases q:g=f
  .rw[if_pos q,if_pos q];show ry
  .rw[if_neg q,if_neg q];show r g
 .by_cases q:g=f
  .rw[q];show(Bw f y fs).1
  .show(Bw f y fs).2 g (i g λz=>k ?_);show(if g=f then some u else j g)=none;rw[if_neg q];show z
theorem Inv.made(I:Inv X pins σ H s):Inv X pins σ (upd (upd H s.heap.objs.size (.own (s.heap.objs.size+1))) (s.heap.objs.size+1) (.ins C s.heap.objs.size []))
  { s with heap:=(s.heap.push kW).push (mZ C s.heap.objs.size) }:=by
 have d:(s.heap.push kW).get? s.heap.objs.size=some kW:=ck s.heap rfl;have i:((s.heap.push kW).push (mZ C s.heap.objs.size)).get? (s.heap.objs.size+1)=some (mZ C s.heap.objs.size):=by
  have:=ck (s.heap.push kW) (o:=mZ C s.heap.objs.size) rfl
  rwa [iD]at this
 have f:(s.heap.push kW).Ns s.heap.objs.size (λ_=>none):=⟨kW, #[],_,d,rfl,(λe h=>absurd h (by simp)),λ_=>rfl⟩;have I1:=I.laid (a:=s.heap.objs.size) (o:=.own (s.heap.objs.size+1)) (h':=s.heap.push kW) (t':=s.toks) (λb u q=>bW _ q) (cB _) ⟨_,d⟩;show I1.laid (a:=s.heap.objs.size+1) (o:=.ins C s.heap.objs.size []) (t':=s.toks) (λb u q=>bW _ q) (mJ (iD _ _)) ?_;have c:s.heap.objs.size≠s.heap.objs.size+1:=cq (jI _);show(by rw[kk c,md],kM _,c,i,λ_=>none,(Heap.Ns1.of_empty f).at λo q=>bW _ q,λ_=>iN,λy g=>absurd rfl g)
variable{Q:bV->b8->Prop}
theorem FD{env:Env}{f:Str}(hb:jb e f env (eval e env)=eval e env)
  (h:gu (gx prog w) A (eval e env) (λo s₁=>gu (gx prog w) A (getAttr o f true) Q E s₁) E s):gu (gx prog w) A (eval (.Attribute e f pos) env) Q E s :=
 Attribute_any_ h (by rw[arm_eval_Attribute,hb])
end
def uF(K:bY)(ta:TE)(f:Str):TE:=λσ H Q=>ta σ H λx H1=>∃ a C dx fs v,x=.ref a/\H1 a=some (.ins C dx fs)/\Cls K C/\kD K C f/\fs.lookup f=some v/\Q v H1
def sFld(K:bY)(ta tv:TE)(f:Str):TS:=λD σ H=>tv σ H λy H1=>ta σ H1 λx H2=>∃ a C dx fs,x=.ref a/\H2 a=some (.ins C dx fs)/\Cls K C/\kD K C f/\fs.length<1000 /\
 D.nx σ (upd H2 a (.ins C dx (m3 f y fs)))
section
variable{o value:Expr}{tpos:Pos}{tv:TE}{f:Str}
theorem jg(he:PE X e ta)(hb:jb e f X.env (eval e X.env)=eval e X.env):PE X (.Attribute e f pos) (uF X.K ta f):=by
 intro b s σ H Q I h;show FD hb (jl (he b s σ H _ I h) λu p ζ=>?_);let(x,d,I1,i,a,C,t,o,v,k,g,c,n,l,q):=ζ;subst k;obtain rfl:u=cf a:=i;show NH I1 g c n l λr m I2 j=>⟨v,d,I2,j,q⟩
theorem m5(ha:PE X o ta)(hv:PE X value tv)(hs:swapsWith value (some (.Attribute o f pos')) pos.line X.env=pure false):PS X (.Assign [.Attribute o f pos'] value pos) (sFld X.K ta tv f):=by
 intro b s σ H D I h;show plainObj_wpAny_Assign_Attribute (jl (hv b s σ H _ I h) λu g ζ=>?_) hs;let(y,i,I1,d,q):=ζ;show jl (ha b g σ i _ I1 q) λj r ζ=>?_;let(x,w,I2,m,a,C,z,t,p,k,c,n,l,e):=ζ;subst p;obtain rfl:j=cf a:=m;show Nv I2 k c n l d λv I3=>⟨σ,_,I3,e⟩
end
variable{Q:bV->b8->Prop}{c:bV}{b:Bool}
inductive oq(K:bY)(H:Hp):V->bV->Prop where
 | non:oq K H .non (.type "NoneType")
 | bl (x:Bool):oq K H (.bl x) (.type "bool")
 | int (i:Int):oq K H (.int i) (.type "int")
 | str (x:Str):oq K H (.str x) (.type "str")
 | flt (x:UInt64):oq K H (.flt x) (.type "float")
 | lst {a:Addr} {xs:List V} (e:H a=some (.lst xs)):oq K H (.ref a) (.type "list")
 | frz {a:Addr} {o:Obj} {xs:List V} (e:H a=some (.frz o (.lst xs))):oq K H (.ref a) (.type "list")
 | tup {a:Addr} {xs:List V} (e:H a=some (.tup xs)):oq K H (.ref a) (.type "tuple")
 | dK {a:Addr} {kvs:List (jz × V)} (e:H a=some (.dK kvs)):oq K H (.ref a) (.type "dict")
 | dT {a:Addr} {kvs:List (List jz × V)} (e:H a=some (.dT kvs)):oq K H (.ref a) (.type "dict")
 | ins {a C dx:Addr} {fs:List (Str × V)} (e:H a=some (.ins C dx fs)) (cl:Cls K C) (ha:iL K (.ref C) "__class__"=some (some (.builtin "object.__class__")))
   (hn:W.specialIn K (.builtin "object.__class__") "__get__"=some (some (.builtin "getset_descriptor.__get__"))) (htk:W.takesIn K (.builtin "object.__class__")=some true)
   (hm:W.mroIn K C (.type "object")=some true):oq K H (.ref a) (.ref C)
theorem M8{x:V}{t:bV}(I:Inv X pins σ H s)(rx:RelV x u)(ty:oq X.K H x t)(e:iU X.K t c=some b)(h:∀ tk,Q (.bool b) { s with toks:=tk }) :
  gu (gx X.prog X.w) A (call (.builtin "isinstance") [u,c]) Q E s:=by
 cases ty with
 | non=>cases(show u=gY from rx);show iY W.kitx_none I.kIn iN e (λz=>nomatch z) h
 | bl y=>cases(show u=ir y from rx);show iY W.kitx_bool I.kIn iN e (λz=>nomatch z) h
 | int i=>let(t,q):=(show∃ t,u=bV.int i t from rx);cases q;show iY W.kitx_int I.kIn iN e (λz=>nomatch z) h
 | str y=>let(t,q):=(show∃ t,u=bV.str y t from rx);cases q;show iY W.kitx_str I.kIn iN e (λz=>nomatch z) h
 | flt y=>let(t,q):=(show∃ t,u=bV.float y t from rx);cases q;show iY W.kitx_float I.kIn iN e (λz=>nomatch z) h
 | @lst a f ea=>
  cases(show u=cf a from rx);let(_,_,n,_,d):=(show jk X.prog X.w H s.heap a (.lst f)from I.hok a _ ea);show iY W.kitx_list I.kIn ⟨_,d,rfl⟩ e (λz=>nomatch z) h
 | @frz a ob f ea=>
  cases(show u=cf a from rx);let(_,_,_,n,_,d):=(show jk X.prog X.w H s.heap a (.frz ob (.lst f))from I.hok a _ ea);show iY W.kitx_list I.kIn ⟨_,d,rfl⟩ e (λz=>nomatch z) h
 | @tup a f ea=>
  cases(show u=cf a from rx);let(_,_,_,p):=(show jk X.prog X.w H s.heap a (.tup f)from I.hok a _ ea);let(o,d,g,_):=p;show iY W.kitx_tuple I.kIn ⟨o,d,g⟩ e (λz=>nomatch z) h
 | @dK a kvs ea=>
  cases(show u=cf a from rx);let(_,_,l,_,p):=(show jk X.prog X.w H s.heap a (.dK kvs)from I.hok a _ ea);let(o,j,k,d,g,_):=p;show iY W.kitx_dict I.kIn ⟨o,d,g.1⟩ e (λz=>nomatch z) h
 | @dT a kvs ea=>
  cases(show u=cf a from rx);let(_,_,f,_,o,j,k,d,g,_):=(show jk X.prog X.w H s.heap a (.dT kvs)from I.hok a _ ea);show iY W.kitx_dict I.kIn ⟨o,d,g.1⟩ e (λz=>nomatch z) h
 | @ins a C dx fs ea cl ha hn htk hm=>
  cases(show u=cf a from rx);let(r,O,_):=zc I.hok ea;let(m,J,_):=O.look;show iY (W.kitx_own (cl.get _) cl.hd ha hn htk hm) I.kIn J e (λz=>nomatch z) h
structure ku(k:Nat)(A:iM):Prop where
 hd:A.handled=none
 dp:A.depth+3*k+5<recursionLimit
 un:A.units+16*k+200<lh
theorem ku.mono{j k:Nat}(r:ku k A)(h:j<=k):ku j A:=⟨r.hd,by have:=r.dp;ac_nf,by have:=r.un;ac_nf⟩
theorem ku.deeper{k:Nat}(r:ku (k+1) A)(env:Env):ku k (A.deeper env) :=
 ⟨r.hd,by have:=r.dp;show A.depth+1+3*k+5<_;ac_nf,by have:=r.un;show A.units+3+16*k+200<_;ac_nf⟩
variable{kw:List (Str × bV)}
theorem ND:(A.under (.builtin "type.__call__" ⟨.ref C::us,kw⟩)).depth=A.depth+1:=by
 first | rfl | simp[iM.under,Code.weight,Code.isCreation,Code.isGuard,Code.isCaller,Code.frames,Code.isFrame,guardIds]
theorem NC:(A.under (.builtin "type.__call__" ⟨.ref C::us,kw⟩)).units=A.units+1:=by
 first | rfl | simp[iM.under,Code.cUnits,Code.frames,Code.isFrame]
theorem ku.make{k:Nat}(r:ku (k+1) A)(C:Addr)(us:List bV)(kw:List (Str × bV)):ku k (A.under (.builtin "type.__call__" ⟨.ref C::us,kw⟩)) :=
 ⟨r.hd,by have:=r.dp;rw[ND];ac_nf,by have:=r.un;rw[NC];ac_nf⟩
theorem ku.depth{k:Nat}(r:ku k A):A.depth<recursionLimit:=by have:=r.dp;ac_nf
theorem ku.units{k:Nat}(r:ku k A):A.units+64<lh:=by have:=r.un;ac_nf
def tNil:TA:=λ_ H Q=>Q [] H
def kG(ta:TE)(tr:TA):TA:=λσ H Q=>ta σ H λx H1=>tr σ H1 λxs H2=>Q (x::xs) H2
section
variable{t:TA}
theorem pS:PA X [] tNil:=λ_ _ _ _ H Q I h=>iI ⟨[],H,I, .nil,h⟩
theorem Fz(ha:PE X e te)(hr:PA X es t)(hs:autoParam (gy (e::es) X.env=(false,eval e X.env)::gy es X.env) Au):PA X (e::es) (kG te t):=by
 intro b a s σ H Q I h;rw[hs];show gu _ _ (spliced ((false,eval e X.env)::iP b (gy es X.env))) _ _ s;show h9 (jl (ha a s σ H _ I h) λu g ζ=>?_);let(x,j,I1,k,i):=ζ;show jl (hr b a g σ j _ I1 i) λn m ζ=>by let(f,l,I2,c,d):=ζ;show(x::f,l,I2, .cons k c,d)
def sT(t:TA):TE:=λσ H Q=>t σ H λxs H1=>xs.length<=sizeLine/\∀ p,H1 p=none->Q (.ref p) (upd H1 p (.tup xs))
def uE(t:TA):TE:=λσ H Q=>t σ H λxs H1=>xs.length<=sizeLine/\∀ p,H1 p=none->Q (.ref p) (upd H1 p (.lst xs))
theorem jF{x1}(h:PA X es t):PE X (.Tuple es x1 pos) (sT t):=by
 intro a s σ H Q I i;show wpAny_Tuple_spliced (jl (h pos a s σ H _ I i) λg c ζ=>?_);let(f,d,I1,r,z,q):=ζ;show(by rw[<- r.length];show z,?_);have j:d c.heap.objs.size=none:=I1.hok.fresh (cB _);show(.ref c.heap.objs.size,upd d c.heap.objs.size (.tup f),I1.laid (t':=c.toks) (λb u e=>bW _ e) (cB _) ?_,rfl,q _ j);show(z,g,r,⟨_,ck _ rfl,rfl,_,rfl⟩)
theorem lO(h:PA X es t):PE X (.List es pos) (uE t):=by
 intro a s σ H Q I i;show wpAny_List_spliced (jl (h pos a s σ H _ I i) λg c ζ=>?_);let(f,d,I1,r,z,q):=ζ;show(by rw[<- r.length];show z,?_);have j:d c.heap.objs.size=none:=I1.hok.fresh (cB _);show(.ref c.heap.objs.size,upd d c.heap.objs.size (.lst f),I1.laid (t':=c.toks) (λb u e=>bW _ e) (cB _) ?_,rfl,q _ j);show(z,g,0,r,ck _ rfl)
end
abbrev Sp:=List V->Hp->VK->XK->Prop
abbrev su:=List Env->Hp->b8->XK->bV->b8->Prop
structure qx(P:gN)(w:ik)(K:bY)(mg:Str->Option bV)(base:Heap)(A:iM)(outer:List Env)(s:b8)(H:Hp):Prop where
 frames:A.frames=some outer
 mod:Mod K mg base
 bs:∀ b o,base.get? b=some o->s.heap.get? b=some o/\H b=none
 bsz:base.objs.size<=s.heap.objs.size
 funs:s.heap.FunFrames base outer
 frf:∀ b∈ll outer,H b=none
 hok:ni P w H s.heap
 bare:ng s.gens
def CE(outer:List Env)(P:gN)(w:ik)(H:Hp)(s:b8)(Q:VK)(u:bV)(s':b8):Prop :=
 ∃ v H',s'.os=s.os/\ng s'.gens/\Un (ll outer) [] H H' s.heap s'.heap/\ni P w H' s'.heap/\RelV v u/\Q v H'
def CR(CX:su)(outer:List Env)(P:gN)(w:ik)(H:Hp)(s:b8)(Q:VK)(E:XK)(r:Result)(s':b8):Prop :=
 match r with
 | .ok (.ret u)=>CE outer P w H s Q u s'
 | .ok _=>False
 | .error e=>CX outer H s E e s'
structure lJ(P:gN)(w:ik)(K:bY)(mg:Str->Option bV)(base:Heap)(CX:su)(k:Nat)(f:Addr)(fd:iC)(ps:List Str)(sp:Sp):Prop where
 len:∀ vs H Q E,sp vs H Q E->vs.length=ps.length
 run:∀(A:iM)(outer:List Env)(s:b8)(H:Hp)(args:Args)(us:List bV)(vs:List V)(Q:VK)(E:XK),ku k A->qx P w K mg base A outer s H->BindsTo s fd args (ps.zip us)->Vals vs us->sp vs H Q E ->
  kl (gx P w) A (.call (.ref f) args) (CR CX outer P w H s Q E) s
variable{mg:Str->Option bV}{base:Heap}{outer:List Env}
theorem qx.make{K:bY}(e:qx P w K mg base A outer s H)(C:Addr)(us:List bV)(kw:List (Str × bV)) :
  qx P w K mg base (A.under (.builtin "type.__call__" ⟨.ref C::us,kw⟩)) outer s H:=⟨by first | show e.frames | (simpa[iM.under,Code.envs,Code.isFrame,pushEnvs]using e.frames),e.mod,e.bs,e.bsz,e.funs,e.frf,e.hok,e.bare⟩
theorem Inv.env0(I:Inv X pins σ H s):qx X.prog X.w X.K X.mg X.base X.A X.stack s H :=
 ⟨I.ok.frames,I.ok.mod,I.bs,g0 I.ok.bsz I.sz,I.stack,I.stkFree,I.hok,I.bare⟩
variable{Q:VK}
theorem Inv.after(I:Inv X pins σ H s)(h:CE X.stack X.prog X.w H s Q u s'):EP X pins σ Q u s':=by
 let(v,j,i,a,f,c,r,q):=h;let(k,g,d,t,e):=s';obtain rfl:e=s.os:=i;show(v,j,I.call (h':=k) (g':=g) (d':=d) (t':=t) (ch:=[]) f c a (λb z=>absurd z (by simp)),r,q)
def nX(sp:Sp)(dvs:List V)(E:XK)(t:TA):TE:=λσ H Q=>t σ H λvs H1=>sp (vs++dvs) H1 Q E
def oP(C:Addr)(sp:Sp)(dvs:List V)(E:XK)(t:TA):TE:=λσ H Q=>t σ H λvs H1=>∀ x dx,H1 x=none->H1 dx=none->dx≠x ->
 sp (.ref x::(vs++dvs)) (upd (upd H1 dx (.own x)) x (.ins C dx [])) (λv H2=>v=.non/\Q (.ref x) H2) E
def Binds(K:bY)(fd:iC)(ps:List Str)(ds:List bV):Prop :=
 ∀(s:b8)(us:List bV),K.In s.heap->(us++ds).length=ps.length->BindsTo s fd ⟨us,[]⟩ (ps.zip (us++ds))
variable{fd:iC}{ps:List Str}
theorem Binds.all{K:bY}(h:∀ us:List bV,us.length=ps.length->bindArgs fd ⟨us,[]⟩=pure (ps.zip us)):Binds K fd ps []:=λs us _ a=>by
 rw[List.append_nil]at a ⊢;show .of_eq (h us a)
def qb(CX:su)(X:Cx)(E:XK):Prop:=∀(pins:List (Addr × Obj))(σ : St)(H:Hp)(s:b8)(e:bV)(s':b8),Inv X pins σ H s->CX X.stack H s E e s'->X.xe e s'
section
variable{CX:su}{sp:Sp}{dvs:List V}{ds:List bV}{E:XK}{x:Str}{apos:Pos}{o:Expr}{k:Nat}{f:Addr}{m:Str}{p:Pos}{t:TA}{vs:List V}
theorem Ao(F:lJ X.prog X.w X.K X.mg X.base CX k f fd ps sp)(hr:ku k X.A)(hb:Binds X.K fd ps ds)(hd:Vals dvs ds)(hx:qb CX X E)
  (I:Inv X pins σ H s) (r:Vals vs us) (h:sp (vs++dvs) H Q E):gu (gx X.prog X.w) X.A (call (.ref f) us) (EP X pins σ Q) X.xe s:=by
 have b:Vals (vs++dvs) (us++ds):=r.append hd;have d:(us++ds).length=ps.length:=by rw[<- b.length];show F.len _ _ _ _ h
 show my (mf (F.run X.A X.stack s H ⟨us,[]⟩ (us++ds) (vs++dvs) Q E hr I.env0 (hb s us I.kIn d) b h) λr c a=>?_);cases r with
 | error e=>show hx pins σ H s e c I a
 | ok fl=>
  cases fl with
  | ret u=>show I.after a
  | next=>show i0 a
  | brk=>show i0 a
  | cont=>show i0 a
theorem Jj(F:lJ X.prog X.w X.K X.mg X.base CX k f fd ps sp)(hr:ku k X.A)(hg:Gl X x)(hm:X.mg x=some (.ref f))(hk:ki X.K (.ref f)=true)(hb:Binds X.K fd ps ds)(hd:Vals dvs ds)(hx:qb CX X E)
  (ha:PA X (e::es) t) (hdb:autoParam ((x == ("__debug__" : Str))=false) Au) (he:autoParam (gy (e::es) X.env=(false,eval e X.env)::gy es X.env) Au) (hpl:autoParam ((iP pos (gy es X.env)).any (·.1)=false) Au) :
  PE X (.Call (.Name x p) (e::es) [] pos) (nX sp dvs E t):=by
 intro a s σ H Q I h;show ic (uu I hg hm ?_ hdb);show W.callWith_K (h₀:=X.base) I.ok.mod.kin hk (jl (ha pos a s σ H _ I h) λd g ζ=>?_) he hpl;let(c,b,I1,r,q):=ζ;show(I1.kIn,?_);show Ao F hr hb hd hx I1 r q
structure Mk(K:bY)(C f:Addr):Prop where
 makes:W.makesIn K C=true
 init:iL K (.ref C) "__init__"=some (some (.ref f))
 fn:W.isFn K (.ref f)=true
 kp:ki K (.ref C)=true
theorem F0(M:Mk X.K C f)(F:lJ X.prog X.w X.K X.mg X.base CX k f fd ps sp)(hr:ku (k+1) X.A)(hb:Binds X.K fd ps ds)(hd:Vals dvs ds)
  (hx:qb CX X E) (I:Inv X pins σ H s) (r:Vals vs us)
  (h:∀ x dx,H x=none->H dx=none->dx≠x->sp (.ref x::(vs++dvs)) (upd (upd H dx (.own x)) x (.ins C dx [])) (λv H2=>v=.non/\Q (.ref x) H2) E) :
  gu (gx X.prog X.w) X.A (call (.ref C) us) (EP X pins σ Q) X.xe s:=by
 have c:=h (s.heap.objs.size+1) s.heap.objs.size (I.hok.fresh (mm _)) (I.hok.fresh (cB _)) (cq (jI _));have I2:=Inv.made (C:=C) I;have b:Vals (V.ref (s.heap.objs.size+1)::(vs++dvs)) (cf (s.heap.objs.size+1)::(us++ds)):=.cons rfl (r.append hd);have i:(cf (s.heap.objs.size+1)::us++ds).length=ps.length:=by
  have e:=b.length;rw[F.len _ _ _ _ c]at e;show e.symm
 show my (LS (f:=f) I.kIn M.makes M.init (beq_iff_eq.mp M.fn) (mf (F.run _ X.stack _ _ ⟨cf (s.heap.objs.size+1)::us,[]⟩ (cf (s.heap.objs.size+1)::(us++ds)) _ _ E (hr.make C us [])
  (I2.env0.make C us []) (hb _ (cf (s.heap.objs.size+1)::us) I2.kIn i) b c) λr m a=>?_))
 cases r with
 | error e=>show hx pins σ _ _ e m I2 a
 | ok fl=>
  cases fl with
  | ret u=>
   let(v,j,I3,d,g,l):=I2.after a;subst g;show(d,⟨V.ref (s.heap.objs.size+1),j,I3,rfl,l⟩)
  | next=>show i0 a
  | brk=>show i0 a
  | cont=>show i0 a
theorem J2(M:Mk X.K C f)(F:lJ X.prog X.w X.K X.mg X.base CX k f fd ps sp)(hr:ku (k+1) X.A)(hg:Gl X x)(hm:X.mg x=some (.ref C))(hb:Binds X.K fd ps ds)(hd:Vals dvs ds)(hx:qb CX X E)
  (ha:PA X (e::es) t) (hdb:autoParam ((x == ("__debug__" : Str))=false) Au) (he:autoParam (gy (e::es) X.env=(false,eval e X.env)::gy es X.env) Au) (hpl:autoParam ((iP pos (gy es X.env)).any (·.1)=false) Au) :
  PE X (.Call (.Name x p) (e::es) [] pos) (oP C sp dvs E t):=by
 intro a s σ H Q I h;show ic (uu I hg hm ?_ hdb);show W.callWith_K (h₀:=X.base) I.ok.mod.kin M.kp (jl (ha pos a s σ H _ I h) λd g ζ=>?_) he hpl;let(c,b,I1,r,q):=ζ;show(I1.kIn,?_);show F0 M F hr hb hd hx I1 r q
theorem LD(M:Mk X.K C f)(F:lJ X.prog X.w X.K X.mg X.base CX k f fd ps sp)(hr:ku (k+1) X.A)(hg:Gl X x)(hm:X.mg x=some (.ref C))(hb:Binds X.K fd ps ds)(hd:Vals dvs ds)(hx:qb CX X E)
  (hdb:autoParam ((x == ("__debug__" : Str))=false) Au):PE X (.Call (.Name x p) [] [] pos) (oP C sp dvs E tNil):=by
 intro a s σ H Q I h;show ic (uu I hg hm ?_ hdb);show W.callWith_K0 I.kIn M.kp (F0 (us:=[]) M F hr hb hd hx I .nil h)
end
section
variable{CX:su}{ks:List Str}{sp:Sp}{E:XK}{x:Str}{apos kpos:Pos}{o:Expr}{kws:List Keyword}{tk:TA}{nm:Option Str}{k:Nat}{f:Addr}{m:Str}{p:Pos}{t:TA}{gV:List V->List V->List V}{g:List bV->List bV->List bV}
end
structure jn(N P:List Str)(sc:Scope):Prop where
 kind:sc.kind=.function
 co:sc.isCoroutine=false
 gen:sc.isGenerator=false
 nd:N.Nodup
 pre:N.take P.length=P
 par:∀ x∈P,sc.names.lookup x=some .local\/sc.names.lookup x=some .cell
 nofree:∀ y∈sc.names,y.2≠.free
variable{kindOf:Str->Option mh}{x:Str}
theorem Gk:∀{binds:List (Str × bV)}{m:Str->Option bV},(∀ v,(x,v)∉binds)->bindL kindOf binds m x=m x
 | [],_,_=>rfl
 | (n,v)::r,m,h=>by
  unfold bindL;rw[Gk λw hw=>h w (ia _ hw)];split
  .have : x≠n:=by rintro rfl;show h v i8
   simp[this]
  .rfl
theorem Gn:∀{binds:List (Str × bV)}{m:Str->Option bV},(∀ v,(x,v)∉binds)->bindC kindOf binds m x=m x
 | [],_,_=>rfl
 | (n,v)::r,m,h=>by
  unfold bindC;rw[Gn λw hw=>h w (ia _ hw)];split
  .rfl
  .have : x≠n:=by rintro rfl;show h v i8
   simp[this]
variable{v:bV}
theorem Gm:∀{P:List Str}{vs:List bV}{i:Nat}{m:Str->Option bV},P.Nodup->P[i]?=some x->vs[i]?=some v->kindOf x=some .local ->
  bindL kindOf (P.zip vs) m x=some v
 | [],_,_,_,_,h,_,_=>by simp at h
 | _::_,[],_,_,_,_,h,_=>by simp at h
 | p::P,w::vs,0,m,nd,h1,h2,hk=>by
  simp at h1 h2;subst h1;subst h2;show bindL kindOf ((p,w)::P.zip vs) m p=_;unfold bindL;rw[Gk λv hv=>(mr.mp nd).1 (List.of_mem_zip hv).1,if_pos hk];simp
 | p::P,w::vs,i+1,m,nd,h1,h2,hk=>by
  show bindL kindOf ((p,w)::P.zip vs) m x=_;unfold bindL;show Gm (i:=i) (mr.mp nd).2 (by simpa using h1) (by simpa using h2) hk
theorem Gq:∀{P:List Str}{vs:List bV}{i:Nat}{m:Str->Option bV},P.Nodup->P[i]?=some x->vs[i]?=some v->kindOf x≠some .local ->
  bindC kindOf (P.zip vs) m x=some v
 | [],_,_,_,_,h,_,_=>by simp at h
 | _::_,[],_,_,_,_,h,_=>by simp at h
 | p::P,w::vs,0,m,nd,h1,h2,hk=>by
  simp at h1 h2;subst h1;subst h2;show bindC kindOf ((p,w)::P.zip vs) m p=_;unfold bindC;rw[Gn λv hv=>(mr.mp nd).1 (List.of_mem_zip hv).1,if_neg hk];simp
 | p::P,w::vs,i+1,m,nd,h1,h2,hk=>by
  show bindC kindOf ((p,w)::P.zip vs) m x=_;unfold bindC;show Gq (i:=i) (mr.mp nd).2 (by simpa using h1) (by simpa using h2) hk
def start(N:List Str)(vs:List V):St:=vs.map some++gB (N.length-vs.length) none
def lI(CX:su)(P:gN)(w:ik)(K:bY)(mg:Str->Option bV)(base:Heap)(N:List Str)(qual:Str)(scope:Scope)(f:Addr)(cd:bV)(A:iM)(outer:List Env)(s:b8)(H:Hp)(E:XK):Cx where
 prog:=P
 w:=w
 K:=K
 mg:=mg
 base:=base
 A:=A.deeper (hI qual scope s.heap.objs.size f cd)
 N:=N
 s₀:=s
 H₀:=H
 env:=hI qual scope s.heap.objs.size f cd
 outer:=outer
 stack:=hI qual scope s.heap.objs.size f cd::outer
 ex:=[]
 calm:=true
 fn:=λ_=>true
 pn:=[]
 xe:=λe s'=>gu (gx P w) (A.deeper (hI qual scope s.heap.objs.size f cd)) (m8 (hI qual scope s.heap.objs.size f cd) e) (λ_ s''=>CX outer H s E e s'') (λe' s''=>CX outer H s E e' s'') s'
theorem FT{sc:Scope}(h:sc.names.lookup x=some .cell):∃ c,(cellsFrom n sc.names []).lookup x=some c:=by
 have q:=W.cellsFrom_some sc.names n [] (.inl h);show Option.isSome_iff_exists.mp q
variable{CX:su}{qual:Str}{scope:Scope}
theorem M9{K:bY}{f:Addr}{cd:bV}{s1:b8}{E:XK}{vs:List V}
  (S:jn N ps scope) (hd:A.handled=none) (e0:qx P w K mg base A outer s H) (hl:vs.length=ps.length) (r:Vals vs us)
  (x:InCallC s s.heap.objs.size (bindL (hI qual scope s.heap.objs.size f cd).kindOf (ps.zip us) λ_=>none) (cellsFrom (s.heap.objs.size+1) scope.names []) (bindC (hI qual scope s.heap.objs.size f cd).kindOf (ps.zip us) λ_=>none) s1) :
  Inv (lI CX P w K mg base N qual scope f cd A outer s H E) [] (start N vs) H s1:=by
 have D:ps.length<=N.length:=by have:=congrArg List.length S.pre;rw[List.length_take]at this;ac_nf
 let(t,I,rfl,B):=x.done;have g:∀ b:Addr,b∉(lI CX P w K mg base N qual scope f cd A outer s H E).ex:=λb z=>absurd (show b∈([]:List Addr)from z) (by simp);show(⟨e0.mod,S.kind,rfl,rfl,cB _,λy z c t d=>?_,λy j=>?_,λy c _ h=>?_,λ_=>hd,iM.frames_deeper e0.frames, .inr ⟨rfl,rfl⟩,λb z=>absurd z (g b),e0.bs,e0.bsz,λb _ _=>g b,λb z=>absurd z (g b),e0.funs,e0.frf⟩,
  rfl,e0.bare,Un.kept B,⟨_,x.toInCall.ns,λi y v t d J=>?_⟩,λy c h=>⟨_,x.cell y c h⟩,e0.hok.fresh (cB _),λy c h=>?_,λp l=>absurd (show p∈([]:List (Addr × Obj))from l) (by simp),e0.hok.kept B,?_)
 .show name_of_addr x.apart (j5 t) (j5 d)
 .have j:scope.names.lookup y=some .cell\/scope.names.lookup y=some .free:=j;rcases j with j | j
  .show FT j
  .show absurd rfl (S.nofree _ (j5 j))
 .show Nat.le_of_lt (x.above y c (j5 h))
 .have o:i<vs.length:=by
   unfold start at d;by_cases o:i<vs.length
   .show o
   .rw[gU (by simpa using o)]at d;rw[jv]at d;split at d <;> cases d
  have G:vs[i]?=some v:=by
   unfold start at d;rw[gZ (by simpa using o),gG]at d;cases e:vs[i]? with
   | none=>rw[e]at d;cases d
   | some a=>rw[e]at d;cases d;rfl
  let(u,C,F):=r.get G;have l:ps[i]?=some y:=by
   rw[<- S.pre,List.getElem?_take_of_lt ∅];show t
  have m:ps.Nodup:=by rw[<- S.pre];show S.nd.sublist (List.take_sublist _ _)
  show(u,F,?_);rcases S.par y (kL l)with k | k
  .show .inl ⟨k,Gm m l C k⟩
  .let(c,e):=FT (n:=s.heap.objs.size+1) k;show .inr ⟨.inl k,c,e,?_⟩;have q:=x.cell y c e;rw[Gq m l C (by show scope.names.lookup y≠_;rw[k];decide)]at q;show q
 .show e0.hok.fresh (Nat.le_of_lt (x.above y c (j5 h)))
 .unfold start;show _=N.length;rw[j6,iz,List.length_replicate];ac_nf
theorem uf{K:bY}{k:Nat}{f:Addr}{name:Str}{params:Arguments}{dV kV doc pm cdv ct oc:bV}{an od:Option Addr}
  {osl:Array (Option bV)} {N ps:List Str} {sp:Sp} (lk:K.lookup f=some ⟨oc,od, .func (lU name qual params body scope dV kV doc pm an cdv ct),osl⟩) (hcd:W.codeIn K cdv qual=true) (S:jn N ps scope)
  (len:∀ vs H Q E,sp vs H Q E->vs.length=ps.length)
  (hbody:∀(A:iM)(outer:List Env)(s:b8)(H:Hp)(vs:List V)(Q:VK)(E:XK),ku k (A.deeper (hI qual scope s.heap.objs.size f cdv))->sp vs H Q E ->
   ∃ t,o8 (lI CX P w K mg base N qual scope f cdv A outer s H E) body t/\t { nx:=λ_ H'=>Q .non H',rt:=Q } (start N vs) H) :
  lJ P w K mg base CX (k+1) f (lU name qual params body scope dV kV doc pm an cdv ct) ps sp:=by
 show(len,λA outer s H p G vs Q E j d hb r g=>?_);have D:=len _ _ _ _ g;have KX:K.In s.heap:=d.mod.kin.keeps λb o e=>(d.bs b o e).1;have i:s.heap.NoLimit:=d.mod.nolimit.keeps λb o e=>(d.bs b o e).1;have a:∀ y∈ps.zip G,scope.names.lookup y.1=some .local\/(scope.names.lookup y.1=some .cell/\((cellsFrom (s.heap.objs.size+1) scope.names []).lookup y.1).isSome=true):=λ⟨n,v⟩ L=>by
  rcases S.par n (List.of_mem_zip L).1 with q | q
  .show .inl q
  .show .inr ⟨q,W.cellsFrom_some _ _ _ (.inl q)⟩
 show codeAny_call_function j.depth (KX _ _ lk) rfl S.co S.gen rfl (W.codeRec_of KX hcd) (hb _ _ _ _ ?_);show wpAny_newFunctionEnv_cells S.kind a λM F m x=>?_;subst F;show(i.keeps x.toInCall.keep,codeAny_func ?_);let(t,B,C):=hbody A outer s H vs Q E (j.deeper _) g;have I:Inv (lI CX P w K mg base N qual scope f cdv A outer s H E) [] (start N vs) H m:=M9 S j.hd d D r x;show gJ (B [] m (start N vs) H _ I C) (λz l hs=>?_) λe l hs=>hs;have c:∀{σ':St}{H':Hp}{v:V}{u:bV},Inv (lI CX P w K mg base N qual scope f cdv A outer s H E) [] σ' H' l->RelV v u->Q v H'->CE outer P w H s Q u l :=
  λ{σ' H' v u} J h q=>⟨v,H',J.os,J.bare,J.base,J.hok,h,q⟩
 cases z with
 | ret u=>
  let(v,σ',H',J,h,q):=hs;show c J h q
 | next=>
  let(σ',H',J,q):=hs;show c (v:=V.non) (u:=gY) J rfl q
 | brk=>
  let(_,_,_,q):=hs;show i0 q
 | cont=>
  let(_,_,_,q):=hs;show i0 q
section
variable{id T:String}{r:List V->Hp->VK->Prop}{p:Pos}{t:TA}
def sU(r:List V->Hp->VK->Prop)(t:TA):TE:=λσ H Q=>t σ H λvs H1=>r vs H1 Q
theorem nJ(hc:ky X (.builtin id) r)(hg:Gl X x)(hm:X.mg x=none)(hv:gI x=some (.builtin id))(ha:PA X (e::es) t)(hn:autoParam (x≠"__name__") Au)(hdb:autoParam ((x == ("__debug__" : Str))=false) Au)
  (he:autoParam (gy (e::es) X.env=(false,eval e X.env)::gy es X.env) Au) (hpl:autoParam ((iP pos (gy es X.env)).any (·.1)=false) Au):PE X (.Call (.Name x p) (e::es) [] pos) (sU r t):=by
 intro a s σ H Q I h;show ic (se I hg hm hv ?_ hn hdb);show lA (jl (ha pos a s σ H _ I h) λf g ζ=>by let(d,b,I1,c,i):=ζ;show hc a g σ b d f Q I1 c i) he hpl
theorem tL(hc:ky X (.type T) r)(hg:Gl X x)(hm:X.mg x=none)(hv:gI x=some (.type T))(ha:PA X (e::es) t)(hn:autoParam (x≠"__name__") Au)(hdb:autoParam ((x == ("__debug__" : Str))=false) Au)
  (he:autoParam (gy (e::es) X.env=(false,eval e X.env)::gy es X.env) Au) (hpl:autoParam ((iP pos (gy es X.env)).any (·.1)=false) Au):PE X (.Call (.Name x p) (e::es) [] pos) (sU r t):=by
 intro a s σ H Q I h;show ic (se I hg hm hv ?_ hn hdb);show ie (jl (ha pos a s σ H _ I h) λf g ζ=>by let(d,b,I1,c,i):=ζ;show hc a g σ b d f Q I1 c i) he hpl
end
end L2
namespace HT
open PySem PyProof.Rows
section
open PySem.SeqAt
open PySem.AutoSeq1 (wpAny_loadPart')
open PySem.MeetsSeq PySem.MeetsSeq2 PySem.MeetsSeq3
end
variable{prog:gN}{w:ik}{A:iM}{E:bV->b8->Prop}{s:b8}
theorem cat_tup{t b:Addr}{vs ws:List bV}{Q:bV->b8->Prop}(ht:IsTup s.heap t vs.toArray)(hb:IsTup s.heap b ws.toArray)(hv:vs≠[])
  (h1:ws=[]->Q (.ref t) s) (h2:ws≠[]->Q (.ref s.heap.objs.size) { s with heap:=s.heap.push { cls:=.type "tuple",data:=.seq (vs++ws).toArray } })
  (hsz:vs.length+ws.length<=sizeLine):gu (gx prog w) A (kb .Add (.ref t) (.ref b)) Q E s:=by
 let((cls,q,data,p),h,m,n,o):=id ht;let((l,d,j,c),a,f,k,g):=id hb;simp only at m o f g;subst m o f g;have e:vs.toArray++ws.toArray=(vs++ws).toArray:=by simp
 by_cases i:ws=[]
 .show concat_meets ⟨_,h,rfl⟩ ⟨_,a,rfl⟩ noFill_tuple_add seq_tuple_add PySem.F.slot_tuple_add PySem.F.entry_tuple_add (PySem.F.args_tuple_add_2 _ _)
   (tuple_addW1 t b vs.toArray ws.toArray n k q d p c (by simpa using hv) (by simp[i])) ⟨h,a,h1 i⟩
 .show concat_meets ⟨_,h,rfl⟩ ⟨_,a,rfl⟩ noFill_tuple_add seq_tuple_add PySem.F.slot_tuple_add PySem.F.entry_tuple_add (PySem.F.args_tuple_add_2 _ _)
   (tuple_addW2 t b vs.toArray ws.toArray n k q d p c (by simpa using hv) (by simpa using i) (by rw[gF,gF];show hsz)) ⟨h,a,?_⟩
  rw[e];show h2 i
def sIx(n d:Nat):Option Int->Nat
 | none=>d
 | some v=>if v<0 then(v+(n:Int)).toNat else min v.toNat n
end HT
namespace L2
open PySem PySem.Spec PyProof.Rows
abbrev TO:=St->Hp->(Option Int->Hp->Prop)->Prop
def PO(X:Cx)(e:Option Expr)(t:TO):Prop :=
 ∀(pins:List (Addr × Obj))(s:b8)(σ : St)(H:Hp)(Q:Option Int->Hp->Prop),Inv X pins σ H s->t σ H Q ->
  gu (gx X.prog X.w) X.A (evalPart e X.env) (λu s'=>∃ o H',Inv X pins σ H' s'/\IsPart u o/\Q o H') X.xe s
def A6:TO:=λ_ H Q=>Q none H
def rD(t:TE):TO:=λσ H Q=>t σ H λx H1=>∃ i,x=.int i/\Q (some i) H1
variable{X:Cx}{e:Expr}{te:TE}{lo hi:Option Expr}{tl th:TO}{pos p2:Pos}
theorem v8:PO X none A6:=by
 intro a s σ H Q I h;rw[evalPart_none];show gw ⟨none,H,I, .none,h⟩
theorem v7(h:PE X e te):PO X (some e) (rD te):=by
 intro a s σ H Q I d;rw[evalPart_some];show jl (h a s σ H _ I d) λu g ζ=>?_;let(x,b,I1,c,f):=ζ;let(i,rfl,q):=f;let(t,rfl):=c;show(some i,b,I1, .int i t,q)
def tD(X:Cx)(r:V->Option Int->Option Int->Hp->VK->Prop):Prop :=
 ∀(pins:List (Addr × Obj))(s:b8)(σ : St)(H:Hp)(x:V)(v vl vu:bV)(lo hi:Option Int)(sl:Addr)(Q:VK),Inv X pins σ H s->RelV x v->s.heap.IsSliceOf sl vl vu .none->IsPart vl lo->IsPart vu hi->r x lo hi H Q ->
  ∃ T id,typeLookup (.type T) "__getitem__"=pure (some (.builtin id))/\s.TypeIs v T/\gu (gx X.prog X.w) X.A (getItem v (.ref sl)) (EP X pins σ Q) X.xe s
variable{r:V->Option Int->Option Int->Hp->VK->Prop}
theorem tD.or{r':V->Option Int->Option Int->Hp->VK->Prop}(h:tD X r)(h':tD X r'):tD X (λx lo hi H Q=>r x lo hi H Q\/r' x lo hi H Q):=by
 intro a s σ H x v c g lo hi d Q I f hs b e q;rcases q with q | q
 .show h a s σ H x v c g lo hi d Q I f hs b e q
 .show h' a s σ H x v c g lo hi d Q I f hs b e q
def zW(r:V->Option Int->Option Int->Hp->VK->Prop)(te:TE)(tl th:TO):TE:=λσ H Q=>te σ H λx H1=>tl σ H1 λl H2=>th σ H2 λu H3=>r x l u H3 Q
theorem wD(hr:tD X r)(he:PE X e te)(hl:PO X lo tl)(hu:PO X hi th):PE X (.Subscript e (.Slice lo hi none p2) pos) (zW r te tl th):=by
 intro a s σ H Q I h;show Subscript_ (jl (he a s σ H _ I h) λv m ζ=>?_);let(x,o,I1,t,n):=ζ;show wpAny_Slice (jl (hl a m σ o _ I1 n) λd i ζ=>?_);let(l,y,I2,B,k):=ζ;show jl (hu a i σ y _ I2 k) λf c ζ=>?_;let(u,g,I3,C,D):=ζ;rw[evalPart_none];show gw ?_;have I4:Inv X a σ g { c with heap:=c.heap.push { cls:=.type "slice",data:=.fields #[d,f, .none] } }:=I3.kept (t':=c.toks) λb E q=>bW _ q;let(T,id,j,z,p):=hr a { c with heap:=c.heap.push { cls:=.type "slice",data:=.fields #[d,f, .none] } } σ g x v d f l u c.heap.objs.size Q I4 t (Heap.IsSliceOf.new ..) B C D;show gu (gx X.prog X.w) X.A (subscriptTail e (.Slice lo hi none p2) v (.ref c.heap.objs.size)) (EP X a σ Q) X.xe { c with heap:=c.heap.push { cls:=.type "slice",data:=.fields #[d,f, .none] } };show tail_any (ops:=[.ref c.heap.objs.size,v]) z j p (by with_unfolding_all rfl)
def p0(xs:List V)(lo hi:Option Int):List V:=(xs.drop (HT.sIx xs.length 0 lo)).take (HT.sIx xs.length xs.length hi-HT.sIx xs.length 0 lo)
theorem OP(xs:List V)(lo hi:Option Int):(p0 xs lo hi).length<=xs.length:=by
 unfold p0;rw[List.length_take,List.length_drop];ac_nf
def t8(K:bY):R2:=λx y H Q=>∃ a b xs ys,x=.ref a/\y=.ref b/\mQ K H a xs/\mQ K H b ys/\xs≠[]/\xs.length+ys.length<=sizeLine /\
 (ys=[]->Q (.ref a) H)/\(ys≠[]->∀ p,H p=none->Q (.ref p) (upd H p (.tup (xs++ys))))
variable{xs:List V}{us:List bV}
theorem Vals.nil_iff(r:Vals xs us):us=[]↔xs=[]:=by
 cases r with
 | nil=>simp
 | cons _ _=>simp
theorem Jo:mX X (kb .Add) (t8 X.K):=by
 intro f s σ H x y v u Q I t i h;let(a,b,l,k,rfl,rfl,A,hb,hx,g,m,j):=h;cases t;cases i;let(n,d,p,_):=I.tuple A;let(e,c,r,_):=I.tuple hb;show HT.cat_tup p r (λz=>hx (d.nil_iff.mp z)) (λz=>⟨.ref a,H,I,rfl,m (c.nil_iff.mp z)⟩) (λz=>?_) (by rw[<- d.length, <- c.length];show g);show(.ref s.heap.objs.size,_,I.laid (t':=s.toks) (o:=.tup (l++k)) (λb B q=>bW _ q) (cB _) ?_,rfl,j (λw=>z (c.nil_iff.mpr w)) _ (I.hok.fresh (cB _)));show(by rw[j6];show g,_,d.append c,IsTup.new _ _)
def uP(n:Nat)(i:Int):Option Nat:=if 0<=i then(if i<n then some i.toNat else none)else if -(n:Int)<=i then some (i+n).toNat else none
variable{α:Type}
def qo(xs:List α)(i:Int):Option α:=(uP xs.length i).bind λj=>xs[j]?
variable{n j:Nat}{i:Int}
theorem Lh(h:uP n i=some j):seqIndex? i n=some j/\j<n/\-(n:Int)<=i/\i<n:=by
 unfold uP at h;by_cases b:0<=i
 .rw[if_pos b]at h;by_cases a:i<n
  .rw[if_pos a]at h;have e:i.toNat=j:=gL h;show(by rw[seqIndex_of b a,e],∅,∅,a)
  .rw[if_neg a]at h;cases h
 .rw[if_neg b]at h;by_cases a : -(n:Int)<=i
  .rw[if_pos a]at h;have e:(i+n).toNat=j:=gL h;show(by rw[seqIndex_neg ∅ a,e],∅,a,∅)
  .rw[if_neg a]at h;cases h
theorem wj{xs:List α}{v : α}(h:qo xs i=some v):∃ j,seqIndex? i xs.length=some j/\xs[j]?=some v/\j<xs.length/\-(xs.length:Int)<=i/\i<xs.length:=by
 unfold qo at h;cases e:uP xs.length i with
 | none=>rw[e]at h;cases h
 | some j=>
  rw[e]at h;let(a,b,d,c):=Lh e;show(j,a,h,b,d,c)
theorem Kz{xs:List α}{v : α}(h:xs[j]?=some v):qo xs (j:Int)=some v:=by
 have a:j<xs.length:=(cb.mp h).1;have e:uP xs.length (j:Int)=some j:=by
  unfold uP;rw[if_pos ∅,if_pos ∅];simp
 unfold qo;rw[e];show h
def Lr(b:Expr):Prop:=∀ o i,subscripted b false o i=operate [o,i] (getItem o i)
def wQ(X:Cx)(r:R2):Prop :=
 ∀(value slice:Expr)(pins:List (Addr × Obj))(s:b8)(σ : St)(H:Hp)(x y:V)(v u:bV)(Q:VK),Inv X pins σ H s->RelV x v->RelV y u->r x y H Q ->
  subscripted slice false v u=operate [v,u] (getItem v u)->gu (gx X.prog X.w) X.A (subscriptTail value slice v u) (EP X pins σ Q) X.xe s
def xT(X:Cx)(id:String)(r:V->List V->Hp->VK->Prop):Prop :=
 ∀(pins:List (Addr × Obj))(s:b8)(σ : St)(H:Hp)(x:V)(xs:List V)(v:bV)(us:List bV)(Q:VK),Inv X pins σ H s->RelV x v->Vals xs us->r x xs H Q ->
  gu (gx X.prog X.w) X.A (call (.builtin id) (v::us)) (EP X pins σ Q) X.xe s
section
variable{a b:Expr}{ta tb:TE}
theorem kY{r:R2}(hr:wQ X r)(ha:PE X a ta)(hb:PE X b tb)(hs:autoParam (Lr b) Au):PE X (.Subscript a b pos) (om r ta tb):=by
 intro c s σ H Q I h;show Subscript_ (uX ha hb I h λv u e x y f I2 g d q=>hr a b c e σ f x y v u Q I2 g d q (hs _ _))
def z0(K:bY):R2:=λx y H Q=>∃ p xs i v,x=.ref p/\y=.int i/\jM K H p xs/\qo xs i=some v/\Q v H
def zZ(K:bY):R2:=λx y H Q=>∃ p xs i v,x=.ref p/\y=.int i/\mQ K H p xs/\qo xs i=some v/\Q v H
def rIxS:R2:=λx y H Q=>∃ z i c,x=.str z/\y=.int i/\z.length<=sizeLine/\qo z.cps.toList i=some c/\Q (.str ⟨#[c]⟩) H
theorem Lg:wQ X (z0 X.K):=by
 intro g k a s σ H x y v u Q I E o h hs;let(p,M,i,z,rfl,rfl,B,D,q):=h;cases E;let(t,rfl):=o;let(d,r,e,N):=I.list B;let(j,c,G,O,A,F):=wj D;let(w,n,l):=r.get G;have C:=r.length;have L:=vU;have b:EP X a σ Q w s:=⟨z,H,I,l,q⟩;by_cases m:0<=i
 .have f:i.toNat=j:=by
   rw[seqIndex_of m F]at c;show gL c
  show item_listR e.isList m ∅ (by rw[f];simpa using n) b hs
 .have f:(i+(d.toArray.size:Int)).toNat=j:=by
   rw[seqIndex_neg ∅ A]at c;rw[gF, <- C];show gL c
  show subscriptTail_builtinR (x:=w) e.isList.typeIs slot_list_getitem.lookup
   (wpAny_getItem_list_neg (Q:=λr J=>r=w/\EP X a σ Q r J) e.isList ∅ (by rw[gF] <;> ac_nf) ∅ (by rw[f];simpa using n) ⟨rfl,b⟩) hs
theorem IM:wQ X (zZ X.K):=by
 intro c d a s σ H x y v u Q I B g h hs;let(p,F,i,z,rfl,rfl,l,n,q):=h;cases B;let(t,rfl):=g;let(k,r,f,J):=I.tuple l;let(j,A,C,L,G,M):=wj n;let(w,o,e):=r.get C;have m:=r.length;have E:=vU;have b:EP X a σ Q w s:=⟨z,H,I,e,q⟩;show subscriptTail_builtinR (x:=w) f.typeIs slot_tuple_getitem.lookup
  (getItem_tuple (j:=j) (Q:=λr D=>r=w/\EP X a σ Q r D) f ∅ ∅ (by rw[gF, <- m];show A) (by simpa using o) ⟨rfl,b⟩) hs
theorem IP:wQ X rIxS:=by
 intro a b d s σ H x y v u Q I n f h hs;let(z,i,c,rfl,rfl,C,m,q):=h;let(t,rfl):=n;let(A,rfl):=f;let(j,e,p,B,r,o):=wj m;have k:z.cps.toList.length=z.length:=by simp[Str.length]
 rw[k]at e r o;have w:=vU;show tail_any (nv s z t) slot_str_getitem.lookup (getItem_str (c:=c) (by
  have l:decide (i < -(2 ^ 63:Int))=false:=decide_eq_false ∅;have g:decide (i ≥ 2 ^ 63)=false:=decide_eq_false ∅;rw[l,g,Bool.or_false]) (by rw[e];simpa using p) ⟨.str ⟨#[c]⟩,H,I.tok _,⟨_,rfl⟩,q⟩) hs
theorem OF(lo hi:Option Int)(n:Nat):(mF lo hi none n).1=((HT.sIx n 0 lo:Nat):Int)/\(mF lo hi none n).2.1=((HT.sIx n n hi:Nat):Int)/\(mF lo hi none n).2.2=1:=by
 show(?_,?_,rfl)
 .cases lo with
  | none=>simp[mF,HT.sIx]
  | some i=>
   simp only[mF,HT.sIx,Option.getD_none,show(1:Int) > 0 by decide,if_true];by_cases h:i<0
   .simp only[h,if_true] <;> ac_nf
   .simp only[h,if_false] <;> ac_nf
 .cases hi with
  | none=>simp[mF,HT.sIx]
  | some i=>
   simp only[mF,HT.sIx,Option.getD_none,show(1:Int) > 0 by decide,if_true];by_cases h:i<0
   .simp only[h,if_true] <;> ac_nf
   .simp only[h,if_false] <;> ac_nf
theorem O8(its:List bV)(lo hi:Option Int):slicePick its.toArray lo hi none=((its.drop (HT.sIx its.length 0 lo)).take (HT.sIx its.length its.length hi-HT.sIx its.length 0 lo)).toArray:=by
 let(b,a,c):=OF lo hi its.toArray.size;unfold slicePick;rw[b,a,c];simp only[sliceRange_one,pick_run,gF] <;> rfl
def xq(K:bY):V->Option Int->Option Int->Hp->VK->Prop:=λx lo hi H Q=>∃ a xs,x=.ref a/\jM K H a xs/\∀ p,H p=none->Q (.ref p) (upd H p (.lst (p0 xs lo hi)))
theorem JP:tD X (xq X.K):=by
 intro g s σ H x v p u e f w Q I l hs k m h;let(a,c,rfl,hx,q):=h;cases l;let(j,r,i,n):=I.list hx;have d:=r.length;show("list",_,slot_list_getitem.lookup,i.isList.typeIs,?_);show wpAny_getItem_list_slice i.isList hs k m .none (by simp) ?_ (by rw[gF] <;> ac_nf);rw[O8, <- d];show(.ref s.heap.objs.size,_,I.laid (t':=s.toks) (o:=.lst (p0 c e f)) (λb t q=>bW _ q) (cB _) ?_,rfl,q _ (I.hok.fresh (cB _)));show(g0 (OP c e f) n,_,0,(r.drop (HT.sIx c.length 0 e)).take (HT.sIx c.length c.length f-HT.sIx c.length 0 e),ck _ rfl)
def flatV:V->Bool
 | .non=>true
 | .bl _=>true
 | .int _=>true
 | .str _=>true
 | _=>false
def eqV:V->V->Bool
 | .non, .non=>true
 | .bl a, .bl b=>a == b
 | .bl a, .int b=>(if a then 1 else 0) == b
 | .int a, .bl b=>a == (if b then 1 else 0)
 | .int a, .int b=>a == b
 | .str a, .str b=>a == b
 | _,_=>false
variable{A:iM}{s:b8}{y x:V}{u v:bV}
theorem EL(ry:RelV y u)(rx:RelV x v)(fy:flatV y=true)(fx:flatV x=true):SeqAt.EqAt A s u v (eqV y x):=by
 cases y with
 | non=>
  cases ry;cases x with
  | non=>cases rx;show SeqAt.EqAt.same _
  | bl b=>cases rx;show SeqAt.EqAt.none_bool b
  | int b=>let(t,rfl):=rx;show SeqAt.EqAt.none_int b t
  | str b=>let(t,rfl):=rx;show SeqAt.EqAt.none_str b t
  | _=>show absurd (show false=true from fx) gC
 | bl a=>
  cases ry;cases x with
  | non=>cases rx;show SeqAt.EqAt.bool_none a
  | bl b=>cases rx;show lG a b
  | int b=>let(t,rfl):=rx;show SeqAt.EqAt.bool_int a b t
  | str b=>let(t,rfl):=rx;show SeqAt.EqAt.bool_str a b t
  | _=>show absurd (show false=true from fx) gC
 | int a=>
  let(c,rfl):=ry;cases x with
  | non=>cases rx;show SeqAt.EqAt.int_none a c
  | bl b=>cases rx;show SeqAt.EqAt.int_bool a c b
  | int b=>let(t,rfl):=rx;show SeqAt.EqAt.int_int a c b t
  | str b=>let(t,rfl):=rx;show SeqAt.EqAt.int_str a c b t
  | _=>show absurd (show false=true from fx) gC
 | str a=>
  let(c,rfl):=ry;cases x with
  | non=>cases rx;show SeqAt.EqAt.str_none a c
  | bl b=>cases rx;show SeqAt.EqAt.str_bool a c b
  | int b=>let(t,rfl):=rx;show SeqAt.EqAt.str_int a c b t
  | str b=>let(t,rfl):=rx;show SeqAt.EqAt.str_str a c b t
  | _=>show absurd (show false=true from fx) gC
 | _=>show absurd (show false=true from fy) gC
def ql(x:V)(u:bV):Bool:=match u with
 | .none=>eqV .non x
 | .bool b=>eqV (.bl b) x
 | .int i _=>eqV (.int i) x
 | .str z _=>eqV (.str z) x
 | _=>false
theorem yO(r:RelV y u)(f:flatV y=true):ql x u=eqV y x:=by
 cases y with
 | non=>cases r;rfl
 | bl b=>cases r;rfl
 | int i=>let(t,rfl):=r;rfl
 | str z=>let(t,rfl):=r;rfl
 | _=>show absurd (show false=true from f) gC
theorem y6(h:Vals xs us):xs.all flatV=true->us.any (ql x)=xs.any λy=>eqV y x:=by
 induction h with
 | nil=>showλ_=>rfl
 | cons r _ ih=>
  intro f;rw[m2,cn]at f;rw[lT,lT,yO r f.1,ih f.2]
theorem zl(rx:RelV x v)(fx:flatV x=true){xs:List V}{us:List bV}(h:Vals xs us):xs.all flatV=true->∀ u∈us,SeqAt.EqAt A s u v (ql x u):=by
 induction h with
 | nil=>showλ_ u a=>by cases a
 | cons r _ ih=>
  intro f b a;rw[m2,cn]at f;rcases gW.mp a with rfl | a
  .rw[yO r f.1];show EL r rx f.1 fx
  .show ih f.2 b a
def vM(x:V)(xs:List V):Bool:=xs.any λy=>eqV y x
def vK(K:bY)(neg:Bool):R2:=λx y H Q=>∃ p xs,y=.ref p/\(jM K H p xs\/mQ K H p xs)/\flatV x=true/\xs.all flatV=true/\Q (.bl (if neg then !vM x xs else vM x xs)) H
theorem Ni:mX X (ib .In) (vK X.K false):=by
 intro f s σ H x y v u Q I g j h;let(p,l,rfl,b,i,c,q):=h;cases j;rcases b with b | b
 .let(a,r,d,k):=I.list b;show SeqAt.in_listAt (ql x) d.isList (λw e=>zl g i r c w (by simpa using e)) ⟨.bl _,H,I,rfl,?_⟩;rw[show a.toArray.any (ql x)=a.any (ql x) by simp,y6 r c];show q
 .let(a,r,d,k):=I.tuple b;show SeqAt.in_tupleAt (ql x) d (λw e=>zl g i r c w (by simpa using e)) ⟨.bl _,H,I,rfl,?_⟩;rw[show a.toArray.any (ql x)=a.any (ql x) by simp,y6 r c];show q
theorem Pg:mX X (ib .NotIn) (vK X.K true):=by
 intro f s σ H x y v u Q I g j h;let(p,l,rfl,b,i,c,q):=h;cases j;rcases b with b | b
 .let(a,r,d,k):=I.list b;show SeqAt.notIn_listAt (ql x) d.isList (λw e=>zl g i r c w (by simpa using e)) ⟨.bl _,H,I,rfl,?_⟩;rw[show a.toArray.any (ql x)=a.any (ql x) by simp,y6 r c];show q
 .let(a,r,d,k):=I.tuple b;show SeqAt.notIn_tupleAt (ql x) d (λw e=>zl g i r c w (by simpa using e)) ⟨.bl _,H,I,rfl,?_⟩;rw[show a.toArray.any (ql x)=a.any (ql x) by simp,y6 r c];show q
theorem Pm:ky X (.builtin "len") (λxs H Q=>∃ p ys,xs=[.ref p]/\(jM X.K H p ys\/mQ X.K H p ys)/\Q (.int ys.length) H):=by
 intro f s σ H xs k Q I r h;let(p,ys,rfl,b,q):=h;let(u,rfl,g):=vals1 r;cases g;have j:=vU;rcases b with b | b
 .let(c,e,d,i):=I.list b;have a:=e.length;show Calls.call_len_list d.isList (by simp only[gF] <;> ac_nf) ⟨.int ys.length,H,I.tok _,⟨s.toks+1,by rw[gF,a]⟩,q⟩
 .let(c,e,d,i):=I.tuple b;have a:=e.length;show len_tuple d (by simp only[gF] <;> ac_nf) ⟨.int ys.length,H,I.tok _,⟨s.toks+1,by rw[gF,a]⟩,q⟩
theorem Pl:ky X (.builtin "len") (λxs H Q=>∃ z,xs=[.str z]/\z.length<=sizeLine/\Q (.int z.length) H):=by
 intro a s σ H xs c Q I r h;let(z,rfl,d,q):=h;let(u,rfl,t,rfl):=vals1 r;have b:=vU;show len_str ∅ ⟨.int z.length,H,I.tok _,⟨_,rfl⟩,q⟩
theorem Pk:ky X (.type "list") (λxs H Q=>∃ p ys,xs=[.ref p]/\(jM X.K H p ys\/mQ X.K H p ys)/\∀ l,H l=none->Q (.ref l) (upd H l (.lst ys))):=by
 intro g s σ H xs B Q I r h;let(p,ys,rfl,i,q):=h;let(u,rfl,A):=vals1 r;cases A;have j:∀(a:List bV),Vals ys a->ys.length<=sizeLine->∀(c:Heap)(d:Nat),(∀ b o',s.heap.get? b=some o'->c.get? b=some o') ->
   c.get? s.heap.objs.size=some { cls:=.type "list",dict:=none,data:=.seq a.toArray d,slots:=#[] }->EP X g σ Q (.ref s.heap.objs.size) { s with heap:=c }:=λa f t c d m e=>
  ⟨.ref s.heap.objs.size,_,I.laid (t':=s.toks) m (cB _) (show jk X.prog X.w _ c _ (.lst ys)from⟨t,a,d,f,e⟩),rfl,q _ (I.hok.fresh (cB _))⟩
 rcases i with i | i
 .let(a,f,y,t):=I.list i;have k:=f.length;let(o,v,z,n,x):=y.isList;show call_list_seq p (.inl rfl) v z x (λc d m e=>j a f t c d m e) (by simp only[gF] <;> ac_nf)
 .let(a,f,y,t):=I.tuple i;have k:=f.length;let(o,v,z,n,x):=y;show call_list_seq p (.inr rfl) v z x (λc d m e=>j a f t c d m e) (by simp only[gF] <;> ac_nf)
def uC(K:bY)(T:String)(x:V)(H:Hp):Prop:=match x with
 | .str _=>T="str"
 | .int _=>T="int"
 | .ref p=>(T="list"/\∃ xs,jM K H p xs)\/(T="tuple"/\∃ o,K.lookup p=some o/\o.cls=.type "tuple"/\o.dict=none) \/
   (T="dict"/\((∃ kvs,H p=some (.dK kvs))\/∃ kvs,H p=some (.dT kvs)))\/(T="set"/\∃ S n,H p=some (.set S n))
 | _=>False
variable{pins:List (Addr × Obj)}{σ:St}{H:Hp}{T:String}
theorem EF(I:Inv X pins σ H s)(r:RelV x v)(ty:uC X.K T x H) :
  s.TypeIs v T/\∀ a,v=.ref a->∃ ob,s.heap.get? a=some ob/\ob.dict=none:=by
 cases x with
 | str z=>
  let(t,rfl):=r;cases(show T="str" from ty);show(nv s z t,λ_ e=>nomatch e)
 | int i=>
  let(t,rfl):=r;cases(show T="int" from ty);show(typeIs_int s i t,λ_ e=>nomatch e)
 | ref p=>
  cases r;rcases ty with⟨rfl,xs,hq⟩ | ⟨rfl,o,hk,hc,f⟩ | ⟨rfl,hk⟩ | ⟨rfl,S,n,hk⟩
  .let(h,_,g,_):=I.list hq;show(g.isList.typeIs,λa e=>?_);cases e;let(o,n,e,c,f,_):=g;show(o,e,f)
  .show(⟨o,I.kIn p o hk,hc⟩,λa e=>?_);cases e;show(o,I.kIn _ o hk,f)
  .have z:∃ o,s.heap.get? p=some o/\o.ExactDict:=by
    rcases hk with⟨kvs,hk⟩ | ⟨kvs,hk⟩
    .let(_,_,_,_,o,_,_,e,b,_):=I.hok p _ hk;show(o,e,b)
    .let(_,_,_,_,o,_,_,e,b,_):=I.hok p _ hk;show(o,e,b)
   let(o,e,b):=z;show(⟨o,e,b.1⟩,λa d=>?_);cases d;show(o,e,b.2.1)
  .let(o,_,_,_,e,b,_):=I.hok p _ hk;show(⟨o,e,b.1⟩,λa d=>?_);cases d;show(o,e,b.2.1)
 | _=>show i0 ty
def xf(K:bY)(T:String)(r:V->List V->Hp->VK->Prop)(to:TE):TE:=λσ H Q=>to σ H λx H1=>uC K T x H1/\r x [] H1 Q
def yC(K:bY)(T:String)(r:V->List V->Hp->VK->Prop)(to:TE)(t:TA):TE:=λσ H Q=>to σ H λx H1=>uC K T x H1/\t σ H1 λxs H2=>r x xs H2 Q
variable{o:Expr}{es:List Expr}{to:TE}{name:Str}{apos cpos:Pos}{id:String}{r:V->List V->Hp->VK->Prop}{t:TA}
theorem IY(pa:PlainAttrs T)(slot:Slot T name id)(hty:typeOf (.builtin id)=pure (.type "method_descriptor"))(hm:xT X id r)(ho:PE X o to)
  (hbase:autoParam (jb o name X.env (eval o X.env)=eval o X.env) Au) (hline:autoParam ((apos.endLine == cpos.line)=true) Au):PE X (.Call (.Attribute o name apos) [] [] cpos) (xf X.K T r to):=by
 intro a s σ H Q I h;show lR hbase hline (jl (ho a s σ H _ I h) λv f ζ=>?_);let(x,c,I1,b,i,g):=ζ;let(e,d):=EF I1 b i;show(T,id,pa,slot,hty,e,d,ig rfl (mq (hm a f σ c x [] v [] Q I1 b .nil g)))
theorem j7(pa:PlainAttrs T)(slot:Slot T name id)(hty:typeOf (.builtin id)=pure (.type "method_descriptor"))(hm:xT X id r)(ho:PE X o to)(ha:PA X (e::es) t)
  (hbase:autoParam (jb o name X.env (eval o X.env)=eval o X.env) Au)
  (hfew:autoParam (((iP cpos (gy (e::es) X.env)).all (λx=>!x.1)&&(backToKw cpos (lS [] X.env)).all (λx=>x.1.isSome)
   && decide ((e::es).length+([]:List Keyword).length+(if([]:List Keyword).isEmpty then 0 else 1)<30))=true) Au)
  (hline:autoParam ((apos.endLine == cpos.line)=true) Au) (hs:autoParam (gy (e::es) X.env=(false,eval e X.env)::gy es X.env) Au) (hplain:autoParam ((iP cpos (gy es X.env)).any (·.1)=false) Au) :
  PE X (.Call (.Attribute o name apos) (e::es) [] cpos) (yC X.K T r to t):=by
 intro a s σ H Q I h;show wpAny_Call_method_late hbase hfew hline rfl (jl (ho a s σ H _ I h) λv i ζ=>?_);let(x,k,I1,b,m,j):=ζ;let(p,u):=EF I1 b m;show(T,id,pa,slot,hty,p,u,?_);have c:=ha cpos a i σ k _ I1 j;rw[hs]at c ⊢;show ig (by show(false||(iP cpos (gy es X.env)).any (·.1))=false;rw[hplain] <;> rfl) (jr ?_);show jl c λq f ζ=>by let(n,l,I2,d,g):=ζ;show hm a f σ l x n v q Q I2 b d g
end
def vO(X:Cx)(id:String)(r:V->List V->Hp->VK->Prop):Prop :=
 ∀(pins:List (Addr × Obj))(s:b8)(σ : St)(H:Hp)(x:V)(xs:List V)(v:bV)(us:List bV)(Q:VK),Inv X pins σ H s->RelV x v->Vals xs us->r x xs H Q ->
  gu (gx X.prog X.w) X.A (call (.builtin id) (v::us)) (EP X pins σ Q) X.xe s
theorem Vals.one{x:V}(h:Vals [x] us):∃ u,us=[u]/\RelV x u:=by
 cases h with
 | cons r t=>cases t;show(_,rfl,r)
theorem Vals.zero:∀{us:List bV},Vals [] us->us=[]
 | _, .nil=>rfl
theorem Vals.dropLast(h:Vals xs us):Vals xs.dropLast us.dropLast:=by
 induction h with
 | nil=>show .nil
 | cons r t ih=>
  cases t with
  | nil=>show .nil
  | cons q t'=>show .cons r ih
theorem NJ(l:List α):l.eraseIdx (l.length-1)=l.dropLast:=by
 induction l with
 | nil=>rfl
 | cons a r ih=>
  cases r with
  | nil=>rfl
  | cons b r=>
   have e:(a::b::r).length-1=((b::r).length-1)+1:=by
    have c:(a::b::r).length=r.length+2:=rfl;have d:(b::r).length=r.length+1:=rfl;ac_nf
   rw[e,List.eraseIdx_cons_succ,ih];all_goals rfl
variable{pins:List (Addr × Obj)}{σ:St}{H:Hp}{s:b8}{l b:Addr}{ys zs:List V}{its:List bV}{t':Nat}
theorem Inv.lset{its':List bV}{f:Array bV->Array bV}(I:Inv X pins σ H s)(hH:H l=some (.lst xs))
  (e:s.heap.get? l=some { cls:=.type "list",data:=.seq its.toArray n }) (hf:f its.toArray=its'.toArray) (hv:Vals ys its') (hz:ys.length<=sizeLine) :
  Inv X pins σ (upd H l (.lst ys)) { s with heap:=s.heap.update l (Obj.mapSeq f),toks:=t' }:=by
 have q:=PySem.IsL.update e f;rw[hf]at q;show I.write (x:=l) (e:=l) (by rw[hH];show trivial) (.inl rfl) (λb u hb a=>(g5 s.heap (Obj.mapSeq f) (iQ hb)).trans a) ⟨_,q⟩ ?_;show(hz,its',_,hv,q)
theorem Inv.lnew(I:Inv X pins σ H s)(hv:Vals ys its)(hz:ys.length<=sizeLine) :
  Inv X pins σ (upd H s.heap.objs.size (.lst ys)) { s with heap:=s.heap.push { cls:=.type "list",data:=.seq its.toArray },toks:=t' } :=
 I.laid (λ_ _ q=>bW _ q) (cB _) ⟨hz,its,0,hv,ck _ rfl⟩
theorem Inv.fresh(I:Inv X pins σ H s):H s.heap.objs.size=none:=I.hok.fresh (cB _)
theorem Inv.lstM(I:Inv X pins σ H s)(hH:H l=some (.lst xs)):xs.length<=sizeLine/\∃(its:List bV)(n:Nat),Vals xs its/\xs.length=its.length/\s.heap.get? l=some { cls:=.type "list",data:=.seq its.toArray n }:=by
 let(z,its,n,r,e):=I.hok l _ hH;show(z,its,n,r,r.length,e)
theorem LN(h:n<=sizeLine):Builtin.List.listTooLong n=false:=by
 unfold Builtin.List.listTooLong;show decide_eq_false ∅
def Ft:V->List V->Hp->VK->Prop:=λx vs H Q=>∃ l xs y,x=.ref l/\vs=[y]/\H l=some (.lst xs)/\xs.length<sizeLine/\Q .non (upd H l (.lst (xs++[y])))
theorem qf:vO X "list.append" Ft:=by
 intro b s σ H x k v m Q I f d h;let(l,i,y,rfl,rfl,c,o,q):=h;cases f;let(u,rfl,g):=d.one;let(z,a,n,r,j,e):=I.lstM c;show lg F.slot_list_append ⟨_,e,rfl⟩ F.entry_list_append (F.args_list_append_2 _ _) (PySem.list_append l a.toArray n u (by rw[gF];ac_nf)) ⟨e,?_⟩;show(.non,_,I.lset (its':=a++[u]) c e (by simp) (r.append (.cons g .nil)) ?_,rfl,q);rw[j6,List.length_singleton];ac_nf
def Fs:V->List V->Hp->VK->Prop:=λx vs H Q=>∃ l b xs zs,x=.ref l/\vs=[.ref b]/\H l=some (.lst xs)/\H b=some (.lst zs)/\xs.length+zs.length<=sizeLine/\Q .non (upd H l (.lst (xs++zs)))
theorem Bt:vO X "list.extend" Fs:=by
 intro g s σ H x D v E Q I t o h;let(l,b,A,B,rfl,rfl,i,j,J,q):=h;cases t;let(u,rfl,w):=o.one;cases w;let(z,c,n,r,C,e):=I.lstM i;let(G,a,p,k,y,m):=I.lstM j;have f:c.toArray.size+a.toArray.size<=sizeLine:=by rw[gF,gF];ac_nf
 have d:¬(!c.toArray.isEmpty&&Builtin.List.listTooLong (c.toArray.size+a.toArray.size))=true:=by
  rw[LN f,Bool.and_false];show gC
 show lg F.slot_list_extend ⟨_,e,rfl⟩ F.entry_list_extend (F.args_list_extend_2 _ _)
  (AutoSeq1.list_extend_list_list_0 l c.toArray n b a.toArray p d (by rw[gF];ac_nf) ∅) ⟨e,m,?_⟩
 show(.non,_,I.lset (its':=c++a) i e (by simp) (r.append k) ?_,rfl,q);rw[j6];ac_nf
def rPop:V->List V->Hp->VK->Prop:=λx vs H Q=>∃ l xs y,x=.ref l/\vs=[]/\H l=some (.lst xs)/\xs[xs.length-1]?=some y/\Q y (upd H l (.lst xs.dropLast))
theorem IA:vO X "list.pop" rPop:=by
 intro d s σ H x t v w Q I k i h;let(l,p,y,rfl,rfl,f,o,q):=h;cases k;have c:=i.zero;subst c;let(z,a,n,r,g,e):=I.lstM f;let(u,j,m):=r.get o;have b:a.toArray[a.toArray.size-1]?=some u:=by
  show a.toArray[a.length-1]?=some u;rw[<- jK, <- g];show j
 show lg F.slot_list_pop ⟨_,e,rfl⟩ F.entry_list_pop (F.args_list_pop_1 _) (MeetsSeq.list_pop_last l a.toArray n u b (by rw[gF];ac_nf)) ⟨e,?_⟩;show(y,_,I.lset (its':=a.dropLast) f e ?_ r.dropLast ?_,m,q)
 .show a.toArray.eraseIdxIfInBounds (a.toArray.size-1)=a.dropLast.toArray;rw[gF,List.eraseIdxIfInBounds_toArray,NJ]
 .rw[List.length_dropLast];ac_nf
def rCat:R2:=λx y H Q=>∃ l b xs zs,x=.ref l/\y=.ref b/\H l=some (.lst xs)/\H b=some (.lst zs)/\xs.length+zs.length<=sizeLine/\∀ p,H p=none->Q (.ref p) (upd H p (.lst (xs++zs)))
theorem Jd:mX X (kb .Add) rCat:=by
 intro d s σ H x y v u Q I o i h;let(l,b,t,w,rfl,rfl,k,f,D,q):=h;cases o;cases i;let(z,c,n,r,A,e):=I.lstM k;let(C,a,B,g,p,j):=I.lstM f;show PySem.P.add_list e j ?_ (by rw[gF,gF];ac_nf);have m:c.toArray++a.toArray=(c++a).toArray:=by simp
 rw[m];show(.ref _,_,I.lnew (t':=s.toks) (r.append g) (by rw[j6];ac_nf),rfl,q _ I.fresh)
variable{prog:gN}{w:ik}{A:iM}{E:bV->b8->Prop}
end L2
namespace Att
open PySem PySem.W PySem.Calls PyProof.Rows
theorem P6{P:Params}{h:Heap}:∀(ns:List Int)(vs:List bV),WellAll P h vs (ns.map WData.int)->IntsAre vs ns:=by
 intro ns;induction ns with
 | nil=>
  intro vs w;rw[List.map_nil]at w;cases w;show .nil
 | cons n ns ih=>
  intro vs w;rw[hV]at w;cases w with
  | cons a b=>
   cases a;show .cons _ _ (ih _ b)
variable{l:OpenLaw}{n:Nat}
theorem Mo(hn:l.most=some n){P:Params}{h:Heap}{args:List WData}{vals:List bV}
  (hpre:l.row.toRowW.claim.pre args=true) (hwl:WellAll P h vals args) :
  ∃ a vs ns,vals=[cf a]/\args=[WData.list (ns.map WData.int)]/\h.get? a=some { cls:=.type "list",data:=.seq vs.toArray }/\IntsAre vs ns/\ns.length<=n:=by
 have f:WShape.hasAll [] args [.list .int]=true:=(pre_splitW hpre).1;have g:l.pre.holds [] { args:=args }=true:=(pre_splitW hpre).2;let(d,r,rfl,k,i):=hasAllW_cons f;obtain rfl:=hasAllW_nil i;let(o,rfl,j):=hasW_list k;let(ns,rfl):=items_int j;have b:ns.length<=n:=by
  unfold OpenLaw.pre at g;have e:(WTm.not (.lt (.lit (.int (n:Int))) (.len (.arg 0)))).holds [] { args:=[.list (ns.map .int)] }=true:=by
   have e:=(holds_andW g).1;rw[hn]at e;show e
  have c:=condW_of e (w_not (w_lt w_lit (w_len_list (w_arg rfl))));rw[iz]at c;show Nat.le_of_not_lt λq=>?_;have m:(n:Int)<((ns.length:Nat):Int):=by ac_nf
  first
   | (rw[decide_eq_true m]at c;show absurd c ⋯)
   | (simp at c;ac_nf)
 cases hwl with
 | cons w1 w2=>
  cases w2;cases w1 with
  | list ho hall=>show(_,_,ns,rfl,rfl,ho,P6 ns _ hall,b)
theorem Nf(l:OpenLaw)(args:List WData):l.row.toRowW.claim.post args (.bool true) args=true :=
 postW_of (r:=l.row.toRowW) (X:=(true == true))
  (show WShape.has [] (.bool true) .bool=true by first | rfl | decide | simp[WShape.has,WShape.arms,WShape.armsAll])
  (show(WTm.eq .res (.lit (.bool true))).value [] { args:=args,res:=some (.bool true),after:=args }=some (.bool (true == true))from w_eq_bool (w_res rfl) w_lit) rfl
theorem attach_call{q:gN}{loose:List Str}{XP:(Str->Option bV)->Heap->Prop}{YP:ik->Heap->Prop}{d:DefRec}
  (hn:l.most=some n) (hdf:d.params.defaults=[])
  (call:∀(w:ik)(s₀ s₁ : b8)(mg mb:Str->Option bV)(fa:Addr)(o:Obj)(pm cd doc:bV)(a:Addr)(vs:List bV)(ns:List Int),
   Ground q loose [] XP w s₀ mg mb s₁.heap->YP w s₁.heap ->
   s₁.heap.get? fa=some o->o.data=.func (docDef d.name d.params d.body d.scope pm cd doc)->s₁.heap.CodeRec cd d.name->mg d.name=some (.ref fa) ->
   s₁.heap.get? a=some { cls:=.type "list",data:=.seq vs.toArray }->IntsAre vs ns->ns.length<=n->s₁.gens=#[] ->
   kl (gx l.prog w) callerA (.call (.ref fa) ⟨[.ref a],[]⟩) (λr s'=>r=.ok (.ret (.bool true))/\OldK s₁.heap s'.heap/\s'.os=s₁.os/\ng s'.gens) s₁) :
  WalkO q loose XP YP l.row.toRowW d [] (λf vs=>PySem.call f vs):=by
 intro w s₀ s₁ mg mb G Y fa o pm cd doc x kV u A j t i y p m H c k B h E;obtain rfl:x=.none:=Dflts.none t hdf;obtain rfl:kV=.none:=Dflts.noKw t;let(a,vs,ns,rfl,rfl,e,b,g):=Mo hn c h;show enter_call (mf (call w s₀ s₁ mg mb fa o pm cd doc a vs ns G Y u (fd_plain A) j i e b g y) λr s' z=>?_);let(rfl,F,C,v):=z;show(.inl ⟨.bool true, .bool true,[],rfl,λ_=>rfl, .bool true,Nf l _,λ_=>⟨List.Pairwise.nil,λ_ D=>(nomatch D)⟩⟩,F,C,v)
variable{prog:gN}{w:ik}{A:iM}{E:bV->b8->Prop}{s:b8}{K:Frag}
end Att
namespace L2
open PySem PySem.Spec PyProof.Rows
variable{vs:List bV}{ns:List Int}
theorem MO(h:IntsAre vs ns):Vals (ns.map V.int) vs:=by
 induction h with
 | nil=>show .nil
 | cons n t _ ih=>show .cons ⟨t,rfl⟩ ih
def uZ(H:Hp):Prop:=∀ b,H b=none\/∃ o xs,H b=some (.frz o (.lst xs))
variable{P:gN}{w:ik}{mg:Str->Option bV}{a:Addr}{fd:iC}{x:Str}
theorem MS{K:bY}{mb:Str->Option bV}{CX:su}{k:Nat}{fa:Addr}{sp:Sp}{s₁:b8}
  (KX:K.In s₁.heap) (hns:s₁.heap.Ns hW mg) (hb:s₁.heap.Ns builtinsNs mb) (hbb:∀ x:Str,x≠"__name__"->mb x=gI x) (hlim:s₁.heap.NoLimit) (hg:s₁.gens=#[])
  (ha:s₁.heap.get? a=some { cls:=.type "list",data:=.seq vs.toArray }) (hi:IntsAre vs ns) (hl:ns.length<=sizeLine) (hr:ku k callerA)
  (F:∀ base:Heap,K.In base->base.Ns hW mg->lJ P w K mg base CX k fa fd [x] sp) (hbind:∀(s:b8)(u:bV),BindsTo s fd ⟨[u],[]⟩ [(x,u)])
  (hsp:∀ H:Hp,uZ H->jM K H a (ns.map V.int)->sp [.ref a] H (λv _=>v=.bl true) λ_ _ _=>False)
  (hCX:∀ H e s',CX [] H s₁ (λ_ _ _=>False) e s'->False) :
  kl (gx P w) callerA (.call (.ref fa) ⟨[.ref a],[]⟩) (λr s'=>r=.ok (.ret (.bool true))/\OldK s₁.heap s'.heap/\s'.os=s₁.os/\ng s'.gens) s₁:=by
 have G:=MO hi;have p:=hi.length;have g:∀ H:Hp,uZ H->jM K H a (ns.map V.int)->ni P w H s₁.heap->(∀ b,H b≠none->b=a)->(H a≠none->K.lookup a=none) ->
   kl (gx P w) callerA (.call (.ref fa) ⟨[.ref a],[]⟩) (λr s'=>r=.ok (.ret (.bool true))/\OldK s₁.heap s'.heap/\s'.os=s₁.os/\ng s'.gens) s₁:=by
  intro H C J j D hK;have c:∀{b:Addr}{o:Obj},s₁.heap.get? b=some o->H b=none->(pG s₁.heap H).get? b=some o:=λe n=>MX e n;have A:∀{b:Addr}{o:Obj}{es:Array DictEntry}{ep:Nat},s₁.heap.get? b=some o->o.data=.dict es ep->H b=none:=λ{b o es ep} e d=>by
   cases q:H b with
   | none=>rfl
   | some u=>
    have B:b=a:=D b (by rw[q];simp);subst B;rw[ha]at e;cases e;have M:Data.seq vs.toArray _=Data.dict es ep:=d;cases M
  have f:∀{b:Addr}{m:Str->Option bV},s₁.heap.Ns b m->(pG s₁.heap H).Ns b m:=λ{b m} ζ=>(by let(o,es,ep,e,d,r):=ζ;show(o,es,ep,c e (A e d),d,r));have y:K.In (pG s₁.heap H):=λb o e=>c (KX b o e) (by
   cases q:H b with
   | none=>rfl
   | some u=>
    have B:b=a:=D b (by rw[q];simp);subst B;rw[hK (by rw[q];simp)]at e;cases e)
  have L:Mod K mg (pG s₁.heap H):=⟨y,f hns,⟨mb,f hb,hbb⟩,let⟨mc,h1,h2⟩:=hlim;⟨mc,f h1,h2⟩⟩;have R:qx P w K mg (pG s₁.heap H) callerA [] s₁ H:=⟨rfl,L,λb o e=>Jp e,mJ (Nb _ _),trivial,λb hb=>absurd (show b∈([]:List Addr)from hb) (by simp),j, .of_eq hg⟩;show mf ((F _ y (f hns)).run callerA [] s₁ H ⟨[.ref a],[]⟩ [.ref a] [.ref a] _ _ hr R (hbind s₁ (.ref a)) (.cons rfl .nil) (hsp H C J)) λr s' h=>?_;cases r with
  | error e=>show(hCX H e s' h).elim
  | ok fl=>
   cases fl with
   | next=>show i0 h
   | brk=>show i0 h
   | cont=>show i0 h
   | ret u=>
    let(v,T,os,t,I,l,Q,q):=h;have O:v=.bl true:=q;subst O;obtain rfl:u=ir true:=Q;show(rfl,OldK.of_keep λb o e=>?_,os,t);cases q:H b with
    | none=>show I.keep b o e q (by intro z;show absurd (show b∈([]:List Addr)from z) (by simp)) (by simp)
    | some u=>
     rcases C b with z | ⟨ob,xs,z⟩
     .rw[q]at z;cases z
     .have S:=I.frzs b ob _ z;let(E,_):=j b _ z;let(N,_):=l b _ S;rw[e]at E;cases E;show N
 cases hk:K.lookup a with
 | some o=>
  have e:=KX a o hk;rw[ha]at e;cases e;show g (λ_=>none) (λ_=>.inl rfl) (.inr ⟨_,vs.toArray,_,hk,rfl,rfl,rfl,by rw[gF,p];show hl,by simpa using G⟩) (λb u z=>by have i:(none:Option HO)=some u:=z;cases i) (λb z=>absurd rfl z) λz=>absurd rfl z
 | none=>
  show g (λb=>if b=a then some (.frz { cls:=.type "list",data:=.seq vs.toArray } (.lst (ns.map V.int)))else none) (λb=>?_) (.inl (.inr ⟨{ cls:=.type "list",data:=.seq vs.toArray },if_pos rfl⟩)) (λb u z=>?_) (λb z=>?_) λ_=>hk
  .by_cases hb:b=a
   .show .inr ⟨_,_,if_pos hb⟩
   .show .inl (if_neg hb)
  .by_cases hb:b=a
   .have i:=(if_pos hb).symm.trans z;cases i;subst hb;show(ha,by rw[iz];show hl,vs,_,G,ha)
   .have i:=(if_neg hb).symm.trans z;cases i
  .by_cases hb:b=a
   .show hb
   .show absurd (if_neg hb) z
variable{h:Heap}
abbrev Sb{K:bY}(_:K.In h):bY:=K
theorem Sh{l:W.OpenLaw}{n k:Nat}{q:gN}{loose:List Str}{XP:(Str->Option bV)->Heap->Prop}{YP:ik->Heap->Prop}{d:DefRec}{K:Params->bY}{CX:ik->su}{sp:ik->Sp}
  (hn:l.most=some n) (hn2:n<=sizeLine) (hdf:d.params.defaults=[]) (hr:ku k callerA)
  (hY:∀(w:ik)(h:Heap),YP w h->(K w.params).In h)
  (F:∀(w:ik)(mg:Str->Option bV)(fa:Addr)(h:Heap),(K w.params).In h->h.Ns hW mg->mg d.name=some (.ref fa) ->
   ∃ fd:iC,(∀(s:b8)(u:bV),BindsTo s fd ⟨[u],[]⟩ [(x,u)]) /\
    ∀ base:Heap,(K w.params).In base->base.Ns hW mg->lJ l.prog w (K w.params) mg base (CX w) k fa fd [x] (sp w))
  (hsp:∀(w:ik)(H:Hp)(a:Addr)(ns:List Int),ns.length<=n->uZ H->jM (K w.params) H a (ns.map V.int)->sp w [.ref a] H (λv _=>v=.bl true) λ_ _ _=>False)
  (hCX:∀(w:ik)(H:Hp)(s:b8)(e:bV)(s':b8),CX w [] H s (λ_ _ _=>False) e s'->False) :
  W.WalkO q loose XP YP l.row.toRowW d [] (λf vs=>PySem.call f vs):=by
 show Att.attach_call hn hdf λw s₀ s₁ mg I fa o B D p a vs ns G Y C E A m j i c z=>?_;have KX:=hY w _ Y;let(fd,hb,t):=F w mg fa _ KX G.T.g m;show MS KX G.T.g G.T.b G.T.builtins G.T.nolimit z j i (g0 c hn2) hr t hb (λH y r=>hsp w H a ns c y r) λH e s'=>hCX w H s₁ e s'
def inClass(s:Stmt)(j:Nat):Stmt:=match s with
 | .ClassDef _ _ _ body _ _ _ _ _ _ _=>body.getD j (.Pass ⟨0,0,0,0⟩)
 | _=>.Pass ⟨0,0,0,0⟩
def qT(s:Stmt):Arguments:=match s with
 | .FunctionDef _ a _ _ _ _ _ _ _ _=>a
 | _=>{ posonlyargs:=[],args:=[],vararg:=none,kwonlyargs:=[],kw_defaults:=[],kwarg:=none,defaults:=[] }
def pR(s:Stmt):List Stmt:=match s with
 | .FunctionDef _ _ b _ _ _ _ _ _ _=>b
 | _=>[]
def iW(s:Stmt):Scope:=match s with
 | .FunctionDef _ _ _ _ _ _ sc _ _ _=>sc
 | _=>{ kind:=.function,names:=[],isGenerator:=false,isCoroutine:=false }
abbrev E0:XK:=λ_ _ _=>False
structure Hd(K:bY)(x qual:Str)(st:Stmt)(f:Addr)(fd:iC):Prop where
 ex:∃(oc:bV)(od:Option Addr)(kV doc pm:bV)(an:Option Addr)(cdv ct:bV)(osl:Array (Option bV)),
  fd=lU x qual (qT st) (pR st) (iW st) .none kV doc pm an cdv ct/\K.lookup f=some ⟨oc,od, .func fd,osl⟩/\W.codeIn K cdv qual=true
 kp:ki K (.ref f)=true
section
variable{base:Heap}{K:bY}{qual:Str}{st:Stmt}{ps:List Str}
theorem Hd.binds{f:Addr}(F:Hd K x qual st f fd)
  (h:∀(kV doc pm:bV)(an:Option Addr)(cdv ct:bV)(us:List bV),us.length=ps.length->bindArgs (lU x qual (qT st) (pR st) (iW st) .none kV doc pm an cdv ct) ⟨us,[]⟩=pure (ps.zip us)):Binds K fd ps []:=by
 let(c,d,kV,doc,pm,an,cdv,ct,a,rfl,lk,b):=F.ex;show .all (h kV doc pm an cdv ct)
end
variable{X:Cx}
theorem pv(i:Nat){x:Str}{pos:Pos}(hN:autoParam (X.N[i]?=some x) Au)(hv:autoParam (Ag X.env.scope x) Au)(hd:autoParam ((x == ("__debug__" : Str))=false) Au)
  (hcd:autoParam ((x == ("__classdict__" : Str))=false) Au):PE X (.Name x pos) (lH i):=HL hN hv hd hcd
def tE(H H':Hp):Prop:=∀ b o,H b=some o->H' b=some o
def DictAt(h:Heap)(e:Addr)(od:Option Addr):Prop:=∃ o,h.get? e=some o/\o.dict=od
theorem Oa(o:Obj)(f):(o.mapFields f).dict=o.dict:=by
 let(c,d,a,b):=o;cases a <;> rfl
section
variable{M:Model}{A:iM}{E:bV->b8->Prop}{s:b8}{base:Heap}{env:Env}{outer l:List Env}{L e:Addr}{oe:Obj}{vs:Array bV}{head a0 fl:bV}{od:Option Addr}{Q:Unit->b8->Prop}{cls:bV}
theorem AB{hadNext:Bool}(hfr:A.frames=some (env::outer))(hl:s.heap.FunFrames base (env::outer))(hf:env.frame=some L)
  (he:s.heap.get? e=some oe) (hkb:base.StaysIn s.heap) (hen:base.get? e=none) (hd:oe.data=.fields vs) (hsz:1<vs.size) (h0:vs[0]?=some a0)
  (h:∀ h',Heap.NotedW base (env::outer) e oe.cls a0 (lL L) s.heap h'->DictAt h' e oe.dict->Q () { s with heap:=h' }) :
  gu M A (do let a <- frameOf env;let pl <- entryPlaceOf L hadNext;let b <- EntryCells.newEntry head a .none (lL L) .none pl;setField (.ref e) 1 b) Q E s:=by
 have B:e∉(env::outer).filterMap (·.frame):=λr=>by
  let(_,o,v,d):=hl.mem r;rw[he]at v;cases v;show d vs hd
 show bO (wpAny_frameOf_fun hfr hl hf λh₁ p=>bO (wpAny_entryPlaceOf λpl g=>?_));unfold EntryCells.newEntry newFields;show bO (kO ?_ (g.sizeOk5 _ _ _ _ _));have f:h₁.get? e=some oe:=(p.2.1 e B).trans he;have i:base.StaysIn h₁:=λb o hb=>(p.2.1 b λr=>by rw[(hl.mem r).1]at hb;cases hb).trans (hkb b o hb);generalize u:({ cls:=.type "traceback",dict:=none,data:=.fields ([head, .ref L, .none,lL L, .none]++(if pl.isEmpty then gB 6 gY else pl)).toArray }:Obj)=m;have k:=bW (h:=h₁) m f;show kZ k hd hsz ?_;have w:h₁.objs.size≠e:=hB (b9 f);have l:=jL hd (·.setIfInBounds 1 (cf h₁.objs.size));have j:=jh (kz (·.setIfInBounds 1 (cf h₁.objs.size))) k (lW l);have t:=(g5 (h₁.push m) (kz (·.setIfInBounds 1 (cf h₁.objs.size))) (iQ w)).trans (ck h₁ (by rw[<- u];rfl));have c:∀ b o,b≠e->h₁.get? b=some o->((h₁.push m).update e (kz (·.setIfInBounds 1 (cf h₁.objs.size)))).get? b=some o:=λb o n hb=>by
  rw[g5 _ _ (iQ n)];show bW _ hb
 have x:∀ b o,s.heap.get? b=some o->(∀ vs,o.data≠.fields vs)->b≠e:=λb o hb d q=>by
  rw[q,he]at hb;cases hb;show d vs hd
 show h _ ⟨λb o hb=>c b o (λq=>by rw[q,hen]at hb;cases hb) (i b o hb),hl.of_keeps λb o hb d=>?_,?_,λb o hb d=>?_⟩ ⟨_,j,Oa _ _⟩
 .let(y,z):=p.2.2 b o hb;show(_,c b _ (x b o hb d) z,rfl)
 .show(_,_,h₁.objs.size,m,_,j,⟨Obj.cls_mapFields _ _,by rw[Array.getElem?_setIfInBounds_ne ⋯];show h0⟩,l,by simp[hsz],i.fresh,w,t,by rw[<- u],?_);first | (simp;done) | (rcases g with rfl | ⟨_,_,_,_,_,_,_,rfl⟩ <;> simp)
 .let(y,z):=p.2.2 b o hb;show(y,c b _ (x b o hb d) z)
theorem rV(hfr:A.frames=some (env::outer))(hf:env.frame=some L)(hfl:jZ base (env::outer) e cls a0 s.heap)(hdc:DictAt s.heap e od)
  (h:∀ h',Heap.HeldW base (env::outer) e cls a0 L h'->s.heap.UpToSlots h'->DictAt h' e od->Q () { s with heap:=h' }):gu M A (nj (.ref e) env) Q E s:=by
 let(l,f,D,J,t,T,I,F,m,(i,y),r,v,k,p,j,c,u):=hfl;subst i;let(z,g,n):=hdc;rw[m]at g;cases g;unfold nj;simp only[hf];show bO (ix m r v ?_);rw[if_pos (show(cf T != gY)=true from by simp)];show bO (ix j c u ?_);rw[if_neg (show¬((gY == lL L)=true)from by simp[lL])];show bO (kZ j c (iu.mp u).1 ?_);have a:∀ b,b≠T->(s.heap.update T (kz (·.setIfInBounds 3 gY))).get? b=s.heap.get? b:=λb hb=>g5 _ _ (iQ hb);have w:∀ b o,s.heap.get? b=some o->(∀ t,o.data≠.fields t)->b≠T:=λb o hb d q=>by
  rw[q,j]at hb;cases hb;show d F c
 show AB hfr (D.of_keeps λb o hb d=>⟨o,(a b (w b o hb d)).trans hb,rfl⟩) hf ((a e (iQ p)).trans m)
  (λb o hb=>(a b λq=>by rw[q,k]at hb;cases hb).trans (l b o hb)) f r (iu.mp v).1 y λh' ⟨B,x,H,G⟩ C=>?_
 show h h' ⟨B,f,x,H⟩ (λb o hb d=>G b o ((a b (w b o hb d)).trans hb) d) (n ▸ C)
theorem wd(hkb:base.StaysIn s.heap)(hl:s.heap.FunFrames base l)(ht:s.heap.TracedAtW base e cls a0 fl)(hdc:DictAt s.heap e od)
  (h:∀ h',base.StaysIn h'->h'.FunFrames base l->h'.TracedW base e cls a0->s.heap.UpToSlots h'->DictAt h' e od->Q () { s with heap:=h' }):gu M A (setFlight (.ref e) none) Q E s:=by
 let(v,p,T,z,x,t,k,r,m,i,d,n,c,w):=ht;have j:=(iu.mp w).1;have a:∀ b,b≠T->(s.heap.update T (kz (·.setIfInBounds 3 ((none:Option Addr).elim gY λf=>lL f)))).get? b=s.heap.get? b:=λb hb=>g5 _ _ (iQ hb);have u:∀ b o,s.heap.get? b=some o->(∀ p,o.data≠.fields p)->b≠T:=λb o hb g q=>by
  rw[q,n]at hb;cases hb;show g x c
 unfold setFlight;show bO (ix t r m ?_);rw[if_pos (show(cf T != gY)=true from by simp)];show kZ n c j (h _ (λb o hb=>(a b λq=>by rw[q,i]at hb;cases hb).trans (hkb b o hb)) (hl.of_keeps λb o hb g=>⟨o,(a b (u b o hb g)).trans hb,rfl⟩) ?_ (λb o hb g=>⟨o.slots,(a b (u b o hb g)).trans hb⟩) ?_)
 .show(v,p,T,_,_,(a e (iQ d)).trans t,k,r,m,i,d,jh _ n (lW (jL c _)),jL c _,by simp[j])
 .let(o,m,y):=hdc;show(o,(a e (iQ d)).trans m,y)
theorem JA(hfr:A.frames=some (env::outer))(hf:env.frame=some L)(hfl:jZ base (env::outer) e cls a0 s.heap)(hdc:DictAt s.heap e od)
  (hQ:∀ h',jZ base outer e cls a0 h'->s.heap.UpToSlots h'->DictAt h' e od->Q () { s with heap:=h' }):gu M A (m8 env (.ref e)) Q E s:=by
 unfold m8;show bO (rV hfr hf hfl hdc λi k l h=>?_);let(m,g,n,d):=k;show wd (s:={ s with heap:=i }) m n d h λa o ⟨_,_,j⟩ f b c=>hQ a ⟨o,g,j,f⟩ (l.trans b) c
theorem IG(hh:Heap.HeldW base l e cls a0 L s.heap)(hdc:DictAt s.heap e od)(hQ:∀ h',jZ base l e cls a0 h'->s.heap.UpToSlots h'->DictAt h' e od->Q () { s with heap:=h' }):gu M A (setFlight (.ref e) none) Q E s:=by
 let(i,g,j,d):=hh;show wd i j d hdc λa k h f b c=>hQ a ⟨k,g,h,f⟩ b c
theorem Kb(hh:jZ base l e cls a0 s.heap)(hdc:DictAt s.heap e od)(hQ:∀ h',jZ base l e cls a0 h'->s.heap.UpToSlots h'->DictAt h' e od->Q () { s with heap:=h' }):gu M A (setFlight (.ref e) none) Q E s:=by
 let(i,g,j,d):=hh;show wd i j d.at hdc λa k h f b c=>hQ a ⟨k,g,h,f⟩ b c
theorem EI(hfr:A.frames=some (env::outer))(hl:s.heap.FunFrames base (env::outer))(hf:env.frame=some L)(he:s.heap.get? e=some oe)(hkb:base.StaysIn s.heap)(hen:base.get? e=none)(hd:oe.data=.fields vs)(h1:vs[1]?=some .none)(h0:vs[0]?=some a0)
  (hQ:∀ h',jZ base outer e oe.cls a0 h'->s.heap.UpToSlots h'->DictAt h' e oe.dict->Q () { s with heap:=h' }):gu M A (m8 env (.ref e)) Q E s:=by
 unfold m8 nj;simp only[hf];show bO (bO (ix he hd h1 ?_));rw[if_neg ⋯];show AB hfr hl hf he hkb hen hd (iu.mp h1).1 h0 λa ⟨c,b,g,k⟩ l=>?_;show wd (s:={ s with heap:=a }) c b g l λh m ⟨_,_,j⟩ i d f=>hQ h ⟨m,hen,j,i⟩ (Heap.UpToSlots.trans k d) f
end
variable{H:Hp}
theorem jk.is_there{o:HO}(x:jk P w H h a o):∃ ob,h.get? a=some ob:=by
 cases o with
 | lst xs=>let(_,_,_,_,e):=x;show(_,e)
 | tup xs=>let(_,_,_,p):=x;let(o,e,_):=p;show(_,e)
 | dK kvs=>let(_,_,_,_,o,_,_,e,_):=x;show(_,e)
 | dT kvs=>let(_,_,_,_,o,_,_,e,_):=x;show(_,e)
 | set S n=>
  let(o,_,_,_,e,_):=x;show(_,e)
 | ins C dx fs=>let(_,_,_,e,_):=x;show(_,e)
 | own y=>show x
 | xd fs=>let(c,n,_):=x;let(b,e,_):=Bv n;show(_,e)
 | rng lo hi=>let(_,_,_,e):=x;show(_,e)
 | frz ob u=>show(_,x.1)
 | tbl ps=>show(_,x)
 | met f y=>show(_,x)
 | ext φ=>show x.2.1
theorem ni.isnone(x:ni P w H h)(e:h.get? a=none):H a=none:=by
 cases q:H a with
 | none=>rfl
 | some u=>
  let(b,z):=(x a u q).is_there;rw[e]at z;cases z
structure wV(l:List Env)(H':Hp)(h0:Heap)(ea:Addr)(od:Option Addr)(cls a0:bV)(B h:Heap):Prop where
 fly:jZ B l ea cls a0 h
 free:H' ea=none
 new:h0.get? ea=none
 dct:DictAt h ea od
 kept:∀ b o,h.get? b=some o->((∃ o',h0.get? b=some o')\/∃ u,H' b=some u)->b∉ll l->B.get? b=some o
def kU(P:gN)(w:ik):su:=λouter H s E e s'=>
 ∃(ea:Addr)(od:Option Addr)(cls a0:bV)(B:Heap)(H':Hp),e=.ref ea/\s'.os=s.os/\ng s'.gens/\Un (ll outer) [] H H' s.heap s'.heap/\ni P w H' s'.heap /\
  wV outer H' s.heap ea od cls a0 B s'.heap/\E cls od H'
section
variable{l l':List Env}{H':Hp}{h0 h' B:Heap}{ea:Addr}{od:Option Addr}{a0:bV}{cls:bV}
theorem wV.next(u:Un (ll l) [] H H' h0 h)(hok:ni P w H' h)(F:wV l H' h0 ea od cls a0 B h)(fr:∀ b∈ll l,H' b=none)(k:B.StaysIn h')(sl:h.UpToSlots h') :
  ni P w H' h'/\Un (ll l) [] H H' h0 h'/\∀ b o,h.get? b=some o->((∃ o',h0.get? b=some o')\/∃ u,H' b=some u)->b∉ll l->h'.get? b=some o:=by
 have c:∀ b o,h.get? b=some o->((∃ o',h0.get? b=some o')\/∃ u,H' b=some u)->b∉ll l->h'.get? b=some o:=λb o q r n=>k b o (F.kept b o q r n);have d:∀ b o,b∈ll l->h.get? b=some o->∃ f,h'.get? b=some { o with slots:=f }:=λb o m q=>by
  let(_,o',p,t):=F.fly.2.2.1.mem m;rw[q]at p;cases p;show sl b o q t
 show(λa o e=>?_,⟨λb o q n s _=>?_,λb o q n m _=>?_,u.free,λb o q x=>?_,u.tups,u.frzs,u.tbls⟩,c)
 .have j:∀ b u,H' b=some u->b∉ll l:=λb u q m=>by
   rw[fr b m]at q;cases q
  show(hok a o e).stay (λb v hb q=>?_) (λ_ r=>r) (λ_ _ r=>r);rcases hb with rfl | hb
  .show c _ _ q (.inr ⟨_,e⟩) (j _ _ e)
  .show c _ _ q (.inr ⟨_,hb⟩) (j _ _ hb)
 .show c b o (u.keep b o q n s (by simp)) (.inl ⟨o,q⟩) s
 .let(y,g):=u.slot b o q n m (by simp);let(f,i):=d b _ m g;show(f,i)
 .let(o',g):=u.there b o q (by simp);by_cases m:b∈ll l
  .let(f,i):=d b _ m g;show(_,i)
  .show(o',c b o' g (.inl ⟨o,q⟩) m)
end
section
variable{pins:List (Addr × Obj)}{σ:St}{H':Hp}{s:b8}{h' B:Heap}{ea:Addr}{od:Option Addr}{a0:bV}{cls:bV}
theorem Inv.out(I:Inv X pins σ H s)(hex:X.ex=[])(u:Un (ll X.stack) [] H H' s.heap h'):Un X.fs [] X.H₀ H' X.s₀.heap h':=by
 have J:=I.base;rw[hex]at J;have i:∀ b o,X.s₀.heap.get? b=some o->b≠X.env.locals:=λb o q z=>by
  have g:=b9 q;have r:=I.ok.above;rw[z]at g;show absurd (gv g r) (il _)
 have l:∀ b o,X.s₀.heap.get? b=some o->b∉X.fs->b∉ll X.stack:=λb o q c m=>by
  rcases gW.mp (I.stkSub b m)with z | z
  .show i b o q z
  .show c z
 show(λb o q n c _=>?_,λb o q n m _=>?_,λb o q n _=>?_,λb o q _=>?_,λb f q=>u.tups b f (J.tups b f q),λb o v q=>u.frzs b o v (J.frzs b o v q),λb p q=>?_)
 .show u.keep b o (J.keep b o q n c (by simp)) (J.free b o q n (by simp)) (l b o q c) (by simp)
 .let(t,a):=J.slot b o q n m (by simp);let(h,d):=u.any a (J.free b o q n (by simp)) (by simp);show(h,d)
 .let(e,a):=J.there b o q (by simp);show u.free b e a (J.free b o q n (by simp)) (by simp)
 .let(e,a):=J.there b o q (by simp);show u.there b e a (by simp)
 .let(k,a):=J.tbls b p q;let(j,d):=u.tbls b _ a;show(k++j,by rw[d,Array.append_assoc])
theorem Inv.stkFree'(I:Inv X pins σ H s)(u:Un (ll X.stack) [] H H' s.heap h):∀ b∈ll X.stack,H' b=none:=λb m=>by
 let(_,o,q,_):=I.stack.mem m;show u.free b o q (I.stkFree b m) (by simp)
end
section
variable{base:Heap}{N:List Str}{qual:Str}{scope:Scope}{cdv:bV}{A:iM}{outer:List Env}{s0:b8}{H0:Hp}{E:XK}{K:bY}{f:Addr}
theorem pass1:qb (kU P w) (lI (kU P w) P w K mg base N qual scope f cdv A outer s0 H0 E) E:=by
 intro C σ H s e D I hx;let(i,Q,cls,a0,B,y,rfl,p,O,u,j,F,U):=hx;have x:=I.stkFree' u;show gu (gx P w) (A.deeper (hI qual scope s0.heap.objs.size f cdv)) (m8 (hI qual scope s0.heap.objs.size f cdv) (.ref i)) (λ_ h=>kU P w outer H0 s0 E (.ref i) h) (λX h=>kU P w outer H0 s0 E X h) D;show JA (base:=B) (cls:=cls) (a0:=a0) I.ok.frames rfl F.fly F.dct λM g t n=>?_;let(k,R,kB):=F.next u j x g.1 t;have l:s0.heap.get? i=none:=by
  cases q:s0.heap.get? i with
  | none=>rfl
  | some o=>
   let(c,S):=I.base.there i o q (by intro z;cases z);have:=F.new;rw[S]at this;cases this
 show(i,Q,cls,a0,B,y,rfl,p.trans I.os,O,I.out rfl R,k,⟨g,F.free,l,n,λb o q r T=>?_⟩,U);have L:b≠s0.heap.objs.size:=λz=>by
  rcases r with⟨c,a⟩ | ⟨v,a⟩
  .have:=b9 a;rw[z]at this;show absurd this (il _)
  .have W:=x s0.heap.objs.size (by
    show s0.heap.objs.size∈ll (hI qual scope s0.heap.objs.size f cdv::outer);show jt.mpr ⟨_,i8 ..,rfl⟩)
   rw[z,W]at a;cases a
 have V:b∉ll (hI qual scope s0.heap.objs.size f cdv::outer):=λm=>by
  rcases gW.mp (I.stkSub b m)with z | z
  .show L z
  .show T z
 have G:(∃ c,s.heap.get? b=some c)\/∃ v,y b=some v:=by
  rcases r with⟨c,a⟩ | r
  .show .inl (I.base.there b c a (by intro z;cases z))
  .show .inr r
 have d:∃ c,D.heap.get? b=some c:=by
  rcases G with⟨c,a⟩ | ⟨v,a⟩
  .show u.there b c a (by simp)
  .show(j b v a).is_there
 let(c,a):=d;have z:=F.kept b c a G V;have J:=g.1 b c z;rw[show M.get? b=some o from q]at J;cases J;show z
end
theorem passF:qb (kU P w) X E0:=λ_ _ _ _ _ _ _ h=>by
 let(_,_,_,_,_,_,_,_,_,_,_,_,z):=h;show i0 z
def sS(H:Hp)(a:Addr):Hp:=λb=>if b=a then none else H b
theorem FY:sS H a a=none:=if_pos rfl
theorem sD{b:Addr}(h:b≠a):sS H a b=H b:=if_neg h
variable{C:Addr}{bmB:List bV}{newId:String}
theorem Fn{K:bY}(X:K.In h)(q:kx K C bmB newId=true) :
  ∃(bm:List bV)(N:Addr)(nm qn:Str)(bs:List bV)(hdct:Bool)(sn:List Str)(sub:List bV)(ab:Bool)(col:Option Bool)(dd:Option Addr)(k0 k1 k2 k3 k5:Option bV)(mN:Str->Option bV),
   h.get? C=some (mG nm qn C N bs bm hdct sn sub ab col dd k0 k1 k2 k3 k5 newId)/\h.Ns N mN/\mN "__init__"=none/\OwnTail h bmB bm:=by
 unfold kx at q;split at q
 next dd cd sl ho=>
  split at q
  next C' bm k0 k1 k2 k3 n k5 hm hs=>
   have j:((((C'=C/\n=newId)/\cd.hasDel=false)/\W.tailIn K bmB bm=true)/\W.nsOkIn K cd.ns=true)/\m9 K cd.ns "__init__"=some none:=by simpa using q
   obtain⟨⟨⟨⟨⟨m,i⟩,o⟩,f⟩,e⟩,g⟩:=j;let(nm,bs,a,p,qn,k,sn,sub,ab,col,c):=cd;have l:sl=#[k0,k1,k2,k3,some (.builtin n),k5]:=by
    cases sl;show congrArg Array.mk hs
   subst m;subst i;subst l;have b:a=.ref C'::bm:=hm;subst b;have d:c=false:=o;subst d;show(bm,p,nm,qn,bs,k,sn,sub,ab,col,dd,k0,k1,k2,k3,k5,_,X _ _ ho, .of_isNs (W.isNs_of_in X e),W.nsMap_none_of_in X e g,W.tail_of_in X f)
  next=>cases q
 next=>cases q
section
variable{base:Heap}{N:List Str}{qual:Str}{scope:Scope}{cdv:bV}{A:iM}{outer:List Env}{s0:b8}{H0:Hp}{E:XK}{K:bY}{f:Addr}{pins:List (Addr × Obj)}{σ:St}{s:b8}{h':Heap}{e:Addr}{us:List bV}
theorem IF{cls:bV}
  (I:Inv (lI (kU P w) P w K mg base N qual scope f cdv A outer s0 H0 E) pins σ H s) (hm:Heap.MadeExcOf s.heap h' e cls us) (q:E cls none H) :
  (lI (kU P w) P w K mg base N qual scope f cdv A outer s0 H0 E).xe (.ref e) { s with heap:=h' }:=by
 show gu (gx P w) (A.deeper (hI qual scope s0.heap.objs.size f cdv)) (m8 (hI qual scope s0.heap.objs.size f cdv) (.ref e)) (λ_ h=>kU P w outer H0 s0 E (.ref e) h) (λX h=>kU P w outer H0 s0 E X h) { s with heap:=h' };have R:=I.stkFree;have L:∀ i∈(hI qual scope s0.heap.objs.size f cdv::outer), ∀ b,i.frame=some b->b∈ll (hI qual scope s0.heap.objs.size f cdv::outer):=λi G b hb=>jt.mpr ⟨i,G,hb⟩;let(t,G,_,_):=hm.there;show EI (s:={ s with heap:=h' }) (base:=W.hideAll s.heap (ll (hI qual scope s0.heap.objs.size f cdv::outer))) I.ok.frames ((W.funFrames_hide I.stack L).of_keeps λb o hb Z=>⟨o,hm.keeps b o hb,rfl⟩) rfl G (λb o z=>hm.keeps b o (W.of_hideAll _ z)) ?_ rfl rfl rfl λB k x F=>?_
 .cases z:(W.hideAll s.heap (ll (hI qual scope s0.heap.objs.size f cdv::outer))).get? e with
  | none=>rfl
  | some o=>
   have M:=W.of_hideAll _ z;rw[hm.new]at M;cases M
 have j:H e=none:=I.hok.isnone hm.new;have c:∀ b o,s.heap.get? b=some o->b∉ll (hI qual scope s0.heap.objs.size f cdv::outer)->B.get? b=some o:=λb o z n=>k.1 b o (W.hideAll_get _ z n);have u:Un (ll (hI qual scope s0.heap.objs.size f cdv::outer)) [] H H s.heap B:=by
  show(λb o z _ n _=>c b o z n,λb o z _ m _=>?_,λ_ _ _ n _=>n,λb o z _=>?_,λ_ _ z=>z,λ_ _ _ z=>z,λ_ ps z=>⟨#[],by rw[z];simp⟩)
  .let(_,g,d,J):=I.stack.mem m;rw[z]at d;cases d;show x b o (hm.keeps b o z) J
  .by_cases m:b∈ll (hI qual scope s0.heap.objs.size f cdv::outer)
   .let(_,g,d,J):=I.stack.mem m;rw[z]at d;cases d;let(Y,S):=x b o (hm.keeps b o z) J;show(_,S)
   .show(o,c b o z m)
 have D:∀ b v,H b=some v->b∉ll (hI qual scope s0.heap.objs.size f cdv::outer):=λb v z m=>by
  rw[R b m]at z;cases z
 have C:ni P w H B:=λa o z=>by
  show(I.hok a o z).stay (λb v hb p=>?_) (λ_ r=>r) (λ_ _ r=>r);rcases hb with rfl | hb
  .show c _ _ p (D _ _ z)
  .show c _ _ p (D _ _ hb)
 have l:s0.heap.get? e=none:=by
  cases z:s0.heap.get? e with
  | none=>rfl
  | some o=>
   let(g,T):=I.base.there e o z (by intro z;cases z);have:=hm.new;rw[T]at this;cases this
 show(e,none,cls, .ref t,_,H,rfl,I.os,I.bare,I.out rfl u,C,⟨k,j,l,F,λb o z r V=>?_⟩,q);have U:∃ g,s.heap.get? b=some g:=by
  rcases r with⟨g,d⟩ | ⟨v,d⟩
  .show I.base.there b g d (by intro z;cases z)
  .show(I.hok b v d).is_there
 have O:b∉ll (hI qual scope s0.heap.objs.size f cdv::outer):=λm=>by
  rcases gW.mp (I.stkSub b m)with y | y
  .rcases r with⟨g,d⟩ | ⟨v,d⟩
   .have Q:=b9 d;rw[y]at Q;show absurd Q (il _)
   .show D b v d m
  .show V y
 let(g,d):=U;have p:=c b g d O;rw[show B.get? b=some o from z]at p;cases p;show W.hideAll_get _ d O
variable{oe:Obj}{a0:bV}
theorem IE{vs:Array bV}{φ:Heap->Prop}
  (I:Inv (lI (kU P w) P w K mg base N qual scope f cdv A outer s0 H0 E) pins σ H s) (ht:H e=some (.ext φ)) (he:s.heap.get? e=some oe) (hd:oe.data=.fields vs) (h1:vs[1]?=some .none) (h0:vs[0]?=some a0) (new0:s0.heap.get? e=none) (q:E oe.cls oe.dict (sS H e)) :
  (lI (kU P w) P w K mg base N qual scope f cdv A outer s0 H0 E).xe (.ref e) s:=by
 show gu (gx P w) (A.deeper (hI qual scope s0.heap.objs.size f cdv)) (m8 (hI qual scope s0.heap.objs.size f cdv) (.ref e)) (λ_ j=>kU P w outer H0 s0 E (.ref e) j) (λU j=>kU P w outer H0 s0 E U j) s;have M:=I.stkFree;have G:∀ k∈(hI qual scope s0.heap.objs.size f cdv::outer), ∀ b,k.frame=some b->b∈e::ll (hI qual scope s0.heap.objs.size f cdv::outer):=λk he b hb=>.tail _ (jt.mpr ⟨k,he,hb⟩);show EI (base:=W.hideAll s.heap (e::ll (hI qual scope s0.heap.objs.size f cdv::outer))) I.ok.frames (W.funFrames_hide I.stack G) rfl he (λb o z=>W.of_hideAll _ z) (W.hideAll_none _ (.head _)) hd h1 h0 λB p J t=>?_;have c:∀ b o,s.heap.get? b=some o->b≠e->b∉ll (hI qual scope s0.heap.objs.size f cdv::outer)->B.get? b=some o:=λb o z l n=>p.1 b o (W.hideAll_get _ z λm=>(gW.mp m).elim l n);have x:∀ b,H b=none->b≠e:=λb z y=>by rw[y,ht]at z;cases z
 have g:∀ b o,s.heap.get? b=some o->b∈ll (hI qual scope s0.heap.objs.size f cdv::outer)->∃ sl,B.get? b=some { o with slots:=sl }:=λb o z m=>by
  let(_,h,d,T):=I.stack.mem m;rw[z]at d;cases d;show J b o z T
 have u:Un (ll (hI qual scope s0.heap.objs.size f cdv::outer)) [] H (sS H e) s.heap B:=by
  show(λb o z n m _=>c b o z (x b n) m,λb o z _ m _=>g b o z m,λb _ _ n _=>by rw[sD (x b n)];show n,λb o z _=>?_,λb X z=>?_,λb o v z=>?_,λb Y z=>⟨#[],?_⟩)
  .by_cases y:b=e
   .let(O,i,_):=t;show(O,y ▸ i)
   .by_cases m:b∈ll (hI qual scope s0.heap.objs.size f cdv::outer)
    .let(V,Q):=g b o z m;show(_,Q)
    .show(o,c b o z y m)
  .rw[sD (λy=>by rw[y,ht]at z;cases z)];show z
  .rw[sD (λy=>by rw[y,ht]at z;cases z)];show z
  .rw[sD (λy=>by rw[y,ht]at z;cases z),z];simp
 have F:∀ b v,H b=some v->b∉ll (hI qual scope s0.heap.objs.size f cdv::outer):=λb v z m=>by
  rw[M b m]at z;cases z
 have C:∀ b v,sS H e b=some v->b≠e/\H b=some v:=λb v z=>by
  by_cases y:b=e
  .rw[y,FY]at z;cases z
  .show(y,(sD y).symm.trans z)
 have D:ni P w (sS H e) B:=λa o z=>by
  let(l,z):=C a o z;show(I.hok a o z).stay (λb v hb i=>?_) (λb r=>by rw[sD (λy=>by rw[y,ht]at r;cases r)];show r) (λb _ r=>by rw[sD (λy=>by rw[y,ht]at r;cases r)];show r);rcases hb with rfl | hb
  .show c _ _ i l (F _ _ z)
  .show c _ _ i (λy=>by rw[y,ht]at hb;cases hb) (F _ _ hb)
 show(e,oe.dict,oe.cls,a0,_,sS H e,rfl,I.os,I.bare,I.out rfl u,D,⟨p,FY,new0,t,λb o z r S=>?_⟩,q);have l:b≠e:=λy=>by
  rcases r with⟨h,d⟩ | ⟨v,d⟩
  .rw[y,new0]at d;cases d
  .show(C _ _ d).1 y
 have R:∃ h,s.heap.get? b=some h:=by
  rcases r with⟨h,d⟩ | ⟨v,d⟩
  .show I.base.there b h d (by intro z;cases z)
  .show(I.hok b v (C _ _ d).2).is_there
 have L:b∉ll (hI qual scope s0.heap.objs.size f cdv::outer):=λm=>by
  rcases gW.mp (I.stkSub b m)with y | y
  .rcases r with⟨h,d⟩ | ⟨v,d⟩
   .have h1:=b9 d;rw[y]at h1;show absurd h1 (il _)
   .show F b v (C _ _ d).2 m
  .show S y
 let(h,d):=R;have i:=c b h d l L;rw[show B.get? b=some o from z]at i;cases i;show W.hideAll_get _ d λm=>(gW.mp m).elim l L
def yS(E:XK)(C:Addr)(ta:TA):TS:=λ_ σ H=>ta σ H λvs H1=>vs.length<=sizeLine/\E (.ref C) none H1
variable{np pos:Pos}{e:Expr}{es:List Expr}
theorem oX{cpos:Pos}{B initId:String}{ta:TA}(FB:ExcBaseFacts B newId initId bmB)(hx:kx K C bmB newId=true)
  (hg:Gl (lI (kU P w) P w K mg base N qual scope f cdv A outer s0 H0 E) x) (hm:mg x=some (.ref C)) (ha:PA (lI (kU P w) P w K mg base N qual scope f cdv A outer s0 H0 E) (e::es) ta)
  (he:autoParam (gy (e::es) (hI qual scope s0.heap.objs.size f cdv)=(false,eval e (hI qual scope s0.heap.objs.size f cdv))::gy es (hI qual scope s0.heap.objs.size f cdv)) Au)
  (hpl:autoParam ((iP cpos (gy es (hI qual scope s0.heap.objs.size f cdv))).any (·.1)=false) Au) (hdb:autoParam ((x == ("__debug__" : Str))=false) Au) :
  PS (lI (kU P w) P w K mg base N qual scope f cdv A outer s0 H0 E) (.Raise (some (.Call (.Name x np) (e::es) [] cpos)) none pos) (yS E C ta):=by
 intro a s σ H D I h;let(bm,m,nm,g,bs,hdct,sn,sub,ab,col,dd,k0,k1,k2,k3,k5,mN,j,l,b,T):=Fn I.mod.kin hx;have i:(A.deeper (hI qual scope s0.heap.objs.size f cdv)).handled=none:=I.ok.hd rfl;show wpAny_Raise_call_subT (C:=C) (nm:=nm) (q:=g) (N:=m) (bs:=bs) (bm:=bm) (hdct:=hdct) (sn:=sn) (sub:=sub) (ab:=ab) (col:=col) (dd:=dd) (k0:=k0) (k1:=k1) (k2:=k2) (k3:=k3) (k5:=k5)
  FB (mN:=mN) (T.hasType FB.hasBase) i ?_ b (uu I hg hm ⟨rfl,?_⟩ hdb)
 .show(iP cpos (gy (e::es) (hI qual scope s0.heap.objs.size f cdv))).any (·.1)=false;rw[he];show(false||(iP cpos (gy es (hI qual scope s0.heap.objs.size f cdv))).any (·.1))=false;rw[hpl];rfl
 .have z:=ha cpos a s σ H _ I h;show gu _ _ (evalArgs (.ref C) true (iP cpos (gy (e::es) (hI qual scope s0.heap.objs.size f cdv))) []) _ _ _;have d:=he;rw[he];show jr ?_;have c:gu (gx P w) (A.deeper (hI qual scope s0.heap.objs.size f cdv)) (spliced (iP cpos (gy (e::es) (hI qual scope s0.heap.objs.size f cdv)))) _ _ s:=z;rw[he]at c;show jl c λu n ζ=>?_;let(t,p,I1,r,k,q):=ζ;show(rfl,by rw[<- r.length];show k,I1.bk _ _ j,l.keeps I1.bk,T.keeps I1.bk,λo e hm=>IF I1 hm q)
end
def Ak(X:Cx)(e:Expr)(t:St->Hp->VK->XK->Prop):Prop :=
 ∀(pins:List (Addr × Obj))(s:b8)(σ : St)(H:Hp)(Q:VK)(E:XK),Inv X pins σ H s->t σ H Q E ->
  gu (gx X.prog X.w) X.A (eval e X.env) (EP X pins σ Q) (λev s'=>∃ H1 s1,Inv X pins σ H1 s1/\kU X.prog X.w X.stack H1 s1 E ev s') s
def xa(sp:Sp)(dvs:List V)(t:TA):St->Hp->VK->XK->Prop:=λσ H Q E=>t σ H λvs H1=>sp (vs++dvs) H1 Q E
section
variable{ps:List Str}{sp:Sp}{dvs:List V}{ds:List bV}{E:XK}{pos apos:Pos}{e o:Expr}{es:List Expr}{ta:TE}{k:Nat}{f:Addr}{m:Str}{p:Pos}{t:TA}{pins:List (Addr × Obj)}{σ:St}{s:b8}
theorem Ff{Q:VK}{us:List bV}{vs:List V}(F:lJ X.prog X.w X.K X.mg X.base (kU X.prog X.w) k f fd ps sp)(hr:ku k X.A)(hb:Binds X.K fd ps ds)(hd:Vals dvs ds)
  (I:Inv X pins σ H s) (r:Vals vs us) (h:sp (vs++dvs) H Q E):gu (gx X.prog X.w) X.A (call (.ref f) us) (EP X pins σ Q) (λev s'=>∃ H1 s1,Inv X pins σ H1 s1/\kU X.prog X.w X.stack H1 s1 E ev s') s:=by
 have c:Vals (vs++dvs) (us++ds):=r.append hd;have d:(us++ds).length=ps.length:=(c.length.symm).trans (F.len _ _ _ _ h);have g:=F.run X.A X.stack s H ⟨us,[]⟩ (us++ds) (vs++dvs) Q E hr I.env0 (hb s us I.kIn d) c h;show my (mf g λb s' a=>?_);match b,a with
 | .error e,a=>show(H,s,I,a)
 | .ok (.ret u),a=>show I.after a
 | .ok .next,a=>show a.elim
 | .ok .brk,a=>show a.elim
 | .ok .cont,a=>show a.elim
end
section
variable{pins:List (Addr × Obj)}{σ:St}{H':Hp}{s s':b8}{h' B:Heap}{ea:Addr}{od:Option Addr}{a0:bV}{cls:bV}
theorem Inv.track{o:HO}(I:Inv X pins σ H s)(hn:H a=none)(h1:X.s₀.heap.get? a=none)(h2:a≠X.env.locals)(h3:∀ x c,X.env.cells.lookup x=some c->c≠a)(h4:∀ p∈X.pn++pins,p.1≠a)
  (ok:jk X.prog X.w (upd H a o) s.heap a o):Inv X pins σ (upd H a o) s:=by
 have d:∀ b u,H b=some u->b≠a:=λb u q=>rn q hn;show(I.ok,I.os,I.bare,⟨I.base.keep,I.base.slot,λb f q n hx=>?_,I.base.there,λb g q=>?_,λb f u q=>?_,λb j q=>?_⟩,I.loc,I.cell,?_,λx c e=>?_,λp h=>?_,λb u q=>?_,I.len)
 .have : b≠a:=λz=>by rw[z,h1]at q;cases q
  rw[kk this];show I.base.free b f q n hx
 .have z:=I.base.tups b g q;rw[kk (d _ _ z)];show z
 .have z:=I.base.frzs b f u q;rw[kk (d _ _ z)];show z
 .let(i,z):=I.base.tbls b j q;show(i,by rw[kk (d _ _ z)];show z)
 .rw[kk (iQ h2)];show I.free
 .rw[kk (h3 x c e)];show I.freeC x c e
 .let(e,n,r):=I.pin p h;show(e,by rw[kk (h4 p h)];show n,r)
 .by_cases hb:b=a
  .subst hb;rw[md]at q;cases q;show ok
  .rw[kk hb]at q;show(I.hok b u q).stay (λ_ _ _ z=>z) (λc z=>by rw[kk (d _ _ z)];show z) (λc g z=>by rw[kk (d _ _ z)];show z)
def p6(e C:Addr)(od:Option Addr:=none):HO:=.ext λh=>∃ ox vs,h.get? e=some ox/\ox.cls=.ref C/\ox.data=.fields vs/\ox.dict=od
theorem Inv.landed{sF:b8}(I:Inv X pins σ H s)(hex:X.ex=[])(u:Un (ll X.stack) [] H H' s.heap s'.heap)(hok:ni X.prog X.w H' s'.heap)(F:wV X.stack H' s.heap ea od (.ref C) a0 B s'.heap)(hos:s'.os=s.os)(hg:ng s'.gens)
  (hfl:jZ B X.stack ea (.ref C) a0 h') (hup:s'.heap.UpToSlots h') (hdc:DictAt h' ea od) (hs:sF={ s' with heap:=h' }):Inv X pins σ (upd H' ea (p6 ea C od)) sF:=by
 subst hs;let(d,J,_):=F.next u hok (I.stkFree' u) hfl.1 hup;have I2:Inv X pins σ H' { s' with heap:=h' }:=I.call' (s':={ s' with heap:=h' }) hos J d hg (λb z=>absurd z (by simp));have a:∀ b o,s.heap.get? b=some o->b≠ea:=λb o q z=>by
  have:=F.new;rw[<- z,q]at this;cases this
 let(m,t,_):=I.loc;let(P,_,_,j,_):=t;show I2.track F.free ?_ (iQ (a _ _ j)) (λx c e z=>?_) (λp D z=>?_) ?_
 .cases q:X.s₀.heap.get? ea with
  | none=>rfl
  | some o=>
   let(R,g):=I.base.there ea o q (by rw[hex];simp);show absurd rfl (a _ _ g)
 .let(v,i):=I.cell x c e;let(N,l,_):=i;show a _ _ l z
 .let(e,_):=I.pin p D;show a _ _ e z
 .let(r,L,h,i,G,_):=hfl.first;let(A,f,n):=hdc;rw[show h'.get? ea=some r from h]at f;cases f;show(⟨r,L,h,i,G,n⟩,⟨_,h⟩,λO Q ⟨M,y,g,E,K⟩ k=>⟨M,y,k _ g,E,K⟩)
abbrev Cx.inx(X:Cx)(e:Addr):Cx:={ X with A:=X.A.mark (some (.ref e)),calm:=false,xe:=λ_ _=>False }
theorem Cx.Ok.inx(ok:X.Ok)(e:Addr):(X.inx e).Ok :=
 ⟨ok.mod,ok.kind,ok.glob,ok.blt,ok.above,ok.inj,ok.has,ok.cab,λz=>(by cases z),ok.frames,ok.stk,ok.exf,ok.bs,ok.bsz,ok.noex,ok.exfs,ok.funs,ok.frf⟩
theorem Inv.inx(I:Inv X pins σ H s)(e:Addr):Inv (X.inx e) pins σ H s :=
 ⟨I.ok.inx e,I.os,I.bare,I.base,I.loc,I.cell,I.free,I.freeC,I.pin,I.hok,I.len⟩
variable{e:Addr}
theorem Inv.outx(I:Inv (X.inx e) pins σ H s)(ok:X.Ok):Inv X pins σ H s :=
 ⟨ok,I.os,I.bare,I.base,I.loc,I.cell,I.free,I.freeC,I.pin,I.hok,I.len⟩
variable{i:Nat}
theorem Inv.goes{t':Nat}{m m':Str->Option bV}(I:Inv X pins σ H s)(hN:X.N.Nodup)(hi:X.N[i]?=some x)(hs:jC X.env.locals s.heap h')
  (hn:s.heap.Ns X.env.locals m) (hn':h'.Ns X.env.locals m') (hm:∀ y,y≠x->m' y=m y):Inv X pins (σ.set i none) H { s with heap:=h',toks:=t' }:=by
 let(D,t,w):=I.loc;have K:D=m:=(Heap.Ns.eq_nsMap t).trans (Heap.Ns.eq_nsMap hn).symm;subst K;have l:∀ b o,X.s₀.heap.get? b=some o->b≠X.env.locals:=λb o e=>cq (gv (b9 e) I.ok.above);show(I.ok,I.os,I.bare,⟨λb o e n hb hx=>?_,λb o e n hb hx=>?_,I.base.free,λb o e hx=>?_,I.base.tups,I.base.frzs,I.base.tbls⟩,⟨m',hn',λj y v g f E=>?_⟩,λy c e=>?_,I.free,I.freeC,λp C=>?_,λa o e=>?_,by rw[jO];show I.len)
 .show(hs.2 b (l b o e)).trans (I.base.keep b o e n hb hx)
 .let(L,g):=I.base.slot b o e n hb hx;show(L,(hs.2 b (l b o e)).trans g)
 .let(J,g):=I.base.there b o e hx;show(J,(hs.2 b (l b o e)).trans g)
 .have A:j≠i:=λz=>by
   subst z;by_cases w:j<σ.length
   .rw[ij w]at f;cases f
   .rw[iH (by rw[jO];ac_nf)]at f;cases f
  rw[hU (iQ A)]at f;let(u,r,q):=w j y v g f E;have G:y≠x:=λz=>A (Bm hN g (z ▸ hi));show(u,r,?_);rcases q with⟨k,e⟩ | ⟨k,c,e,z⟩
  .show .inl ⟨k,(hm y G).trans e⟩
  .show .inr ⟨k,c,e,z.sameBut hs (I.cne y c e)⟩
 .let(v,z):=I.cell y c e;show(v,z.sameBut hs (I.cne y c e))
 .let(e,n,B,F,d):=I.pin p C;show((hs.2 p.1 B).trans e,n,B,F,d)
 .show(I.hok a o e).stay (λc v h q=>(hs.2 c ?_).trans q) (λ_ q=>q) λ_ _ q=>q;rintro rfl;rcases h with z | h
  .rw[<- z]at e;rw[I.free]at e;cases e
  .rw[I.free]at h;cases h
end
structure oZ(K:bY)(C D:Addr):Prop where
 cl:lF K D=true
 ty:W.typeIn K (.ref D)=some (.type "type")
 ex:W.mroIn K D (.type "BaseException")=some true
 ab:W.mroIn K C (.ref D)=some true
variable{M:Model}
theorem Gb{K:bY}{D:Addr}(X:K.In h)(c:lF K D=true):W.Looks M h (isType (.ref D)) true:=by
 let(b,a,_):=W.any_some c;unfold W.clsIn at a;split at a
 next c' d' cd' sl' ho=>
  intro A' Q' E' d k q;unfold isType loadHead;show bO (wpAny_loadPart (k _ _ (X _ _ ho)) (gw q))
 next=>cases a
variable{A:iM}{s:b8}
theorem Pi{K:bY}{E:bV->b8->Prop}{e D:Addr}{oe:Obj}{Q:Bool->b8->Prop}(X:K.In s.heap)(he:s.heap.get? e=some oe)(hc:oe.cls=.ref C)(c:oZ K C D)(h:Q true s) :
  gu M A (excMatches (.ref e) (.ref D)) Q E s:=by
 let(a,g,d,t,b):=s;have L0:W.Looks M a (typeOf (.ref e)) (.ref C):=hc ▸ (W.Looks.ld he).andThen .now;have L1:=W.looks_typeIn (M:=M) X c.ty;have L2:=W.looks_mroIn (M:=M) X c.ex;have L3:=W.looks_mroIn (M:=M) X c.ab;have L4:=Gb (M:=M) X c.cl;have f:=tc_notTuple;unfold excMatches isInstance isExcClass;repeat (first | lk | wp_step)
 show h
section
variable{ce:Expr}{epos pos hpos np:Pos}{n:Str}{b0:Stmt}{suite:List Stmt}{ts:TS}{D:Addr}{t:St->Hp->VK->XK->Prop}
def Al(K:bY)(D:Addr)(i:Nat)(t:St->Hp->VK->XK->Prop)(ts:TS):TS:=λDn σ H=>t σ H (λ_ H1=>Dn.nx σ H1) λcls od H1=>∃ C,cls=.ref C/\oZ K C D /\
 ∀ ea,H1 ea=none->ts { nx:=λσ' H'=>Dn.nx (σ'.set i none) H',rt:=Dn.rt,bk:=λσ' H'=>Dn.bk (σ'.set i none) H',ct:=λσ' H'=>Dn.ct (σ'.set i none) H' } (σ.set i (some (.ref ea))) (upd H1 ea (p6 ea C od))
variable{i:Nat}{pins:List (Addr × Obj)}{σ:St}
theorem J7{D:Addr}{s1:b8}{Dn:Ends}{ev:bV}(hN:X.N.Nodup)(hi:X.N[i]?=some n)(hl:X.env.scope.names.lookup n=some .local)(hg:Gl X x)(hm:X.mg x=some (.ref D))(hsu:∀ e,o8 (X.inx e) (b0::suite) ts)
  (hex:X.ex=[]) (hst:X.stack=X.env::X.outer) (hfl:X.env.frame=some X.env.locals) (hdb:(x == ("__debug__" : Str))=false) (I:Inv X pins σ H s)
  (hx:∃ H1 s1',Inv X pins σ H1 s1'/\kU X.prog X.w X.stack H1 s1' (λcls od H1=>∃ C,cls=.ref C/\oZ X.K C D/\∀ ea,H1 ea=none->ts { nx:=λσ' H'=>Dn.nx (σ'.set i none) H',rt:=Dn.rt,bk:=λσ' H'=>Dn.bk (σ'.set i none) H',ct:=λσ' H'=>Dn.ct (σ'.set i none) H' } (σ.set i (some (.ref ea))) (upd H1 ea (p6 ea C od))) ev s1) :
  gu (gx X.prog X.w) X.A (nj ev X.env) (λ_ s₂=>gu (gx X.prog X.w) X.A (setFlight ev none) (λ_ s₃=>gu (gx X.prog X.w) X.A (handleBy ev X.env [ExceptHandler.ExceptHandler (some (Expr.Name x np)) (some n) (b0::suite) hpos]) (SP X pins Dn) X.xe s₃) X.xe s₂) X.xe s1:=by
 let(H1,s0,I1,ea,od,cls,a0,B,H',rfl,L,hb,u,o,F,C,rfl,E,Y):=hx;have Q:X.A.frames=some (X.env::X.outer):=by rw[<- hst];show I.ok.frames
 have F':=F.fly;rw[hst]at F';show rV Q hfl F' F.dct λh4 h p S=>?_;show IG h S λh5 d M l=>?_;have O:=p.trans M;have b:=d;rw[<- hst]at b;have I5:=I1.landed hex u o F L hb b O l rfl;let(oe,vs,Z,hc,_,_):=d.first;show wpAny_handleBy_cons (codeAny_handlers_test (uu (X:=X.inx ea) (I5.inx ea) hg hm ?_ hdb)) (by intro z;cases z);show Pi I5.kIn Z hc E (codeAny_handlers_suite_as ?_);show Kb d l λh6 G t T=>?_;have c:=G;rw[<- hst]at c;have I6:=I1.landed hex u o F L hb c (O.trans t) T rfl;show A8 (X:=X) (v:=.ref ea) I6 hN hi (.inl hl) rfl (λs7 I7=>?_) (.inr hl);show gJ (hsu ea pins s7 _ _ _ (I7.inx ea) (Y ea F.free)) (λf V z=>?_) (λ_ _ z=>z.elim);have a:∀{σ':St}{j:Hp}{R:Flow->b8->Prop}{E2:bV->b8->Prop},Inv (X.inx ea) pins σ' j V->(∀ g,Inv X pins (σ'.set i none) j g->R f g) ->
   gu (gx X.prog X.w) X.A (do bindName X.env n .none;unbindBehindTheSuite X.env n hpos) (λ_ g=>R f g) E2 V:=λ{σ' j R E2} J k=>by
  have J':=J.outx I.ok;let(m,W,_):=J'.loc;show wpAny_nameGoes_keeps hl W (by rw[I.ok.kind];rfl) λh' v P U=>k _ (J'.goes hN hi U W P λy hy=>if_neg hy)
 cases f with
 | next=>let(σ',j,J,q):=z;show a J λg J3=>⟨_,_,J3,q⟩
 | brk=>let(σ',j,J,q):=z;show a J λg J3=>⟨_,_,J3,q⟩
 | cont=>let(σ',j,J,q):=z;show a J λg J3=>⟨_,_,J3,q⟩
 | ret v=>let(y,σ',j,J,r,q):=z;show a J λg J3=>⟨y,_,_,J3,r,q⟩
theorem zj(hN:X.N.Nodup)(hi:X.N[i]?=some n)(hl:X.env.scope.names.lookup n=some .local)(hcall:Ak X ce t)(hg:Gl X x)(hm:X.mg x=some (.ref D))(hsu:∀ e,o8 (X.inx e) (b0::suite) ts)
  (hex:autoParam (X.ex=[]) Au) (hst:autoParam (X.stack=X.env::X.outer) Au) (hfl:autoParam (X.env.frame=some X.env.locals) Au)
  (hs:autoParam (swapsWith ce none epos.line X.env=pure false) Au) (hdb:autoParam ((x == ("__debug__" : Str))=false) Au) :
  PS X (.Try [.Expr ce epos] [.ExceptHandler (some (.Name x np)) (some n) (b0::suite) hpos] [] [] pos) (Al X.K D i t ts):=by
 intro a s σ H Dn I h;show wpAny_Try_except (wpAny_execs_cons (wpAny_Expr_any (gJ (hcall a s σ H _ _ I h) (λv c ⟨y,b,I1,f,d⟩=>?_) (λg c hx=>?_)) I.quiet hs))
 .show lE (lE ⟨σ,b,I1,d⟩)
 .show J7 hN hi hl hg hm hsu hex hst hfl hdb I hx
end
inductive D where
 | non | bl (b:Bool) | int (i:Int) | str (x:Str) | tup (xs:List D) | lst (xs:List D)
mutual
def Rep(K:bY)(H:Hp):D->V->Prop
 | .non,v=>v=.non
 | .bl b,v=>v=.bl b
 | .int i,v=>v=.int i
 | .str x,v=>v=.str x
 | .tup ds,v=>∃ a xs,v=.ref a/\mQ K H a xs/\kC K H ds xs
 | .lst ds,v=>∃ a xs,v=.ref a/\jM K H a xs/\kC K H ds xs
def kC(K:bY)(H:Hp):List D->List V->Prop
 | [],vs=>vs=[]
 | d::ds,vs=>∃ v r,vs=v::r/\Rep K H d v/\kC K H ds r
end
mutual
def eqD:D->D->Bool
 | .non, .non=>true
 | .bl a, .bl b=>a == b
 | .int a, .int b=>a == b
 | .bl a, .int b=>(if a then 1 else 0) == b
 | .int a, .bl b=>a == (if b then 1 else 0)
 | .str a, .str b=>a == b
 | .tup xs, .tup ys=>eqL xs ys
 | .lst xs, .lst ys=>eqL xs ys
 | _,_=>false
def eqL:List D->List D->Bool
 | [],[]=>true
 | x::xs,y::ys=>eqD x y&&eqL xs ys
 | _,_=>false
end
mutual
def depD:D->Nat
 | .tup xs=>depL xs+1
 | .lst xs=>depL xs+1
 | _=>0
def depL:List D->Nat
 | []=>0
 | x::xs=>max (depD x) (depL xs)
end
theorem GB:∀{xs ys:List D},eqL xs ys=true->xs.length=ys.length
 | [],[],_=>rfl
 | [],_::_,h=>by simp[eqL]at h
 | _::_,[],h=>by simp[eqL]at h
 | x::xs,y::ys,h=>by
  simp only[eqL,cn]at h;simp only[i6,GB h.2]
mutual
theorem Bf:∀ d:D,eqD d d=true
 | .non=>by simp[eqD]
 | .bl b=>by simp[eqD]
 | .int i=>by simp[eqD]
 | .str x=>by simp[eqD]
 | .tup xs=>by simp only[eqD];show Be xs
 | .lst xs=>by simp only[eqD];show Be xs
theorem Be:∀ d:List D,eqL d d=true
 | []=>by simp[eqL]
 | x::xs=>by simp only[eqL,cn];show(Bf x,Be xs)
end
theorem kC.length{K:bY}:∀{ds:List D}{vs:List V},kC K H ds vs->ds.length=vs.length
 | [],vs,h=>by
  simp only[kC]at h;rw[h];rfl
 | d::ds,vs,h=>by
  simp only[kC]at h;let(v,r,rfl,_,h2):=h;simp only[i6,kC.length h2]
theorem kC.get{K:bY}:∀{ds:List D}{vs:List V}{i:Nat}{d:D},kC K H ds vs->ds[i]?=some d->∃ v,vs[i]?=some v/\Rep K H d v
 | [],_,_,_,_,e=>by simp at e
 | d::ds,vs,i,d',h,e=>by
  simp only[kC]at h;let(v,r,rfl,h1,h2):=h;cases i with
  | zero=>simp at e;subst e;show(v,rfl,h1)
  | succ i=>
   let(v',e',h'):=kC.get h2 (by simpa using e);show(v',by simpa using e',h')
theorem mQ.same{K:bY}{H':Hp}{xs:List V}(e:tE H H')(h:mQ K H a xs):mQ K H' a xs:=by
 rcases h with(h | ⟨o,h⟩) | h
 .show .inl (.inl (e _ _ h))
 .show .inl (.inr ⟨o,e _ _ h⟩)
 .show .inr h
variable{pins:List (Addr × Obj)}{σ:St}
theorem Inv.list_tuple(I:Inv X pins σ H s){a:Addr}{xs ys:List V}(h:jM X.K H a xs)(h':mQ X.K H a ys):False:=by
 let(_,_,p,_):=I.list h;let(_,_,q,_):=I.tuple h';let(o,_,e,d,_):=p;let(f,c,b,_):=q;rw[e]at c;cases c;rw[d]at b;show absurd b ⋯
mutual
theorem Inv.rep_inj(I:Inv X pins σ H s):∀{d e:D}{v:V},Rep X.K H d v->Rep X.K H e v->d=e
 | .non,e,v,h,h'=>by
  simp only[Rep]at h;subst h;cases e <;> simp[Rep]at h' ⊢
 | .bl _,e,v,h,h'=>by
  simp only[Rep]at h;subst h;cases e <;> simp[Rep]at h' ⊢
  show h'
 | .int _,e,v,h,h'=>by
  simp only[Rep]at h;subst h;cases e <;> simp[Rep]at h' ⊢
  show h'
 | .str _,e,v,h,h'=>by
  simp only[Rep]at h;subst h;cases e <;> simp[Rep]at h' ⊢
  show h'
 | .tup ds,e,v,h,h'=>by
  simp only[Rep]at h;let(a,xs,rfl,h2,h3):=h;cases e with
  | tup es=>
   simp only[Rep]at h';let(a',ys,q,g2,g3):=h';cases q;have:=I.tuple_inj h2 g2;subst this;rw[Inv.repL_inj I h3 g3]
  | lst es=>
   simp only[Rep]at h';let(a',ys,q,g2,g3):=h';cases q;show(I.list_tuple g2 h2).elim
  | _=>simp[Rep]at h'
 | .lst ds,e,v,h,h'=>by
  simp only[Rep]at h;let(a,xs,rfl,h2,h3):=h;cases e with
  | lst es=>
   simp only[Rep]at h';let(a',ys,q,g2,g3):=h';cases q;have:=I.list_inj h2 g2;subst this;rw[Inv.repL_inj I h3 g3]
  | tup es=>
   simp only[Rep]at h';let(a',ys,q,g2,g3):=h';cases q;show(I.list_tuple h2 g2).elim
  | _=>simp[Rep]at h'
theorem Inv.repL_inj(I:Inv X pins σ H s):∀{d e:List D}{v:List V},kC X.K H d v->kC X.K H e v->d=e
 | [],e,v,h,h'=>by
  simp only[kC]at h;subst h;cases e <;> simp[kC]at h' ⊢
 | x::xs,e,v,h,h'=>by
  simp only[kC]at h;let(u,r,rfl,h1,h2):=h;cases e with
  | nil=>simp[kC]at h'
  | cons y ys=>
   simp only[kC]at h';let(u',r',q,g1,g2):=h';cases q;rw[Inv.rep_inj I h1 g1,Inv.repL_inj I h2 g2]
end
variable{α β:Type}
def r8(f : α->β->Bool):List α->List β->Bool
 | [],[]=>true
 | x::xs,y::ys=>f x y&&r8 f xs ys
 | _,_=>false
def sA(f : α->β->Bool)(xs:List α)(ys:List β)(j:Nat):Bool:=match xs[j]?,ys[j]? with
 | some x,some y=>f x y
 | _,_=>true
theorem BE(f : α->β->Bool):∀(xs:List α)(ys:List β),
  ((gO (min xs.length ys.length)).all (sA f xs ys)&&(xs.length == ys.length))=r8 f xs ys
 | [],[]=>by simp[r8]
 | [],_::_=>by simp[r8]
 | _::_,[]=>by simp[r8]
 | x::xs,y::ys=>by
  have ih:=BE f xs ys;simp only[r8,i6];rw[<- ih,Nat.succ_min_succ,List.range_succ_eq_map,m2,List.all_map];have e:((gO (min xs.length ys.length)).all (sA f (x::xs) (y::ys) ∘ Nat.succ))=(gO (min xs.length ys.length)).all (sA f xs ys):=by
   congr 1
  rw[e];have e0:sA f (x::xs) (y::ys) 0=f x y:=by unfold sA;simp
  rw[e0,Bool.and_assoc]
  congr 2
  simp
theorem A1:∀ xs ys:List D,eqL xs ys=r8 eqD xs ys
 | [],[]=>by simp[eqL,r8]
 | [],_::_=>by simp[eqL,r8]
 | _::_,[]=>by simp[eqL,r8]
 | x::xs,y::ys=>by simp only[eqL,r8,A1 xs ys]
theorem FP:∀{ds:List D}{d:D},d∈ds->depD d<=depL ds
 | [],_,h=>by simp at h
 | x::xs,d,h=>by
  simp only[depL];rcases gW.mp h with rfl | h
  .show Nat.le_max_left ..
  .show g0 (FP h) (Nat.le_max_right ..)
def flatD:D->Bool
 | .tup _=>false
 | .lst _=>false
 | _=>true
def valD:D->V
 | .bl b=>.bl b
 | .int i=>.int i
 | .str x=>.str x
 | _=>.non
variable{d:D}
theorem Ba{K:bY}{v:V}(f:flatD d=true)(h:Rep K H d v):v=valD d:=by
 cases d <;> simp_all [flatD,Rep,valD]
theorem FM(f:flatD d=true):flatV (valD d)=true:=by
 cases d <;> simp_all [flatD,valD,flatV]
theorem KO{e:D}(f:flatD d=true)(g:flatD e=true):eqV (valD d) (valD e)=eqD d e:=by
 cases d <;> cases e <;> simp_all [flatD,valD,eqV,eqD]
theorem in1_units(A:iM):A.in1.units=A.units+1:=rfl
def yq(X:Cx)(H:Hp)(s:b8)(n:Nat):Prop:=∀(d e:D)(A:iM)(x y:V)(u v:bV),depD d<=n->Rep X.K H d x->Rep X.K H e y->RelV x u->RelV y v->A.units+n<lh->SeqAt.EqAt A s u v (eqD d e)
variable{n:Nat}
theorem FL(ih:yq X H s n){ds es:List D}{xs ys:List V}{its jts:List bV}(h3:kC X.K H ds xs)(g3:kC X.K H es ys)(vi:Vals xs its)(vj:Vals ys jts)(hds:depL ds<=n){A:iM}(hA:A.units+n<lh) :
  ∀ j (p1:j<its.toArray.size) (p2:j<jts.toArray.size),SeqAt.EqAt A s its.toArray[j] jts.toArray[j] (sA eqD ds es j):=by
 intro j p1 p2;have r:its.length=ds.length:=by rw[h3.length,vi.length]
 have i:jts.length=es.length:=by rw[g3.length,vj.length]
 have a:j<ds.length:=by rw[<- r];simpa using p1
 have b:j<es.length:=by rw[<- i];simpa using p2
 let(v,m,h):=h3.get (b7 a);let(u,k,c):=g3.get (b7 b);let(q,g,f):=vi.get m;let(o,p,d):=vj.get k;have l:its.toArray[j]=q:=by
  have:=g;rw[b7 (by simpa using p1)]at this;simpa using this
 have t:jts.toArray[j]=o:=by
  have:=p;rw[b7 (by simpa using p2)]at this;simpa using this
 rw[l,t];have e:sA eqD ds es j=eqD ds[j] es[j]:=by
  unfold sA;rw[b7 a,b7 b]
 rw[e];show ih _ _ _ _ _ _ _ (g0 (FP (List.getElem_mem a)) hds) h c f d hA
theorem Hw(I:Inv X pins σ H s){n:Nat}(ih:yq X H s n){ds es:List D}{a b:Addr}{xs ys:List V}(h2:mQ X.K H a xs)(h3:kC X.K H ds xs)(g2:mQ X.K H b ys)(g3:kC X.K H es ys)(hds:depL ds<=n){A:iM}(hA:A.units+(n+1)<lh) :
  hZ A s (.ref a) (.ref b) (eqD (.tup ds) (.tup es))/\gT A s (.ref a) (.ref b) (!eqD (.tup ds) (.tup es)):=by
 let(d,i,f,_):=I.tuple h2;let(c,g,e,_):=I.tuple g2;have l:d.length=ds.length:=by rw[h3.length,i.length]
 have j:c.length=es.length:=by rw[g3.length,g.length]
 have h:=FL ih h3 g3 i g hds (A:=A.in1) (by rw[in1_units];ac_nf);have k:eqD (.tup ds) (.tup es)=((gO (min d.toArray.size c.toArray.size)).all (sA eqD ds es)&&d.toArray.size == c.toArray.size):=by
  simp only[eqD,A1];rw[<- BE];simp only[gF,l,j]
 rw[k];show(hZ.tuples f e ∅ h,gT.tuples f e ∅ h)
theorem ID(I:Inv X pins σ H s){n:Nat}(ih:yq X H s n){ds es:List D}{a b:Addr}{xs ys:List V}(h2:jM X.K H a xs)(h3:kC X.K H ds xs)(g2:jM X.K H b ys)(g3:kC X.K H es ys)(hds:depL ds<=n){A:iM}(hA:A.units+(n+1)<lh) :
  hZ A s (.ref a) (.ref b) (eqD (.lst ds) (.lst es))/\gT A s (.ref a) (.ref b) (!eqD (.lst ds) (.lst es)):=by
 let(d,m,h,_):=I.list h2;let(i,k,f,_):=I.list g2;have e:d.length=ds.length:=by rw[h3.length,m.length]
 have g:i.length=es.length:=by rw[g3.length,k.length]
 have l:=FL ih h3 g3 m k hds (A:=A.in1) (by rw[in1_units];ac_nf);by_cases c:ds.length=es.length
 .have j:eqD (.lst ds) (.lst es)=(gO d.toArray.size).all (sA eqD ds es):=by
   simp only[eqD,A1];rw[<- BE];simp[e,c]
  rw[j];show(hZ.lists h.isList f.isList (by simp[e,g,c]) ∅ l,gT.lists h.isList f.isList (by simp[e,g,c]) ∅ l)
 .have j:eqD (.lst ds) (.lst es)=false:=by
   cases q:eqD (.lst ds) (.lst es)with
   | false=>rfl
   | true=>simp only[eqD]at q;show absurd (GB q) c
  rw[j];show(hZ.lists_lengths h.isList f.isList (by simp[e,g,c]) ∅,gT.lists_lengths h.isList f.isList (by simp[e,g,c]) ∅)
theorem vo{K:bY}{x:V}(h:Rep K H d x):(flatD d=true/\x=valD d)\/(∃ ds a xs,d=.tup ds/\x=.ref a/\mQ K H a xs/\kC K H ds xs)\/∃ ds a xs,d=.lst ds/\x=.ref a/\jM K H a xs/\kC K H ds xs:=by
 cases d with
 | tup ds=>simp only[Rep]at h;let(a,xs,e,b,c):=h;show .inr (.inl ⟨ds,a,xs,rfl,e,b,c⟩)
 | lst ds=>simp only[Rep]at h;let(a,xs,e,b,c):=h;show .inr (.inr ⟨ds,a,xs,rfl,e,b,c⟩)
 | _=>show .inl ⟨rfl,Ba rfl h⟩
theorem wk(I:Inv X pins σ H s){d e:D}{x y:V}{u v:bV}(hd:Rep X.K H d x)(he:Rep X.K H e y)(ru:RelV x u)(rv:RelV y v)(m:flatD d=!flatD e){A:iM}(hA:A.units<lh) :
  eqD d e=false/\SeqAt.EqAt A s u v false/\hZ A s u v false/\gT A s u v true:=by
 rcases vo hd with⟨fd,rfl⟩ | ⟨ds,a,xs,rfl,rfl,h2,h3⟩ | ⟨ds,a,xs,rfl,rfl,h2,h3⟩
 .rcases vo he with⟨fe,rfl⟩ | ⟨es,b,ys,rfl,rfl,g2,g3⟩ | ⟨es,b,ys,rfl,rfl,g2,g3⟩
  .rw[fd,fe]at m;cases m
  .obtain rfl:v=cf b:=rv;let(f,g,c,_):=I.tuple g2;show(by cases d <;> simp[eqD,flatD]at fd ⊢,?_);cases d <;> simp only[valD,RelV]at ru <;> first | (simp[flatD]at fd;done) | skip
   .subst ru;show(SeqAt.EqAt.none_tuple c hA,hZ.none_tuple c hA,gT.none_tuple c hA)
   .subst ru;show(SeqAt.EqAt.bool_tuple _ c hA,hZ.bool_tuple _ c hA,gT.bool_tuple _ c hA)
   .let(t,rfl):=ru;show(SeqAt.EqAt.int_tuple _ _ c hA,hZ.int_tuple _ _ c hA,gT.int_tuple _ _ c hA)
   .let(t,rfl):=ru;show(SeqAt.EqAt.str_tuple _ _ c hA,hZ.str_tuple _ _ c hA,gT.str_tuple _ _ c hA)
  .obtain rfl:v=cf b:=rv;let(f,g,c,_):=I.list g2;have c:=c.isList;show(by cases d <;> simp[eqD,flatD]at fd ⊢,?_);cases d <;> simp only[valD,RelV]at ru <;> first | (simp[flatD]at fd;done) | skip
   .subst ru;show(SeqAt.EqAt.none_list c hA,hZ.none_list c hA,gT.none_list c hA)
   .subst ru;show(SeqAt.EqAt.bool_list _ c hA,hZ.bool_list _ c hA,gT.bool_list _ c hA)
   .let(t,rfl):=ru;show(SeqAt.EqAt.int_list _ _ c hA,hZ.int_list _ _ c hA,gT.int_list _ _ c hA)
   .let(t,rfl):=ru;show(SeqAt.EqAt.str_list _ _ c hA,hZ.str_list _ _ c hA,gT.str_list _ _ c hA)
 .rcases vo he with⟨fe,rfl⟩ | ⟨es,b,ys,rfl,rfl,g2,g3⟩ | ⟨es,b,ys,rfl,rfl,g2,g3⟩
  .obtain rfl:u=cf a:=ru;let(f,g,c,_):=I.tuple h2;show(by cases e <;> simp[eqD,flatD]at fe ⊢,?_);cases e <;> simp only[valD,RelV]at rv <;> first | (simp[flatD]at fe;done) | skip
   .subst rv;show(SeqAt.EqAt.tuple_none c hA,hZ.tuple_none c hA,gT.tuple_none c hA)
   .subst rv;show(SeqAt.EqAt.tuple_bool _ c hA,hZ.tuple_bool _ c hA,gT.tuple_bool _ c hA)
   .let(t,rfl):=rv;show(SeqAt.EqAt.tuple_int _ _ c hA,hZ.tuple_int _ _ c hA,gT.tuple_int _ _ c hA)
   .let(t,rfl):=rv;show(SeqAt.EqAt.tuple_str _ _ c hA,hZ.tuple_str _ _ c hA,gT.tuple_str _ _ c hA)
  .simp[flatD]at m
  .simp[flatD]at m
 .rcases vo he with⟨fe,rfl⟩ | ⟨es,b,ys,rfl,rfl,g2,g3⟩ | ⟨es,b,ys,rfl,rfl,g2,g3⟩
  .obtain rfl:u=cf a:=ru;let(f,g,c,_):=I.list h2;have c:=c.isList;show(by cases e <;> simp[eqD,flatD]at fe ⊢,?_);cases e <;> simp only[valD,RelV]at rv <;> first | (simp[flatD]at fe;done) | skip
   .subst rv;show(SeqAt.EqAt.list_none c hA,hZ.list_none c hA,gT.list_none c hA)
   .subst rv;show(SeqAt.EqAt.list_bool _ c hA,hZ.list_bool _ c hA,gT.list_bool _ c hA)
   .let(t,rfl):=rv;show(SeqAt.EqAt.list_int _ _ c hA,hZ.list_int _ _ c hA,gT.list_int _ _ c hA)
   .let(t,rfl):=rv;show(SeqAt.EqAt.list_str _ _ c hA,hZ.list_str _ _ c hA,gT.list_str _ _ c hA)
  .simp[flatD]at m
  .simp[flatD]at m
theorem seq_eq(I:Inv X pins σ H s){n:Nat}(ih:yq X H s n){d e:D}{x y:V}{u v:bV}(hn:depD d<=n+1)(hd:Rep X.K H d x)(he:Rep X.K H e y)(ru:RelV x u)(rv:RelV y v)(fd:flatD d=false)(fe:flatD e=false){A:iM}(hA:A.units+(n+1)<lh) :
  SeqAt.EqAt A s u v (eqD d e)/\hZ A s u v (eqD d e)/\gT A s u v (!eqD d e):=by
 have k:=hd;have j:=he;rcases vo hd with⟨f,_⟩ | ⟨ds,a,xs,rfl,rfl,h2,h3⟩ | ⟨ds,a,xs,rfl,rfl,h2,h3⟩
 .rw[f]at fd;cases fd
 .obtain rfl:u=cf a:=ru;have g:depL ds<=n:=by simp only[depD]at hn;ac_nf
  rcases vo he with⟨f,_⟩ | ⟨es,b,ys,rfl,rfl,g2,g3⟩ | ⟨es,b,ys,rfl,rfl,g2,g3⟩
  .rw[f]at fe;cases fe
  .obtain rfl:v=cf b:=rv;have R:=Hw I ih h2 h3 g2 g3 g hA;show(?_,R.1,R.2);by_cases c:a=b
   .subst c;rw[I.rep_inj k j,Bf];show SeqAt.EqAt.same _
   .show SeqAt.EqAt.of_refs c R.1
  .obtain rfl:v=cf b:=rv;let(m,_,i,_):=I.tuple h2;let(l,_,h,_):=I.list g2;show(SeqAt.EqAt.tuple_list i h.isList ∅,hZ.tuple_list i h.isList ∅,gT.tuple_list i h.isList ∅)
 .obtain rfl:u=cf a:=ru;have g:depL ds<=n:=by simp only[depD]at hn;ac_nf
  rcases vo he with⟨f,_⟩ | ⟨es,b,ys,rfl,rfl,g2,g3⟩ | ⟨es,b,ys,rfl,rfl,g2,g3⟩
  .rw[f]at fe;cases fe
  .obtain rfl:v=cf b:=rv;let(m,_,i,_):=I.list h2;let(l,_,h,_):=I.tuple g2;show(SeqAt.EqAt.list_tuple i.isList h ∅,hZ.list_tuple i.isList h ∅,gT.list_tuple i.isList h ∅)
  .obtain rfl:v=cf b:=rv;have R:=ID I ih h2 h3 g2 g3 g hA;show(?_,R.1,R.2);by_cases c:a=b
   .subst c;rw[I.rep_inj k j,Bf];show SeqAt.EqAt.same _
   .show SeqAt.EqAt.of_refs c R.1
theorem Inv.eqP(I:Inv X pins σ H s):∀ n,yq X H s n
 | 0=>λd e A x y u v hn hd he ru rv hA=>by
  have fd:flatD d=true:=by
   cases d <;> simp[depD,flatD]at hn ⊢
  cases fe:flatD e with
  | true=>
   have ex:=Ba fd hd;have ey:=Ba fe he;subst ex ey;rw[<- KO fd fe];show EL ru rv (FM fd) (FM fe)
  | false=>
   let(e1,e2,_):=wk I hd he ru rv (by rw[fd,fe];rfl) (A:=A) ∅;rw[e1];show e2
 | n+1=>λd e A x y u v hn hd he ru rv hA=>by
  cases fd:flatD d with
  | true=>
   have h0:depD d<=n:=by cases d <;> simp[depD,flatD]at fd ⊢
   show Inv.eqP I n d e A x y u v h0 hd he ru rv ∅
  | false=>
   cases fe:flatD e with
   | true=>
    let(e1,e2,_):=wk I hd he ru rv (by rw[fd,fe];rfl) (A:=A) ∅;rw[e1];show e2
   | false=>show(seq_eq I (Inv.eqP I n) hn hd he ru rv fd fe hA).1
def oR(K:bY):R2:=λx y H Q=>match x,y with
 | .int i, .int j=>Q (.bl (decide (i=j))) H
 | .str i, .str j=>Q (.bl (decide (i=j))) H
 | .bl i, .bl j=>Q (.bl (decide (i=j))) H
 | .non, .non=>Q (.bl true) H
 | x,y=>∃ d e,Rep K H d x/\Rep K H e y/\depD d<=50/\(flatD d&&flatD e)=false/\Q (.bl (eqD d e)) H
def pC(K:bY):R2:=λx y H Q=>match x,y with
 | .int i, .int j=>Q (.bl (!decide (i=j))) H
 | .str i, .str j=>Q (.bl (!decide (i=j))) H
 | .bl i, .bl j=>Q (.bl (!decide (i=j))) H
 | .non, .non=>Q (.bl false) H
 | x,y=>∃ d e,Rep K H d x/\Rep K H e y/\depD d<=50/\(flatD d&&flatD e)=false/\Q (.bl (!eqD d e)) H
theorem mR(hu:X.A.units+64<lh):mX X (ib .Eq) (oR X.K):=λa s σ H x y v u Q I c b q=>by
 unfold oR at q;split at q
 .rename_i i j;show op_eq a s σ H _ _ v u Q I c b ⟨rfl,by rw[show decide (V.int i=V.int j)=decide (i=j)from by simp];show q⟩
 .rename_i i j;show op_eq a s σ H _ _ v u Q I c b ⟨rfl,by rw[show decide (V.str i=V.str j)=decide (i=j)from by simp];show q⟩
 .rename_i i j;show op_eq a s σ H _ _ v u Q I c b ⟨rfl,by rw[show decide (V.bl i=V.bl j)=decide (i=j)from by simp];show q⟩
 .show op_eq a s σ H _ _ v u Q I c b ⟨rfl,by simpa using q⟩
 .let(d,e,f,k,m,l,q):=q;show gu (gx X.prog X.w) X.A (richCompare .Eq v u) (EP X a σ Q) X.xe s;cases fd:flatD d with
  | true=>
   cases fe:flatD e with
   | true=>rw[fd,fe]at l;cases l
   | false=>
    let(g,_,h,_):=wk I f k c b (by rw[fd,fe];rfl) (A:=X.A) ∅;rw[g]at q;show h _ _ _ _ ⟨V.bl _,H,I,rfl,q⟩
  | false=>
   cases fe:flatD e with
   | true=>
    let(g,_,h,_):=wk I f k c b (by rw[fd,fe];rfl) (A:=X.A) ∅;rw[g]at q;show h _ _ _ _ ⟨V.bl _,H,I,rfl,q⟩
   | false=>show(seq_eq I (I.eqP 49) m f k c b fd fe ∅).2.1 _ _ _ _ ⟨V.bl _,H,I,rfl,q⟩
theorem qa(hu:X.A.units+64<lh):mX X (ib .NotEq) (pC X.K):=λa s σ H x y v u Q I c b q=>by
 unfold pC at q;split at q
 .rename_i i j;show op_ne a s σ H _ _ v u Q I c b ⟨rfl,by rw[show decide (V.int i=V.int j)=decide (i=j)from by simp];show q⟩
 .rename_i i j;show op_ne a s σ H _ _ v u Q I c b ⟨rfl,by rw[show decide (V.str i=V.str j)=decide (i=j)from by simp];show q⟩
 .rename_i i j;show op_ne a s σ H _ _ v u Q I c b ⟨rfl,by rw[show decide (V.bl i=V.bl j)=decide (i=j)from by simp];show q⟩
 .show op_ne a s σ H _ _ v u Q I c b ⟨rfl,by simpa using q⟩
 .let(d,e,f,k,m,l,q):=q;show gu (gx X.prog X.w) X.A (richCompare .NotEq v u) (EP X a σ Q) X.xe s;cases fd:flatD d with
  | true=>
   cases fe:flatD e with
   | true=>rw[fd,fe]at l;cases l
   | false=>
    let(g,_,_,h):=wk I f k c b (by rw[fd,fe];rfl) (A:=X.A) ∅;rw[g]at q;show h _ _ _ _ ⟨V.bl _,H,I,rfl,q⟩
  | false=>
   cases fe:flatD e with
   | true=>
    let(g,_,_,h):=wk I f k c b (by rw[fd,fe];rfl) (A:=X.A) ∅;rw[g]at q;show h _ _ _ _ ⟨V.bl _,H,I,rfl,q⟩
   | false=>show(seq_eq I (I.eqP 49) m f k c b fd fe ∅).2.2 _ _ _ _ ⟨V.bl _,H,I,rfl,q⟩
def pB(j:Int):Prop:=j≠0/\j.natAbs.log2<9000
def pk(K:bY):R2:=λx y H Q=>match x,y with
 | .int i, .int j=>Q (.int (i+j)) H
 | .str i, .str j=>i.length+j.length<=sizeLine/\Q (.str (i++j)) H
 | .ref a, .ref b=>rCat (.ref a) (.ref b) H Q\/t8 K (.ref a) (.ref b) H Q
 | _,_=>False
theorem nQ:mX X (kb .Add) (pk X.K):=λa s σ H x y v u Q I c b q=>by
 unfold pk at q;split at q
 .show Je a s σ H _ _ v u Q I c b ⟨_,_,rfl,rfl,q⟩
 .show Nz a s σ H _ _ v u Q I c b ⟨_,_,rfl,rfl,q.1,q.2⟩
 .rcases q with q | q
  .show Jd a s σ H _ _ v u Q I c b q
  .show Jo a s σ H _ _ v u Q I c b q
 .show q.elim
def rMulU:R2:=λx y H Q=>match x,y with
 | .int i, .int j=>mI i j/\Q (.int (i*j)) H
 | _,_=>False
theorem Jm:mX X (kb .Mult) (rI mI λi j=>.int (i*j)):=z3 λ_ _ _ _ _ _ _ a q=>mul_int q a
theorem Jl:mX X (kb .Mult) rMulU:=λa s σ H x y v u Q I c b q=>by
 unfold rMulU at q;split at q
 .show Jm a s σ H _ _ v u Q I c b ⟨_,_,rfl,rfl,q.1,q.2⟩
 .show q.elim
def vb:R2:=λx y H Q=>match x,y with
 | .int i, .int j=>pB j/\Q (.int (i.fdiv j)) H
 | _,_=>False
theorem LM:mX X (kb .FloorDiv) (rI (λ_ j=>pB j) λi j=>.int (i.fdiv j)):=z3 λ_ _ _ _ _ _ _ a q=>floordiv_int a.1 q (.inl (PyProof.noPylong_of_log2 a.2))
theorem pz:mX X (kb .FloorDiv) vb:=λa s σ H x y v u Q I c b q=>by
 unfold vb at q;split at q
 .show LM a s σ H _ _ v u Q I c b ⟨_,_,rfl,rfl,q.1,q.2⟩
 .show q.elim
def rModU:R2:=λx y H Q=>match x,y with
 | .int i, .int j=>j≠0/\Q (.int (i.fmod j)) H
 | _,_=>False
theorem sL:mX X (kb .Mod) rModU:=λa s σ H x y v u Q I c b q=>by
 unfold rModU at q;split at q
 .show Jn a s σ H _ _ v u Q I c b ⟨_,_,rfl,rfl,q.1,q.2⟩
 .show q.elim
def rPowU:R2:=λx y H Q=>match x,y with
 | .int i, .int j=>yr i j/\Q (.int (i ^ j.toNat)) H
 | _,_=>False
def oz(p:Int->Int->Bool):R2:=λx y H Q=>match x,y with
 | .int i, .int j=>Q (.bl (p i j)) H
 | _,_=>False
theorem AN{op:CmpOp}{p:Int->Int->Bool}(h:mX X (ib op) (rR λi j=>.bl (p i j))):mX X (ib op) (oz p):=λa s σ H x y v u Q I c b q=>by
 unfold oz at q;split at q
 .show h a s σ H _ _ v u Q I c b ⟨_,_,rfl,rfl,q⟩
 .show q.elim
theorem uo:mX X (ib .Lt) (oz λi j=>decide (i<j)):=AN op_lt
theorem vS:mX X (ib .Gt) (oz λi j=>decide (j<i)):=AN op_gt
theorem E1:mX X (ib .GtE) (oz λi j=>decide (j<=i)):=AN op_ge
def Ed(K:bY)(H:Hp)(a:Addr)(xs:List V):Prop:=jM K H a xs\/mQ K H a xs
def qi(K:bY):R2:=λx y H Q=>match x,y with
 | .ref p, .int i=>∃ xs v,Ed K H p xs/\qo xs i=some v/\Q v H
 | .str z, .int i=>∃ c,z.length<=sizeLine/\qo z.cps.toList i=some c/\Q (.str ⟨#[c]⟩) H
 | _,_=>False
theorem ix_U:wQ X (qi X.K):=λa b d s σ H x y v u Q I g f q hs=>by
 unfold qi at q;split at q
 .obtain⟨k,w,h | h,e,q⟩:=q
  .show Lg a b d s σ H _ _ v u Q I g f ⟨_,_,_,_,rfl,rfl,h,e,q⟩ hs
  .show IM a b d s σ H _ _ v u Q I g f ⟨_,_,_,_,rfl,rfl,h,e,q⟩ hs
 .let(c,i,j,q):=q;show IP a b d s σ H _ _ v u Q I g f ⟨_,_,_,rfl,rfl,i,j,q⟩ hs
 .show q.elim
def rP(K:bY):List V->Hp->VK->Prop:=λxs H Q=>match xs with
 | [.ref p]=>∃ ys,Ed K H p ys/\Q (.int ys.length) H
 | [.str z]=>z.length<=sizeLine/\Q (.int z.length) H
 | _=>False
theorem qg:ky X (.builtin "len") (rP X.K):=λa s σ H d b Q I r q=>by
 unfold rP at q;split at q
 .let(c,h,q):=q;show Pm a s σ H _ b Q I r ⟨_,_,rfl,h,q⟩
 .show Pl a s σ H _ b Q I r ⟨_,rfl,q.1,q.2⟩
 .show q.elim
def rAbs:List V->Hp->VK->Prop:=λxs H Q=>match xs with
 | [.int i]=>Q (.int (if i<0 then -i else i)) H
 | _=>False
theorem Gi:ky X (.builtin "abs") rAbs:=λa s σ H c b Q I r q=>by
 unfold rAbs at q;split at q
 .show MJ a s σ H _ b Q I r ⟨_,rfl,q⟩
 .show q.elim
def rMin:List V->Hp->VK->Prop:=λxs H Q=>match xs with
 | [.int i, .int j]=>Q (.int (if j<i then j else i)) H
 | _=>False
theorem NY(hc:X.calm=true):ky X (.builtin "min") rMin:=λa s σ H c b Q I r q=>by
 unfold rMin at q;split at q
 .show NZ hc a s σ H _ b Q I r ⟨_,_,rfl,q⟩
 .show q.elim
def kI(t T:String):Bool:=t == T||(t == "bool"&&T == "int")
def tQ(K:bY)(H:Hp)(x:V)(t:String):Prop:=match x with
 | .int _=>t="int"
 | .str _=>t="str"
 | .bl _=>t="bool"
 | .non=>t="NoneType"
 | .ref a=>(t="list"/\∃ xs,jM K H a xs)\/(t="tuple"/\∃ xs,mQ K H a xs)
 | _=>False
theorem px(K:bY){t T:String}(ht:t∈["int","str","bool","NoneType","list","tuple"])(hT:T∈["int","str","bool","list","tuple"]):iU K (.type t) (.type T)=some (kI t T):=by
 simp only[gW,iJ,or_false]at ht hT;rcases ht with rfl | rfl | rfl | rfl | rfl | rfl <;> rcases hT with rfl | rfl | rfl | rfl | rfl <;> with_unfolding_all rfl
def sX(K:bY):List V->Hp->VK->Prop:=λxs H Q=>match xs with
 | [x, .ty T]=>T∈["int","str","bool","list","tuple"]/\∃ t,tQ K H x t/\Q (.bl (kI t T)) H
 | _=>False
theorem sO:ky X (.builtin "isinstance") (sX X.K):=λf s σ H n v Q I r q=>by
 unfold sX at q;split at q
 .rename_i x T;let(e,t,d,q):=q;let(u,c,rfl,g,m):=vals2 r;obtain rfl:c=bV.type T:=m;have b:∀ i,EP X f σ Q (.bool (kI t T)) { s with toks:=i }:=λi=>⟨V.bl _,H,I.tok i,rfl,q⟩;unfold tQ at d;split at d
  .subst d;let(_,rfl):=g;show iY W.kitx_int I.kIn iN (px _ ⋯ e) (λz=>nomatch z) b
  .subst d;let(_,rfl):=g;show iY W.kitx_str I.kIn iN (px _ ⋯ e) (λz=>nomatch z) b
  .subst d;cases(show u=ir _ from g);show iY W.kitx_bool I.kIn iN (px _ ⋯ e) (λz=>nomatch z) b
  .subst d;cases(show u=gY from g);show iY W.kitx_none I.kIn iN (px _ ⋯ e) (λz=>nomatch z) b
  .rename_i a;cases(show u=cf a from g);rcases d with⟨rfl,ys,h⟩ | ⟨rfl,ys,h⟩
   .let(j,_,p,_):=I.list h;let(o,_,k,l,_):=p;show iY W.kitx_list I.kIn ⟨o,k,l⟩ (px _ ⋯ e) (λz=>nomatch z) b
   .let(j,_,p,_):=I.tuple h;let(o,k,l,_):=p;show iY W.kitx_tuple I.kIn ⟨o,k,l⟩ (px _ ⋯ e) (λz=>nomatch z) b
  .show d.elim
 .show q.elim
variable{tg:Expr}
def ti(K:bY)(tl:TE):TI:=λσ H R=>tl σ H λx H1=>∃ a,x=.ref a/\(((∃ xs,jM K H1 a xs)/\R (wU K a) H1)\/((∃ xs,mQ K H1 a xs)/\R (wR K a) H1))
theorem jP{l:Expr}{tl:TE}(hl:PE X l tl):PI X tg l (ti X.K tl):=λd s σ H R I h=>by
 show jl (hl d s σ H _ I h) λv c ζ=>?_;let(x,g,I1,i,a,k,q):=ζ;subst k;cases i;rcases q with⟨⟨xs,hq⟩,q⟩ | ⟨⟨xs,hq⟩,q⟩
 .let(f,j,p,m):=I1.list hq;show wpAny_pyIter_list p.isList ?_;show(c.heap.objs.size,[c.heap.objs.size],_,_,g,rfl,I1.kept (t':=c.toks) λb o e=>bW _ e,Mj a _,⟨_,ck _ rfl,rfl,rfl⟩,λb hb=>?_,q);have e:b=c.heap.objs.size:=by simpa using hb
  subst e;show I1.fpOk (cB _) (I1.hok.fresh (cB _))
 .let(f,j,p,m):=I1.tuple hq;show wpAny_pyIter_tuple (show c.heap.IsTuple a f.toArray from p) ?_;show(c.heap.objs.size,[c.heap.objs.size],_,_,g,rfl,I1.kept (t':=c.toks) λb o e=>bW _ e,Nq a _,⟨_,ck _ rfl,rfl,rfl⟩,λb hb=>?_,q);have e:b=c.heap.objs.size:=by simpa using hb
  subst e;show I1.fpOk (cB _) (I1.hok.fresh (cB _))
structure mE(K:bY)(x qual:Str)(st:Stmt)(dV:bV)(f:Addr)(fd:iC):Prop where
 ex:∃(oc:bV)(od:Option Addr)(kV doc pm:bV)(an:Option Addr)(cdv ct:bV)(osl:Array (Option bV)),
  fd=lU x qual (qT st) (pR st) (iW st) dV kV doc pm an cdv ct/\K.lookup f=some ⟨oc,od, .func fd,osl⟩/\W.codeIn K cdv qual=true
 kp:ki K (.ref f)=true
section
variable{base:Heap}{K:bY}{qual:Str}{st:Stmt}{dV:bV}{N ps:List Str}{sp:Sp}
theorem mE.okn{f:Addr}{k:Nat}(F:mE K x qual st dV f fd)(S:jn N ps (iW st))(len:∀ vs H Q E,sp vs H Q E->vs.length=ps.length)
  (hbody:∀(cdv:bV)(A:iM)(outer:List Env)(s:b8)(H:Hp)(vs:List V)(Q:VK)(E:XK),ku k (A.deeper (hI qual (iW st) s.heap.objs.size f cdv))->sp vs H Q E ->
   ∃ t,o8 (lI (kU P w) P w K mg base N qual (iW st) f cdv A outer s H E).nox (pR st) t/\t { nx:=λ_ H'=>Q .non H',rt:=Q } (start N vs) H):lJ P w K mg base (kU P w) (k+1) f fd ps sp:=by
 let(l,i,kV,c,g,m,cdv,j,d,rfl,lk,a):=F.ex;show uf lk a S len λA outer s H vs Q E e b=>?_;let(t,h,q):=hbody cdv A outer s H vs Q E e b;show(t,h.nox,q)
theorem mE.okx{f:Addr}{k:Nat}(F:mE K x qual st dV f fd)(S:jn N ps (iW st))(len:∀ vs H Q E,sp vs H Q E->vs.length=ps.length)
  (hbody:∀(cdv:bV)(A:iM)(outer:List Env)(s:b8)(H:Hp)(vs:List V)(Q:VK)(E:XK),ku k (A.deeper (hI qual (iW st) s.heap.objs.size f cdv))->sp vs H Q E ->
   ∃ t,o8 (lI (kU P w) P w K mg base N qual (iW st) f cdv A outer s H E) (pR st) t/\t { nx:=λ_ H'=>Q .non H',rt:=Q } (start N vs) H):lJ P w K mg base (kU P w) (k+1) f fd ps sp:=by
 let(i,j,kV,d,g,l,cdv,h,c,rfl,lk,a):=F.ex;show uf lk a S len λA outer s H vs Q E e b=>hbody cdv A outer s H vs Q E e b
theorem mE.binds{f:Addr}(F:mE K x qual st dV f fd)
  (h:∀(kV doc pm:bV)(an:Option Addr)(cdv ct:bV)(us:List bV),us.length=ps.length->bindArgs (lU x qual (qT st) (pR st) (iW st) dV kV doc pm an cdv ct) ⟨us,[]⟩=pure (ps.zip us)):Binds K fd ps []:=by
 let(c,d,kV,doc,pm,an,cdv,ct,a,rfl,lk,b):=F.ex;show .all (h kV doc pm an cdv ct)
theorem mE.bindsD{T:Addr}{f:Addr}{o:Obj}{items:Array bV}(F:mE K x qual st (.ref T) f fd)(hT:K.lookup T=some o)(hs:o.data=.seq items n)(ds:List bV)
  (h:∀(kV doc pm:bV)(an:Option Addr)(cdv ct:bV)(us:List bV),(us++ds).length=ps.length->∃ k,bindArgs (lU x qual (qT st) (pR st) (iW st) (.ref T) kV doc pm an cdv ct) ⟨us,[]⟩=seqItems? (.ref T) >>= k/\k (some items)=pure (ps.zip (us++ds))):Binds K fd ps ds:=by
 let(g,i,kV,doc,pm,an,cdv,ct,a,rfl,lk,c):=F.ex;intro s us X e;let(k,d,b):=h kV doc pm an cdv ct us e;show BindsTo.of_defaults (T:=T) rfl (X _ _ hT) hs d b
theorem BW{f:Addr}{oc:bV}{od an:Option Addr}{osl:Array (Option bV)}{kV doc pm cdv ct:bV}(l:K.lookup f=some ⟨oc,od, .func (lU x qual (qT st) (pR st) (iW st) dV kV doc pm an cdv ct),osl⟩)
  (c:W.codeIn K cdv qual=true) (k:ki K (.ref f)=true):mE K x qual st dV f (lU x qual (qT st) (pR st) (iW st) dV kV doc pm an cdv ct):=⟨⟨oc,od,kV,doc,pm,an,cdv,ct,osl,rfl,l,c⟩,k⟩
end
structure kR(P:gN)(w:ik)(K:bY)(mg:Str->Option bV)(base:Heap)(k:Nat)(x:Str)(ps:List Str)(dvs:List V)(sp:Sp):Prop where
 ex:∃(f:Addr)(fd:iC)(ds:List bV),lJ P w K mg base (kU P w) k f fd ps sp/\mg x=some (.ref f)/\ki K (.ref f)=true/\Binds K fd ps ds/\Vals dvs ds
section
variable{k':Nat}{ps:List Str}{dvs:List V}{sp:Sp}{E:XK}{pos:Pos}{e:Expr}{es:List Expr}{k:Nat}{p:Pos}{t:TA}
theorem kR.ev(G:kR X.prog X.w X.K X.mg X.base k x ps dvs sp)(hr:ku k' X.A)(hk:k<=k')(hg:Gl X x)(hx:qb (kU X.prog X.w) X E)(ha:PA X (e::es) t)
  (hdb:autoParam ((x == ("__debug__" : Str))=false) Au) (he:autoParam (gy (e::es) X.env=(false,eval e X.env)::gy es X.env) Au) (hpl:autoParam ((iP pos (gy es X.env)).any (·.1)=false) Au) :
  PE X (.Call (.Name x p) (e::es) [] pos) (nX sp dvs E t):=by
 let(f,g,d,F,a,b,hb,c):=G.ex;show Jj F (hr.mono hk) hg a b hb c hx ha hdb he hpl
end
section
open PySem.W PySem.Builtin PySem.Builtin.ObjectAttr PySem.Builtin.Getset_descriptor
variable{prog:gN}{E:bV->b8->Prop}{K:Frag}{x:Addr}{ox:Obj}{D:Addr}
theorem AC(hx:h.get? x=some ox)(hc:ox.cls=.ref D):Looks M h (typeOf (.ref x)) (.ref D):=hc ▸ (Looks.ld hx).andThen .now
structure nE(K:bY)(D:Addr):Prop where
 cl:lF K D=true
 ga:iL K (.ref D) "__getattribute__"=some (some (.builtin "BaseException.__getattribute__"))
 gh:iL K (.ref D) "__getattr__"=some none
 ca:iL K (.ref D) "__class__"=some (some (.builtin "object.__class__"))
 cg:W.specialIn K (.builtin "object.__class__") "__get__"=some (some (.builtin "getset_descriptor.__get__"))
 ct:W.takesIn K (.builtin "object.__class__")=some true
 mo:W.mroIn K D (.type "object")=some true
 mb:W.mroIn K D (.type "BaseException")=some true
theorem JK(X:K.In h)(c:nE K D):Looks M h (find (.ref x) (.ref D) "__class__") (.bind (.builtin "getset_descriptor.__get__") (.builtin "object.__class__")):=by
 have L1:=looks_findIn (M:=M) X c.ca;have L2:Looks M h (getOf (some (.builtin "object.__class__"))) (some (.builtin "getset_descriptor.__get__")):=looks_specialIn X c.cg;have L3:=looks_takesIn (M:=M) X c.ct;show L1.andThen (L2.andThen ((show Looks M h (dataDescriptor? (some (.builtin "object.__class__")) (some (.builtin "getset_descriptor.__get__"))) (some (.builtin "getset_descriptor.__get__", .builtin "object.__class__"))from L3.andThen .now).andThen (Looks.tag .now)))
theorem Hu{tp:bV}{R:Result->b8->Prop}(X:K.In s.heap)(hx:s.heap.get? x=some ox)(hc:ox.cls=.ref D)(c:nE K D)(q:R (.ok (.ret (.ref D))) s) :
  kl (gx prog w) A (.call (.builtin "getset_descriptor.__get__") ⟨[.builtin "object.__class__", .ref x,tp],[]⟩) R s:=by
 let(f,a,d,b,g):=s;have h:=AC (M:=gx prog w) hx hc;have e:=looks_mroIn (M:=gx prog w) X c.mo;show lb (KF.slot_gs.plain) (KF.entry_gs) (KF.slot_gs.check _ _ _ _ _ _ _ _ (KF.type_class) (KF.args_gs _ _ _) ?_)
 (unfold Builtin.«getset_descriptor.__get__»;unfold descrGet)
 (rw[dga_obj];show bO (gw ?_))
 (unfold descrGetter;unfold descrCheckInstance;unfold descrNameAndClass;unfold isInstance)
 (simp only[KF.owner_class];repeat lk)
 show And.intro (Code.quiet_builtin _ (by decide +kernel)) (mU (KF.entry_class) ?_)
 (unfold Builtin.«object.__class__»;unfold shownTypeOf;repeat lk)
 show q
theorem JL{Q:Option bV->b8->Prop}(X:K.In s.heap)(hx:s.heap.get? x=some ox)(hc:ox.cls=.ref D)(c:nE K D)(q:Q (some (.ref D)) { s with toks:=s.toks+1 }) :
  gu (gx prog w) A (getAttr? (.ref x) "__class__") Q E s:=by
 let(o,m,n,f,p):=s;have i:=AC (M:=gx prog w) hx hc;have e:=looks_findIn (M:=gx prog w) X c.ga;have d:=looks_findIn (M:=gx prog w) X c.gh;have j:=JK (M:=gx prog w) (x:=x) X c;have k:=looks_mroIn (M:=gx prog w) X c.mb;have b:bindSpecial (.builtin "BaseException.__getattribute__") (.ref x)=pure (.builtin "BaseException.__getattribute__",[.ref x]):=by kernel_rfl
 unfold getAttr? getAttrBy? getAttrBy;show bO (wpAny_mkText (bO (wpAny_attempt (kc (bO (i.at (bO (e.at ?_))))))));have h:(onTheHeap (cf D)&&jo "BaseException.__getattribute__" == jo "object.__getattribute__")=false:=Bool.and_eq_false_iff.mpr (.inr (by decide +kernel));show gu _ _ (if(onTheHeap (cf D)&&jo "BaseException.__getattribute__" == jo "object.__getattribute__")=true then _ else getAttrByItsOwn _ _ _ _ _ _) _ _ _;rw[if_neg (by rw[h];decide)];unfold getAttrByItsOwn hookBefore;show bO ?_;rw[if_pos (show onTheHeap (cf D)=true from rfl)];show d.at ?_;show bO (wpAny_attempt (kc ?_));unfold callGetattribute boundAndCalled;rw[if_neg ⋯,b];show bO (gw ?_);show my (lb (by decide +kernel) F.entry_bexc_ga ?_);have a:builtinKind "BaseException.__getattribute__"=some .slot:=by decide +kernel
 have g:splitId "BaseException.__getattribute__"=some ("BaseException","__getattribute__"):=by decide +kernel
 have l:=F.args_bexc_ga (.ref x) (.str "__class__" f)
 (simp only[checkBuiltinCall,a,g];show bO ?_)
 unfold isInstance;repeat (first | lk | wp_step)
 show wpAny_run (Hu X hx hc c ?_);repeat (first | lk | wp_step)
 show q
theorem MT(c:nE K D):KitX K (.ref x) (.ref D) (λh=>∃ ox,h.get? x=some ox/\ox.cls=.ref D) where
 ty:=λ_ _ _ ζ=>by let(ox,hx,d):=ζ;show AC hx d
 it:=λ_ _ X _=>Gb X c.cl
 ne:=λh e j f n i X b=>by
  show Bool.eq_false_iff.mpr λq=>?_;obtain rfl:D=e:=cf.inj (beq_iff_eq.mp q);let(g,a,_):=any_some c.cl
  (unfold clsIn at a;split at a)
  next ho=>have z:=X _ _ ho;rw[b]at z;cases z
  next=>cases a
 ca:=λX ⟨ox,hx,d⟩ q=>JL X hx d c q
end
def clsV:V->bV
 | .ty T=>.type T
 | .ref C=>.ref C
 | _=>.none
inductive xQ(K:bY)(H:Hp):V->bV->Prop where
 | of {x:V} {t:bV} (h:oq K H x t):xQ K H x t
 | sql {a:Addr} {xs:List V} (h:jM K H a xs):xQ K H (.ref a) (.type "list")
 | sqt {a:Addr} {xs:List V} (h:mQ K H a xs):xQ K H (.ref a) (.type "tuple")
 | exc {a C:Addr} {od:Option Addr} (e:H a=some (p6 a C od)) (c:nE K C):xQ K H (.ref a) (.ref C)
def rQ(K:bY):List V->Hp->VK->Prop:=λxs H Q=>∃ x c t b,xs=[x,c]/\((∃ T,c=.ty T)\/∃ C,c=.ref C)/\xQ K H x t/\iU K t (clsV c)=some b/\Q (.bl b) H
theorem Qi:ky X (.builtin "isinstance") (rQ X.K):=λf s σ H m F Q I r q=>by
 let(x,c,t,b,rfl,D,A,e,q):=q;let(u,w,rfl,j,n):=vals2 r;have v:w=clsV c:=by
  rcases D with⟨T,rfl⟩ | ⟨C,rfl⟩
  .show n
  .show n
 subst v;have d:∀ k,EP X f σ Q (.bool b) { s with toks:=k }:=λk=>⟨V.bl _,H,I.tok k,rfl,q⟩;cases A with
 | of h=>show M8 I j h e d
 | @sql a m h=>
  cases(show u=cf a from j);let(l,_,p,_):=I.list h;let(o,_,g,i,_):=p;show iY W.kitx_list I.kIn ⟨o,g,i⟩ e (λz=>nomatch z) d
 | @sqt a m h=>
  cases(show u=cf a from j);let(l,_,p,_):=I.tuple h;let(o,g,i,_):=p;show iY W.kitx_tuple I.kIn ⟨o,g,i⟩ e (λz=>nomatch z) d
 | @exc a C od ea cc=>
  cases(show u=cf a from j);have y:=I.hok a _ ea;let((B,E,g,i,_),_):=y;show iY (MT cc) I.kIn ⟨B,g,i⟩ e (λz=>nomatch z) d
def JM(r r' r'':R2)(ta tb tc td:TE):TE:=λσ H Q=>ta σ H λx H1=>tb σ H1 λy H2=>r x y H2 λz H3=>∃ k,z=.bl k /\
 (if k=true then tc σ H3 λw' H4=>r' y w' H4 λz' H5=>∃ k',z'=.bl k'/\(if k'=true then td σ H5 λu' H6=>r'' w' u' H6 Q else Q (.bl false) H5)else Q (.bl false) H3)
def rFmt:V->Hp->VK->Prop:=λx H Q=>match x with
 | .int i=>i.natAbs.log2<1920/\Q (.str (toString i)) H
 | _=>False
def TJ:=St->Hp->Str->VK->Prop
def PJ(X:Cx)(es:List Expr)(t:TJ):Prop:=∀(pins:List (Addr × Obj))(s:b8)(σ : St)(H:Hp)(acc:Str)(Q:VK),Inv X pins σ H s->t σ H acc Q ->
 Joins (gx X.prog X.w) X.A X.xe (evalEach es X.env) acc (λout s1=>out.length<=sizeLine/\EP X pins σ Q (.str out s1.toks) { s1 with toks:=s1.toks+1 }) s
def jNil:TJ:=λ_ H acc Q=>acc.length<=sizeLine/\Q (.str acc) H
def rX(te:TE)(t:TJ):TJ:=λσ H acc Q=>te σ H λx H1=>∃ y,x=.str y/\(acc++y).length<=sizeLine/\t σ H1 (acc++y) Q
theorem Ax:PJ X [] jNil:=λ_ _ _ H _ _ I h=>⟨h.1, .str _,H,I.tok _,⟨_,rfl⟩,h.2⟩
variable{e:Expr}{es:List Expr}{te:TE}
theorem sJ{t:TJ}(h:PE X e te)(g:PJ X es t):PJ X (e::es) (rX te t):=λa s σ H d Q I q=>
 jl (h a s σ H _ I q) λu i ⟨x,b,I1,c,y,f,k,j⟩=>by
  subst f;let(l,rfl):=c;show(y,l,rfl,k,g a i σ b _ Q I1 j)
variable{pos:Pos}
theorem LF(h:PE X e te):PE X (.JoinedStr [e] pos) te:=λa s σ H Q I q=>wpAny_JoinedStr_one (h a s σ H Q I q)
def rF(t:TJ):TE:=λσ H Q=>t σ H Str.empty Q
theorem AM{e':Expr}{t:TJ}(h:PJ X (e::e'::es) t):PE X (.JoinedStr (e::e'::es) pos) (rF t):=λa s σ H Q I q=>wpAny_JoinedStr (h a s σ H _ Q I q)
def rStrI:List V->Hp->VK->Prop:=λxs H Q=>match xs with
 | [.int i]=>i.natAbs.log2<1920/\Q (.str (toString i)) H
 | _=>False
theorem NX:ky X (.type "str") rStrI:=λa s σ H c b Q I r q=>by
 unfold rStrI at q;split at q
 .show Pj a s σ H _ b Q I r ⟨_,rfl,q.1,q.2⟩
 .show q.elim
end L2
namespace Mth
def g(a b:Int):Int:=(Int.gcd a b:Nat)
theorem fm{x y:Int}(h:0<y):0<=x.fmod y/\x.fmod y<y:=by
 rw[Int.fmod_eq_emod_of_nonneg _ ∅];show(Int.emod_nonneg _ ∅,Int.emod_lt_of_pos _ h)
def Ec(t b:Int):Int:=if b<0 then -(g t b)else g t b
def top(t b:Int):Int:=t.fdiv (Ec t b)
def bot(t b:Int):Int:=b.fdiv (Ec t b)
theorem Se{n k:Nat}(h:n<2 ^ k)(hk:k<9000):n.log2<9000:=by
 by_cases z:n=0
 .rw[z];decide
 .show Nat.lt_trans ((Nat.log2_lt z).mpr h) hk
def Sz(n:Nat)(i:Int):Prop:=i.natAbs<2 ^ n
end Mth
namespace L2
open PySem PySem.Spec PyProof.Rows
section
variable{σ:St}{H:Hp}{Q:VK}{u:TS}{ta tb te:TE}{tA:TA}{r:R2}{E:XK}{sp:Sp}{D:Ends}{t:TS}{g:TG}{K:bY}
theorem JjH:lY t u D σ H=t { D with nx:=u D } σ H:=rfl
theorem Jl6:tNext D σ H=D.nx σ H:=rfl
theorem Joi:oQ te g D σ H=te σ H λx H1=>g x σ H1 D.nx:=rfl
variable{i:Nat}{v:V}
theorem Jl5{R:St->Hp->Prop}:nN i v σ H R=R (σ.set i (some v)) H:=rfl
theorem JoE:o4 te D σ H=te σ H D.rt:=rfl
theorem Jmb:tRetN D σ H=D.rt .non H:=rfl
theorem JlY:qE te D σ H=te σ H λ_ H1=>D.nx σ H1:=rfl
theorem rd_c:tC v σ H Q=Q v H:=rfl
theorem rd_op:om r ta tb σ H Q=ta σ H λx H1=>tb σ H1 λy H2=>r x y H2 Q:=rfl
theorem rd_un{f:V->Hp->VK->Prop}:yA f ta σ H Q=ta σ H λx H1=>f x H1 Q:=rfl
theorem rd_cb{f:List V->Hp->VK->Prop}:sU f tA σ H Q=tA σ H λvs H1=>f vs H1 Q:=rfl
variable{R:List V->Hp->Prop}
theorem JlX:kG ta tA σ H R=ta σ H λx H1=>tA σ H1 λxs H2=>R (x::xs) H2:=rfl
theorem JoA:tNil σ H R=R [] H:=rfl
variable{dvs:List V}
theorem JlW:nX sp dvs E tA σ H Q=tA σ H λvs H1=>sp (vs++dvs) H1 Q E:=rfl
variable{R:Bool->Hp->Prop}
theorem Jmd:n9 te σ H R=te σ H λx H'=>lj x λk=>R k H':=rfl
theorem rd_B:tB te σ H R=te σ H λx H'=>lj x λk=>R k H':=rfl
variable{a b:TT}
theorem Joh:q5 a b σ H R=a σ H λc H1=>if c=true then b σ H1 R else R false H1:=rfl
theorem rd_or:zX a b σ H R=a σ H λc H1=>if c=true then R true H1 else b σ H1 R:=rfl
theorem JoB:qZ a σ H R=a σ H λc H1=>R (!c) H1:=rfl
theorem JlV:rH ta tb σ H Q=ta σ H λx H1=>lj x λc=>if c=true then tb σ H1 Q else Q (.bl false) H1:=rfl
theorem JoC:uD ta tb σ H Q=ta σ H λx H1=>lj x λc=>if c=true then Q (.bl true) H1 else tb σ H1 Q:=rfl
theorem Jl8:rE ta σ H Q=ta σ H λx H1=>lj x λc=>Q (.bl (!c)) H1:=rfl
theorem rd_if{c:TT}:o5 c t u D σ H=c σ H λb H1=>if b=true then t D σ H1 else u D σ H1:=rfl
theorem JoL:lH i σ H Q=xP σ[i]? H Q:=rfl
theorem rd_at:xP (some (some v)) H Q=Q v H:=rfl
theorem rd_tb{b:Bool}{R:Bool->Prop}:lj (.bl b) R=R b:=rfl
theorem Jog{i j:Int}:pk K (.int i) (.int j) H Q=Q (.int (i+j)) H:=rfl
theorem JlU{i j:Str}:pk K (.str i) (.str j) H Q=(i.length+j.length<=sizeLine/\Q (.str (i++j)) H):=rfl
variable{i j:Int}
theorem JoF{f:Int->Int->V}:rR f (.int i) (.int j) H Q=Q (f i j) H:=by
 unfold rR;simp
theorem Joz{f:Int->V}:rU f (.int i) H Q=Q (f i) H:=by
 unfold rU;simp
theorem Jov:rMulU (.int i) (.int j) H Q=(mI i j/\Q (.int (i*j)) H):=rfl
theorem JlZ:vb (.int i) (.int j) H Q=(pB j/\Q (.int (i.fdiv j)) H):=rfl
theorem Jou:rModU (.int i) (.int j) H Q=(j≠0/\Q (.int (i.fmod j)) H):=rfl
theorem JoD:rPowU (.int i) (.int j) H Q=(yr i j/\Q (.int (i ^ j.toNat)) H):=rfl
theorem Joj{p:Int->Int->Bool}:oz p (.int i) (.int j) H Q=Q (.bl (p i j)) H:=rfl
theorem Jol:oR K (.int i) (.int j) H Q=Q (.bl (decide (i=j))) H:=rfl
theorem Jox:pC K (.int i) (.int j) H Q=Q (.bl (!decide (i=j))) H:=rfl
variable{i j:Str}
theorem Jom:oR K (.str i) (.str j) H Q=Q (.bl (decide (i=j))) H:=rfl
theorem Joy:pC K (.str i) (.str j) H Q=Q (.bl (!decide (i=j))) H:=rfl
variable{i j:Bool}
theorem Jok:oR K (.bl i) (.bl j) H Q=Q (.bl (decide (i=j))) H:=rfl
theorem Jow:pC K (.bl i) (.bl j) H Q=Q (.bl (!decide (i=j))) H:=rfl
theorem JoG:sT tA σ H Q=tA σ H λxs H1=>xs.length<=sizeLine/\∀ p,H1 p=none->Q (.ref p) (upd H1 p (.tup xs)):=rfl
theorem Jos:uE tA σ H Q=tA σ H λxs H1=>xs.length<=sizeLine/\∀ p,H1 p=none->Q (.ref p) (upd H1 p (.lst xs)):=rfl
variable{T:String}
theorem Jor{x:V}:sX K [x, .ty T] H Q=(T∈["int","str","bool","list","tuple"]/\∃ t,tQ K H x t/\Q (.bl (kI t T)) H):=rfl
variable{i:Int}
theorem Jof:rAbs [.int i] H Q=Q (.int (if i<0 then -i else i)) H:=rfl
variable{j:Int}
theorem Jot:rMin [.int i, .int j] H Q=Q (.int (if j<i then j else i)) H:=rfl
variable{s:String}
theorem JoI:tQ K H (.int i) s=(s="int"):=rfl
theorem JoK{i:Str}:tQ K H (.str i) s=(s="str"):=rfl
theorem JoH{i:Bool}:tQ K H (.bl i) s=(s="bool"):=rfl
theorem JoJ:tQ K H .non s=(s="NoneType"):=rfl
end
theorem ES:gI "abs"=some (.builtin "abs"):=by decide +kernel
theorem pQ:gI "len"=some (.builtin "len"):=by decide +kernel
theorem J9:gI "min"=some (.builtin "min"):=by decide +kernel
theorem J8:gI "sum"=some (.builtin "sum"):=by decide +kernel
theorem Gj:gI "sorted"=some (.builtin "sorted"):=by decide +kernel
theorem oM:gI "isinstance"=some (.builtin "isinstance"):=by decide +kernel
theorem ER:gI "all"=some (.builtin "all"):=by decide +kernel
theorem EO:gI "int"=some (.type "int"):=by decide +kernel
theorem xX:gI "str"=some (.type "str"):=by decide +kernel
theorem Ky:gI "bool"=some (.type "bool"):=by decide +kernel
theorem wg:gI "list"=some (.type "list"):=by decide +kernel
theorem wu:gI "tuple"=some (.type "tuple"):=by decide +kernel
theorem Kx:gI "dict"=some (.type "dict"):=by decide +kernel
theorem EN:gI "zip"=some (.type "zip"):=by decide +kernel
theorem GI:gI "reversed"=some (.type "reversed"):=by decide +kernel
theorem PF:gI "ValueError"=some (.type "ValueError"):=by decide +kernel
theorem JfG:kI "int" "int"=true:=by decide
theorem JfH:kI "int" "str"=false:=by decide
theorem JeV:kI "int" "bool"=false:=by decide
theorem JeW:kI "int" "list"=false:=by decide
theorem Jej:kI "int" "tuple"=false:=by decide
theorem JfI:kI "str" "int"=false:=by decide
theorem JfJ:kI "str" "str"=true:=by decide
theorem JeZ:kI "str" "bool"=false:=by decide
theorem Je0:kI "str" "list"=false:=by decide
theorem Jem:kI "str" "tuple"=false:=by decide
theorem JeT:kI "bool" "int"=true:=by decide
theorem JeU:kI "bool" "str"=false:=by decide
theorem Jeh:kI "bool" "bool"=true:=by decide
theorem Jei:kI "bool" "list"=false:=by decide
theorem JdL:kI "bool" "tuple"=false:=by decide
theorem Jc8:kI "NoneType" "int"=false:=by decide
theorem Jc9:kI "NoneType" "str"=false:=by decide
theorem JcV:kI "NoneType" "bool"=false:=by decide
theorem JcW:kI "NoneType" "list"=false:=by decide
theorem JcK:kI "NoneType" "tuple"=false:=by decide
theorem JeX:kI "list" "int"=false:=by decide
theorem JeY:kI "list" "str"=false:=by decide
theorem Jek:kI "list" "bool"=false:=by decide
theorem Jel:kI "list" "list"=true:=by decide
theorem JdM:kI "list" "tuple"=false:=by decide
theorem Jen:kI "tuple" "int"=false:=by decide
theorem Jeo:kI "tuple" "str"=false:=by decide
theorem JdN:kI "tuple" "bool"=false:=by decide
theorem JdO:kI "tuple" "list"=false:=by decide
theorem Jdd:kI "tuple" "tuple"=true:=by decide
theorem Jlv:("int"∈["int","str","bool","list","tuple"])=True:=by simp
theorem Jlw:("str"∈["int","str","bool","list","tuple"])=True:=by simp
theorem Jju:("bool"∈["int","str","bool","list","tuple"])=True:=by simp
theorem Jjv:("list"∈["int","str","bool","list","tuple"])=True:=by simp
theorem JhX:("tuple"∈["int","str","bool","list","tuple"])=True:=by simp
variable{P:gN}{w:ik}{scope:Scope}{A:iM}{s:b8}{H:Hp}{E:XK}
theorem rd_K{CX:su}{K:bY}{mg:Str->Option bV}{base:Heap}{N:List Str}{qual:Str}{f:Addr}{cd:bV}{outer:List Env}:(lI CX P w K mg base N qual scope f cd A outer s H E).K=K:=rfl
def sr(lo:Int)(n:Nat)(g:TG)(tb:TS)(D:Ends)(σ : St)(H:Hp):Prop:=∃ W:Nat->Nat->St->Hp->Prop,(∃ m,W 0 m σ H)/\∀ i m σ H,W i m σ H ->
 ((so lo n).stop i H/\D.nx σ H)\/((so lo n).go i H/\∃ N:St->Hp->Prop,(∀ σ' H',N σ' H'->∃ m',m'<m/\W (i+1) m' σ' H')/\∀ x H',(so lo n).yld i H x H'->g x σ H' λσ2 H2=>tb { D with nx:=N,ct:=N,bk:=D.nx } σ2 H2)
def tN(K:bY)(a:Addr)(g:TG)(tb:TS)(D:Ends)(σ : St)(H:Hp):Prop :=
 ((∃ xs,jM K H a xs)/\∃ W:Nat->Nat->St->Hp->Prop,(∃ m,W 0 m σ H)/\∀ i m σ H,W i m σ H ->
  ((wU K a).stop i H/\D.nx σ H)\/((wU K a).go i H/\∃ N:St->Hp->Prop,(∀ σ' H',N σ' H'->∃ m',m'<m/\W (i+1) m' σ' H')/\∀ x H',(wU K a).yld i H x H'->g x σ H' λσ2 H2=>tb { D with nx:=N,ct:=N,bk:=D.nx } σ2 H2)) \/
 ((∃ xs,mQ K H a xs)/\∃ W:Nat->Nat->St->Hp->Prop,(∃ m,W 0 m σ H)/\∀ i m σ H,W i m σ H ->
  ((wR K a).stop i H/\D.nx σ H)\/((wR K a).go i H/\∃ N:St->Hp->Prop,(∀ σ' H',N σ' H'->∃ m',m'<m/\W (i+1) m' σ' H')/\∀ x H',(wR K a).yld i H x H'->g x σ H' λσ2 H2=>tb { D with nx:=N,ct:=N,bk:=D.nx } σ2 H2))
variable{ta:TA}{tb:TS}{σ:St}
theorem JiZ{g:TG}{D:Ends}:pU (qH ta) g tb D σ H=ta σ H λvs H1=>∃ j:Int,vs=[.int j]/\-(2 ^ 62)<=j/\j<2 ^ 62/\sr 0 j.toNat g tb D σ H1:=rfl
theorem Jl0{g:TG}{D:Ends}:pU (xI ta) g tb D σ H=ta σ H λvs H1=>∃ i j:Int,vs=[.int i, .int j]/\(-(2 ^ 62)<=i/\i<2 ^ 62/\-(2 ^ 62)<=j/\j<2 ^ 62)/\sr i (j-i).toNat g tb D σ H1:=rfl
theorem Ji0{K:bY}{tl:TE}{g:TG}{D:Ends}:pU (ti K tl) g tb D σ H=tl σ H λx H1=>∃ a,x=.ref a/\tN K a g tb D σ H1:=rfl
variable{n:Nat}
theorem sr.by{lo:Int}{g:TG}{D:Ends}(Pv:Nat->St->Hp->Prop)(h0:Pv 0 σ H)
  (hs:∀ i σ H,i<n->Pv i σ H->g (.int (lo+i)) σ H λσ2 H2=>tb { D with nx:=Pv (i+1),ct:=Pv (i+1),bk:=D.nx } σ2 H2) (hd:∀ σ H,Pv n σ H->D.nx σ H):sr lo n g tb D σ H:=Nd Pv h0 hs hd
variable{i:Int}
theorem AG(h:Mth.Sz n i):Builtin.Int.intBits i<=n:=by
 unfold Builtin.Int.intBits;split
 .show kM _
 .rename_i z;have : i.natAbs.log2<n:=(Nat.log2_lt (by simpa using z)).mpr h;ac_nf
variable{j:Int}
theorem xw{m:Nat}(h:Mth.Sz m i)(k:Mth.Sz n j)(hm:autoParam (m<=2 ^ 20) Au)(hn:autoParam (n<=2 ^ 20) Au):mI i j:=mI.of_bits (g0 (AG h) hm) (g0 (AG k) hn)
theorem Iy(h:Mth.Sz 64 j):mI i j:=mI.of_right (AG h)
theorem ug(h:j≠0)(k:Mth.Sz n j)(hn:autoParam (n<9000) Au):pB j:=⟨h,Mth.Se k hn⟩
theorem xW(h:decide (j≠0/\j.natAbs<2 ^ 64)=true):pB j:=by
 have z:=of_decide_eq_true h;show ug z.1 (n:=64) z.2
theorem Iz(h:decide (j.natAbs<2 ^ 64)=true):mI i j:=by
 have z:j.natAbs<2 ^ 64:=of_decide_eq_true h;show Iy z
variable{Q:VK}
theorem Ea{K:bY}{p:Addr}{xs:List V}{i:Nat}{v:V}(h:jM K H p xs)(e:xs[i]?=some v)(q:Q v H):qi K (.ref p) (.int (i:Int)) H Q:=⟨xs,v, .inl h,Kz e,q⟩
section
variable{En:Ends}{u:TS}{ta tb te tc td:TE}{gs:rk}{tA:TA}{sp:Sp}{t:TS}{g:TG}{K:bY}
theorem rd_sl{r:V->Option Int->Option Int->Hp->VK->Prop}{tl th:TO}:zW r te tl th σ H Q=te σ H λx H1=>tl σ H1 λl H2=>th σ H2 λu H3=>r x l u H3 Q:=rfl
variable{R:Option Int->Hp->Prop}
theorem Jma:rD te σ H R=te σ H λx H1=>∃ i,x=.int i/\R (some i) H1:=rfl
theorem Jh5:A6 σ H R=R none H:=rfl
variable{r r':R2}
theorem JjC:Hx r r' ta tb tc σ H Q=ta σ H λx H1=>tb σ H1 λy H2=>r x y H2 λz H3=>lj z λk=>(if k=true then tc σ H3 λw' H4=>r' y w' H4 Q else Q (.bl false) H3):=rfl
theorem Jh3{r'':R2}:JM r r' r'' ta tb tc td σ H Q=ta σ H λx H1=>tb σ H1 λy H2=>r x y H2 λz H3=>∃ k,z=.bl k /\
 (if k=true then tc σ H3 λw' H4=>r' y w' H4 λz' H5=>∃ k',z'=.bl k'/\(if k'=true then td σ H5 λu' H6=>r'' w' u' H6 Q else Q (.bl false) H5)else Q (.bl false) H3):=rfl
variable{tj:TJ}
theorem Jl1:rF tj σ H Q=tj σ H Str.empty Q:=rfl
variable{acc:Str}
theorem JjE:rX te tj σ H acc Q=te σ H λx H1=>∃ y,x=.str y/\(acc++y).length<=sizeLine/\tj σ H1 (acc++y) Q:=rfl
theorem Jl2:jNil σ H acc Q=(acc.length<=sizeLine/\Q (.str acc) H):=rfl
theorem Jon:rFmt (.int i) H Q=(i.natAbs.log2<1920/\Q (.str (toString i)) H):=rfl
theorem Jmc:rStrI [.int i] H Q=(i.natAbs.log2<1920/\Q (.str (toString i)) H):=rfl
theorem JjI{D0:Addr}{i:Nat}{tx:St->Hp->VK->XK->Prop}{ts:TS}:Al K D0 i tx ts En σ H=tx σ H (λ_ H1=>En.nx σ H1) λcls od H1=>∃ C,cls=.ref C/\oZ K C D0 /\
 ∀ ea,H1 ea=none->ts { nx:=λσ' H'=>En.nx (σ'.set i none) H',rt:=En.rt,bk:=λσ' H'=>En.bk (σ'.set i none) H',ct:=λσ' H'=>En.ct (σ'.set i none) H' } (σ.set i (some (.ref ea))) (upd H1 ea (p6 ea C od)):=rfl
variable{dvs:List V}
theorem JjJ{Qx:VK}{Ex:XK}:xa sp dvs tA σ H Qx Ex=tA σ H λvs H1=>sp (vs++dvs) H1 Qx Ex:=rfl
variable{C:Addr}
theorem JjG:yS E C tA En σ H=tA σ H λvs H1=>vs.length<=sizeLine/\E (.ref C) none H1:=rfl
variable{X:Cx}
theorem qS{K:bY}(hK:X.K=K){x:Str}{p pos:Pos}{e:Expr}{es:List Expr}{t:TA}(hg:Gl X x)(hm:X.mg x=none)(hv:gI x=some (.builtin "isinstance"))(ha:PA X (e::es) t)(hn:autoParam (x≠"__name__") Au)
  (hdb:autoParam ((x == ("__debug__" : Str))=false) Au) (he:autoParam (gy (e::es) X.env=(false,eval e X.env)::gy es X.env) Au) (hpl:autoParam ((iP pos (gy es X.env)).any (·.1)=false) Au) :
  PE X (.Call (.Name x p) (e::es) [] pos) (sU (rQ K) t):=hK ▸ nJ Qi hg hm hv ha hn hdb he hpl
end
def zP(x:Str):It:=⟨λi _=>i<x.cps.size,λi H v H'=>H'=H/\∃ c,x.cps[i]?=some c/\v=.str ⟨#[c]⟩,λi _=>i=x.cps.size⟩
variable{tg:Expr}{x:Str}
theorem F5{K:bY}{it:Addr}{n:String}{St:Nat->Heap->Prop}(hn:["enumerate","zip","dict_itemiterator","dict_reverseitemiterator","odict_iterator","itertools.zip_longest","itertools.pairwise"].contains n=false)
  (hst:∀ i h,St i h->∃ o vs,h.get? it=some o/\o.cls=.type n/\o.data=.fields vs) (mk:∀ A:iM,A.handled=none->Walks P w A it [it] [it] x.cps.size (SignAt x) St)
  (hself:∀(A:iM)(i:Nat)(s:b8)(Q:bV->b8->Prop)(E:bV->b8->Prop),St i s.heap->Q (.ref it) s->gu (gx P w) A (pyIter (.ref it)) Q E s):Turn P w K tg (zP x) [it] it St where
 mem:=by simp
 obj:=λi h f b hb=>by
  obtain rfl:b=it:=by simpa using hb
  let(o,vs,e,_,d):=hst i h f;show(o,e,λv z=>by rw[d]at z;cases z)
 keep:=λi h g f k=>(mk {} rfl).frame i h g f λb hb o e=>k b hb o e
 item:=by
  intro X F B hK D i a s σ H E I l f r;subst F B hK;let(m,q,S,t,G,L):=l it (by simp);show(mk X.A (I.ok.hd D)).item i s _ _ r f λv g p R j C=>?_;let(c,u,J,rfl):=R;have I1:Inv X a σ H { s with heap:=g,toks:=p }:=I.turned (λb o hb e=>C b o (by simpa using hb) e) m q t G L;let(o,vs,N,M,O):=hst _ _ j;show(_,rfl,oU (s:={ s with heap:=g,toks:=p }) N M O hn ⟨.str ⟨#[c]⟩,H,I1,⟨u,rfl⟩,⟨rfl,c,J,rfl⟩,j,λb hb=>(l b hb).1⟩)
 done:=by
  intro X F B hK D i a s σ H E I l f r;subst F B hK;let(m,q,S,t,G,L):=l it (by simp);have y:i=x.cps.size:=r;subst y;show(mk X.A (I.ok.hd D)).done s _ _ f λg p C=>⟨rfl,I.turned (λb o hb e=>C b o (by simpa using hb) e) m q t G L⟩
 self:=hself
variable{X:Cx}
def xH(tl:TE):TI:=λσ H R=>tl σ H λx H1=>∃ z,x=.str z/\R (zP z) H1
theorem EY{l:Expr}{tl:TE}(hl:PE X l tl):PI X tg l (xH tl):=λf s σ H R I h=>by
 show jl (hl f s σ H _ I h) λv d ζ=>?_;let(x,p,I1,r,z,u,q):=ζ;subst u;let(t,rfl):=r;have key:∀(n:String),(n="str_ascii_iterator"\/n="str_iterator")->Aj X f σ tg R (.ref d.heap.objs.size) { d with heap:=d.heap.push { cls:=.type n,data:=.fields #[.str z t, .int 0 0] } }:=λn m=>by
  have k:Turn X.prog X.w X.K tg (zP z) [d.heap.objs.size] d.heap.objs.size (λi h=>h.IsStrIter d.heap.objs.size n z t i):=by
   rcases m with rfl | rfl
   .show F5 (n:="str_ascii_iterator") ⋯ (λi h g=>let⟨o,a,b,c⟩:=g;⟨o,_,a,b,c⟩) (λA j=>Walks.strAscii j _ z t) λA i s Q E g q=>wpAny_pyIter_striter_ascii g q
   .show F5 (n:="str_iterator") ⋯ (λi h g=>let⟨o,a,b,c⟩:=g;⟨o,_,a,b,c⟩) (λA j=>Walks.strWide j _ z t) λA i s Q E g q=>wpAny_pyIter_striter_wide g q
  show(d.heap.objs.size,[d.heap.objs.size],_,_,p,rfl,I1.kept (t':=d.toks) λb o e=>bW _ e,k,⟨_,ck _ rfl,rfl,rfl⟩,λb hb=>?_,q);obtain rfl:b=d.heap.objs.size:=by simpa using hb
  show I1.fpOk (cB _) (I1.hok.fresh (cB _))
 cases ha:z.cps.all (· < 128)
 .show wpAny_pyIter_wide ha (key _ (.inr rfl))
 .show wpAny_pyIter_ascii ha (key _ (.inl rfl))
abbrev Cx.inc(X:Cx)(N':List Str)(scope:Scope)(cl:List (Str × Addr))(fp:List Addr)(s2:b8)(H2:Hp)(C:Addr):Cx :=
 { X with N:=N',s₀:=s2,H₀:=H2,env:=compEnvC scope cl C X.env,outer:=X.stack,ex:=fp,fn:=λ_=>false,pn:=[],xe:=λ_ _=>False }
variable{pins:List (Addr × Obj)}{H2:Hp}{s2:b8}{N':List Str}{cl:List (Str × Addr)}{fp:List Addr}{C:Addr}
theorem Inv.incOk(I:Inv X pins σ H2 s2)(hf:∀ b∈fp,oi X pins H2 b)(hfp:∀ b∈fp,b<s2.heap.objs.size)(hk:scope.kind=.function)(hC:s2.heap.objs.size<=C)(hcl:∀ x c,cl.lookup x=some c->X.env.cells.lookup x=some c)
  (hhas:∀ y,((jf scope X.env).names.lookup y=some .cell\/(jf scope X.env).names.lookup y=some .free)->∃ c,cl.lookup y=some c):(X.inc N' scope cl fp s2 H2 C).Ok where
 mod:=I.ok.mod
 kind:=hk
 glob:=I.ok.glob
 blt:=I.ok.blt
 above:=hC
 inj:=λx y c g f=>I.ok.inj x y c (hcl x c g) (hcl y c f)
 has:=λy d=>hhas y d
 cab:=λx c h=>by cases h
 hd:=I.ok.hd
 frames:=I.ok.frames
 stk:=.inl rfl
 exf:=λb hb=>⟨cq (gv (hfp b hb) hC),λx c e=>(hf b hb).2.2.2.2.1 x c (hcl x c e)⟩
 bs:=I.bs
 bsz:=g0 I.ok.bsz I.sz
 noex:=λb o e hb=>by
  rcases(hf b hb).2.2.2.1 with z | z
  .show I.ok.noex b o e z
  .show absurd (gv (gv (b9 e) I.ok.bsz) z) (il _)
 exfs:=λb hb a=>by
  rcases gW.mp (I.stkSub b a)with z | z
  .show(hf b hb).2.1 z
  .show(hf b hb).2.2.1 z
 funs:=I.stack
 frf:=I.stkFree
def n8(cs:List (Nat × Str))(σ : St):St:=cs.map λp=>(σ[p.1]?).join
variable{s4:b8}
theorem Inv.capsLoc{m:Str->Option bV}{own:List Str}{cs:List (Nat × Str)}(I:Inv X pins σ H2 s2)(ok:(X.inc (own++cs.map (·.2)) scope cl fp s2 H2 C).Ok)(kept:∀ c v,(∃ x,cl.lookup x=some c)->s2.heap.IsCell c v->s4.heap.IsCell c v)
  (hcl:∀ x c,cl.lookup x=some c->X.env.cells.lookup x=some c) (hcs:∀ p∈cs,X.N[p.1]?=some p.2/\X.env.scope.names.lookup p.2=some .cell/\(jf scope X.env).names.lookup p.2=some .cell) :
  ∀(i:Nat)(x:Str)(v:V),(own++cs.map (·.2))[i]?=some x->(gB own.length none++n8 cs σ)[i]?=some (some v)->∃ u,RelV v u/\Look (compEnvC scope cl C X.env) s4.heap m x u:=λi x v r e=>by
  by_cases j:i<own.length
  .rw[gZ (by simpa using j),jv,if_pos j]at e;cases e
  .have b:(n8 cs σ)[i-own.length]?=some (some v):=by rw[gU (by simp;ac_nf)]at e;simpa using e
   have a:(cs.map (·.2))[i-own.length]?=some x:=by
    rwa [gU ∅]at r
   unfold n8 at b;rw[gG]at a b;cases q:cs[i-own.length]? with
   | none=>rw[q]at a;cases a
   | some p=>
    rw[q]at a b;obtain rfl:p.2=x:=by simpa using a
    have d:(σ[p.1]?).join=some v:=by simpa using b
    have g : σ[p.1]?=some (some v):=by
     cases z : σ[p.1]? with
     | none=>rw[z]at d;cases d
     | some o=>rw[z]at d;show congrArg some d
    let(s,l,h):=hcs p (kL q);let(w,_,n):=I.loc;let(u,t,lk):=n p.1 p.2 v s g (.inr (.inl l));show(u,t, .inr ⟨.inl h,?_⟩);let(c,f):=ok.has p.2 (.inl h);show(c,f,?_);rcases lk with⟨k,_⟩ | ⟨_,c',e',hcell⟩
    .have k:X.env.scope.names.lookup p.2=some .local:=k;rw[l]at k;cases k
    .rw[hcl _ _ f]at e';cases e';show kept _ _ ⟨_,f⟩ hcell
theorem Inv.incStart{m:Str->Option bV}{own:List Str}{cs:List (Nat × Str)}(I:Inv X pins σ H2 s2)(ok:(X.inc (own++cs.map (·.2)) scope cl fp s2 H2 C).Ok)(kept:∀ b o,s2.heap.get? b=some o->s4.heap.get? b=some o)(hos:s4.os=s2.os)(hg:s4.gens=s2.gens)(hm:s4.heap.Ns C m)
  (hC:s2.heap.objs.size<=C) (hcl:∀ x c,cl.lookup x=some c->X.env.cells.lookup x=some c)
  (hcs:∀ p∈cs,X.N[p.1]?=some p.2/\X.env.scope.names.lookup p.2=some .cell/\(jf scope X.env).names.lookup p.2=some .cell) :
  Inv (X.inc (own++cs.map (·.2)) scope cl fp s2 H2 C) [] (gB own.length none++n8 cs σ) H2 s4 where
 ok:=ok
 os:=hos
 bare:=by rw[hg];show I.bare
 base:=Un.kept kept
 loc:=⟨m,hm,λi x v g f _=>I.capsLoc (m:=m) ok (λc v _ ⟨o,a,d⟩=>⟨o,kept _ _ a,d⟩) hcl hcs i x v g f⟩
 cell:=λx c e=>by
  let(v,o,a,d):=I.cell x c (hcl x c e);show(v,o,kept _ _ a,d)
 free:=I.hok.fresh hC
 freeC:=λx c e=>I.freeC x c (hcl x c e)
 pin:=λp h=>by simp at h
 hok:=I.hok.kept kept
 len:=by simp[n8]
theorem Inv.incAgain{s':b8}{H':Hp}{σ':St}{pl:List (Addr × Obj)}{own:List Str}{cs:List (Nat × Str)}(I:Inv X pins σ H2 s2)(J:Inv (X.inc (own++cs.map (·.2)) scope cl fp s2 H2 C) pl σ' H' s')
  (hf:∀ b∈fp,oi X pins H2 b) (hcl:∀ x c,cl.lookup x=some c->X.env.cells.lookup x=some c) (hcs:∀ p∈cs,X.N[p.1]?=some p.2/\X.env.scope.names.lookup p.2=some .cell/\(jf scope X.env).names.lookup p.2=some .cell) :
  Inv (X.inc (own++cs.map (·.2)) scope cl fp s2 H2 C) [] (gB own.length none++n8 cs σ) H' s' where
 ok:=J.ok
 os:=J.os
 bare:=J.bare
 base:=J.base
 loc:=by
  let(m,a,_):=J.loc;show(m,a,λi x v h g _=>I.capsLoc (m:=m) J.ok (λc v ⟨x,hx⟩ ⟨o,d,e⟩=>?_) hcl hcs i x v h g);have f:c∉fp:=λz=>(hf c z).2.2.2.2.1 x c (hcl x c hx) rfl;by_cases a:c∈ll X.stack
  .let(k,z):=J.base.slot c o d (I.freeC x c (hcl x c hx)) a f;show(_,z,e)
  .show(o,J.base.keep c o d (I.freeC x c (hcl x c hx)) a f,e)
 cell:=J.cell
 free:=J.free
 freeC:=J.freeC
 pin:=λp j=>by simp at j
 hok:=J.hok
 len:=by simp[n8]
variable{prog:gN}{E:bV->b8->Prop}{R:Result->b8->Prop}{elt iter:Expr}{ifs:List Expr}{pos:Pos}
theorem NL{target:Expr}{it acc:bV}{env:Env}(J:Nat->b8->Prop)
  (turn:∀ n s,J n s->gu (gx prog w) A (pyNext it) (λr s1=>match r with
   | none=>R (.ok .next) s1
   | some v=>gu (gx prog w) A (mT target it v) (λ_ s2=>gu (gx prog w) A (assign target env v) (λ_ s3=>gu (gx prog w) A (forIn ifs true λc r=>if r=true then do let ok <- isTrue c env (eval c env);pure (ForInStep.yield ok)else pure (ForInStep.yield r)) (λb s3'=>if b=true then gu (gx prog w) A (eval elt env) (λx s4=>
     gu (gx prog w) A (call (.builtin "list.append") [acc,x]) (λ_ s5=>∃ m,m<n/\J m s5) (λ_ _=>False) s4) (λ_ _=>False) s3' else∃ m,m<n/\J m s3') (λ_ _=>False) s3) (λ_ _=>False) s2) (λ_ _=>False) s1) (λ_ _=>False) s) (n:Nat) (h:J n s) :
  kl (gx prog w) A (.compLoop (.ListComp elt [⟨target,iter,ifs,0⟩] scope pos) 0 it acc env) R s:=by
 show codeAny_loop rfl J (λn s g=>?_) n h;show gu _ A ((compTurn (.ListComp elt [⟨target,iter,ifs,0⟩] scope pos) 0 it acc env).onRaise (λy=>do nj y env;theTreesLotGoes y)) _ _ s
 (show wpAny_noted ?_;rw[compTurn_list])
 show bO (wpAny_standAt (bO (gJ (turn n s g) (λr s1 d=>?_) λ_ _ z=>z.elim)));cases r with
 | none=>show gw d
 | some v=>
  show bO (gJ d (λ_ s2 e=>bO (gJ e (λ_ s3 i=>?_) λ_ _ z=>z.elim)) λ_ _ z=>z.elim);show bO (gJ i (λb s3' a=>?_) λ_ _ z=>z.elim);cases b with
  | true=>show bO (bO (gJ a (λx s4 j=>(bO (gJ j (λ_ s5 f=>(gw (gw ⟨rfl,f⟩))) λ_ _ z=>z.elim))) λ_ _ z=>z.elim))
  | false=>show bO (gw (gw ⟨rfl,a⟩))
def qF(k:Nat)(cs:List (Nat × Str))(wi:TI)(g:TG)(te:TE):TE:=λσ H Q=>wi σ H λJ H1=>∃ W:Nat->Nat->List V->Hp->Prop,(∃ m,W 0 m [] H1)/\∀ i m ys H2,W i m ys H2->ys.length<=sizeLine /\
  ((J.stop i H2/\∀ p,H2 p=none->Q (.ref p) (upd H2 p (.lst ys))) \/
   (J.go i H2/\∀ x H3,J.yld i H2 x H3->g x (gB k none++n8 cs σ) H3 λσ4 H4=>te σ4 H4 λy H5=>∃ m',m'<m/\W (i+1) m' (ys++[y]) H5))
theorem lstP{us:List bV}{v:bV}:(us.toArray.push v)=(us++[v]).toArray:=by simp
def ve(k:Nat)(cs:List (Nat × Str))(wi:TI)(g:TG)(tt:TT)(te:TE):TE:=λσ H Q=>wi σ H λJ H1=>∃ W:Nat->Nat->List V->Hp->Prop,(∃ m,W 0 m [] H1)/\∀ i m ys H2,W i m ys H2->ys.length<=sizeLine /\
  ((J.stop i H2/\∀ p,H2 p=none->Q (.ref p) (upd H2 p (.lst ys))) \/
   (J.go i H2/\∀ x H3,J.yld i H2 x H3->g x (gB k none++n8 cs σ) H3 λσ4 H4=>tt σ4 H4 λb H5=>if b=true then te σ4 H5 λy H6=>∃ m',m'<m/\W (i+1) m' (ys++[y]) H6 else∃ m',m'<m/\W (i+1) m' ys H5))
def uY(X:Cx)(ifs:List Expr)(t:TT):Prop :=
 ∀(pins:List (Addr × Obj))(s:b8)(σ : St)(H:Hp)(Q:Bool->Hp->Prop),Inv X pins σ H s->t σ H Q->gu (gx X.prog X.w) X.A (forIn ifs true λc r=>if r=true then do let ok <- isTrue c X.env (eval c X.env);pure (ForInStep.yield ok)else pure (ForInStep.yield r)) (TP X pins σ Q) X.xe s
def tYes:TT:=λ_ H Q=>Q true H
theorem qh:uY X [] tYes:=λ_ _ _ H _ I h=>wpAny_tests_nil ⟨H,I,h⟩
theorem AK{c:Expr}{t:TT}(h:PT X c t):uY X [c] t:=λa s σ H Q I b=>wpAny_tests_one (h a s σ H Q I b)
theorem GC{own:List Str}{cs:List (Nat × Str)}{g:TG}{te:TE}{tt:TT}{it:Addr}{tn:Nat->Heap->Prop}{J:It}
  {W:Nat->Nat->List V->Hp->Prop} {m0:Nat} {QN:List V->Hp->Prop} {RR:bV->Addr->Result->b8->Prop} {E:bV->b8->Prop} (hc:X.calm=true)
  (hg:∀ fp s2 H2 C,PG (X.inc (own++cs.map (·.2)) scope cl fp s2 H2 C) tg g) (ht:∀ fp s2 H2 C,uY (X.inc (own++cs.map (·.2)) scope cl fp s2 H2 C) ifs tt) (he:∀ fp s2 H2 C,PE (X.inc (own++cs.map (·.2)) scope cl fp s2 H2 C) elt te)
  (hcell:∀ y∈scope.names,y.2≠.cell) (hkind:scope.kind=.function)
  (hcl:∀ x c,cl.lookup x=some c->X.env.cells.lookup x=some c) (hhas:∀ y,((jf scope X.env).names.lookup y=some .cell\/(jf scope X.env).names.lookup y=some .free)->∃ c,cl.lookup y=some c)
  (hcs:∀ p∈cs,X.N[p.1]?=some p.2/\X.env.scope.names.lookup p.2=some .cell/\(jf scope X.env).names.lookup p.2=some .cell)
  (I2:Inv X pins σ H2 s2) (T:Turn X.prog X.w X.K tg J fp it tn) (st2:tn 0 s2.heap) (f2:∀ b∈fp,oi X pins H2 b) (w0:W 0 m0 [] H2)
  (turn:∀ i m ys H2,W i m ys H2->ys.length<=sizeLine/\((J.stop i H2/\QN ys H2)\/(J.go i H2/\∀ x H3,J.yld i H2 x H3->g x (gB own.length none++n8 cs σ) H3 λσ4 H4=>tt σ4 H4 λb H5=>if b=true then te σ4 H5 λy H6=>∃ m',m'<m/\W (i+1) m' (ys++[y]) H6 else∃ m',m'<m/\W (i+1) m' ys H5)))
  (hRR:∀(D C:Addr)(s6:b8)(H5:Hp)(ys:List V),(∀ h7,jC C s6.heap h7->Inv X pins σ (upd H5 D (.lst ys)) { s6 with heap:=h7 })->H5 D=none->H5 C=none->D≠C->(∃ m,s6.heap.Ns C m)->s2.heap.objs.size<=C->QN ys H5->RR (.ref D) C (.ok .next) s6) :
  gu (gx X.prog X.w) X.A (newList []) (λacc s₃=>gu (gx X.prog X.w) X.A (newFunctionEnv scope X.env.globals cl [] X.env.qual none .none (some X.env)) (λcenv s₄=>
   kl (gx X.prog X.w) X.A (.compStart (.ListComp elt [⟨tg,iter,ifs,0⟩] scope pos) 0 (.ref it) acc { cenv with scope:=jf scope X.env }) (RR acc cenv.locals) s₄) E s₃) E s2:=by
 have I:∀ b∈fp,b<s2.heap.objs.size:=λb hb=>by
  let(o,e,_):=T.obj _ _ st2 b hb;show b9 e
 show kO (wpAny_newFunctionEnv hcell (by intro y hy;simp at hy) (λh4 l j=>?_) hkind);dsimp only at l j ⊢;generalize hH3:s2.heap.push { cls:=.type "list",dict:=none,data:=.seq ([]:List bV).toArray }=H3 at l j ⊢;have a5:H3.objs.size=s2.heap.objs.size+1:=by rw[<- hH3,iD]
 have Z:s2.heap.objs.size<=H3.objs.size:=by ac_nf
 have k:s2.heap.objs.size≠H3.objs.size:=by ac_nf
 have Y:∀ b o,s2.heap.get? b=some o->h4.get? b=some o:=λb o e=>j.extBut b o (by have:=b9 e;show cq (gv this Z)) (bW _ (hH3 ▸ bW _ e));have a3:h4.get? s2.heap.objs.size=some { cls:=.type "list",data:=.seq ([]:List bV).toArray }:=j.extBut _ _ k (bW _ (hH3 ▸ ck _ rfl));obtain⟨D,f⟩:∃ D,D=s2.heap.objs.size:=⟨_,rfl⟩;obtain⟨C,b5⟩:∃ C,C=H3.objs.size:=⟨_,rfl⟩;rw[<- b5]at a5 l j Z k ⊢;rw[<- f]at I a5 Z k a3 ⊢;have H:=I2.incOk (N':=own++cs.map (·.2)) (C:=C) f2 (λb hb=>by rw[<- f];show I b hb) hkind (by rw[<- f];show Z) hcl hhas;have I4:Inv (X.inc (own++cs.map (·.2)) scope cl fp s2 H2 C) [] (gB own.length none++n8 cs σ) H2 { s2 with heap:=h4,toks:=s2.toks+([]:List (Str × bV)).length } :=
  I2.incStart (s4:={ s2 with heap:=h4,toks:=s2.toks+([]:List (Str × bV)).length }) H Y rfl rfl l (by rw[<- f];show Z) hcl hcs
 have Dfree:H2 D=none:=I2.hok.fresh (mJ f.symm);have G:∀ b o,s2.heap.get? b=some o->b≠D:=λb o e=>by
  rw[f];show cq (b9 e)
 have b2:∀ b o,s2.heap.get? b=some o->b≠C:=λb o e=>cq (gv (by rw[f];show b9 e) Z);have Dfs:D∉ll X.stack:=λhm=>by
  let(_,o,e,_):=I2.stack.mem hm;show G _ _ e rfl
 have t:∀{σ':St}{H':Hp}{s':b8}{us:List bV}{n:Nat}{pl:List (Addr × Obj)},Inv (X.inc (own++cs.map (·.2)) scope cl fp s2 H2 C) pl σ' H' s'->s'.heap.get? D=some { cls:=.type "list",data:=.seq us.toArray n }->H' D=none ->
   Inv (X.inc (own++cs.map (·.2)) scope cl fp s2 H2 C) [(D,{ cls:=.type "list",data:=.seq us.toArray n })] σ' H' s':=λ{σ' H' s' us n pl} J' e n'=>J'.pins_of λp R=>by
  rcases i7.mp R with rfl
  show(e,n',k,Dfs,λv z=>by cases z)
 have B:∀{H':Hp}{o:Obj},(∀ b∈fp,H' b=none)->∀ b∈fp,oi (X.inc (own++cs.map (·.2)) scope cl fp s2 H2 C) [(D,o)] H' b:=λ{H' o} hn b hb=>by
  show(hn b hb,(H.exf b hb).1,H.exfs b hb, .inl hb,(H.exf b hb).2,λp R=>?_);rcases i7.mp R with rfl
  show hB (I b hb)
 have O:∀ s3:b8,s3={ s2 with heap:=h4,toks:=s2.toks+([]:List (Str × bV)).length } ->
   kl (gx X.prog X.w) X.A (.compLoop (.ListComp elt [⟨tg,iter,ifs,0⟩] scope pos) 0 (.ref it) (.ref D) (compEnvC scope cl C X.env)) (RR (.ref D) C) s3:=by
  rintro s3 rfl;show NL (λn s'=>∃ i ys us M H',Inv (X.inc (own++cs.map (·.2)) scope cl fp s2 H2 C) [(D,{ cls:=.type "list",data:=.seq us.toArray M })] (gB own.length none++n8 cs σ) H' s'/\tn i s'.heap/\(∀ b∈fp,H' b=none)/\Vals ys us/\W i n ys H') ?_ m0
   ⟨0,[],[],0,H2,t (us:=[]) (n:=0) I4 a3 Dfree,T.keep _ _ _ st2 λb hb o e=>Y b o e,λb hb=>(f2 b hb).1, .nil,w0⟩
  intro n s5 z_;let(i,ys,us,M,H5,I5,a6,a2,vy,w5):=z_;obtain⟨hz,⟨stop,qn⟩ | ⟨go,a7⟩⟩:=turn i n ys H5 w5
  .show gJ (T.done (X.inc (own++cs.map (·.2)) scope cl fp s2 H2 C) rfl rfl rfl hc i _ s5 _ H5 (λ_ _=>False) I5 (B a2) a6 stop) (λr s6 z=>?_) λ_ _ z=>z;let(rfl,I6):=z;let(m6,b0,_):=id I6.loc;let(pD,S,_,_,_):=I6.pin (D,{ cls:=.type "list",data:=.seq us.toArray M }) (by simp);have Cfree:H5 C=none:=I6.free;show hRR D C s6 H5 ys (λh7 b4=>?_) S Cfree k ⟨m6,b0⟩ (by rw[<- f];show Z) qn;have h:∀ b,b≠C->h7.get? b=s6.heap.get? b:=λb hb=>b4.2 b hb;have a0:=b2;have u7:Un (ll X.stack) fp H2 H5 s2.heap h7:=⟨λb o e n1 n2 n3=>(h b (a0 b o e)).trans (I6.base.keep b o e n1 n2 n3),λb o e n1 n2 n3=>by
     let(sl,z):=I6.base.slot b o e n1 n2 n3;show(sl,(h b (a0 b o e)).trans z),I6.base.free,λb o e n1=>by
     let(o',z):=I6.base.there b o e n1;show(o',(h b (a0 b o e)).trans z),I6.base.tups,I6.base.frzs,I6.base.tbls⟩
   have a4:ni X.prog X.w H5 h7:=λa o e=>by
    show(I6.hok a o e).stay (λc v a9 q=>(h c ?_).trans q) (λ_ q=>q) λ_ _ q=>q;rintro rfl;rcases a9 with z | z
    .rw[<- z]at e;rw[Cfree]at e;cases e
    .rw[Cfree]at z;cases z
   have I7:Inv X pins σ H5 { s6 with heap:=h7 }:=I2.call' (s':={ s6 with heap:=h7 }) I6.os u7 a4 I6.bare λb hb=>⟨(f2 b hb).2.2.2.1,(f2 b hb).2.1,(f2 b hb).2.2.2.2.1,(f2 b hb).2.2.2.2.2⟩;show I7.track (a:=D) (o:=.lst ys) S (i3 (by rw[f];show I2.sz)) (by rw[f];show hB I2.lt) (λx c e z=>by
     let(v,o,ho,_):=I2.cell x c e;show G _ _ ho z) (λp R z=>G _ _ (I2.pin p R).1 z) ⟨hz,us,M,vy,(h D k).trans pD⟩
  .show gJ (T.item (X.inc (own++cs.map (·.2)) scope cl fp s2 H2 C) rfl rfl rfl hc i _ s5 _ H5 (λ_ _=>False) I5 (B a2) a6 go) (λr s6 z=>?_) λ_ _ z=>z;let(u,rfl,z):=z;show gJ z (λ_ s7 ζ=>?_) λ_ _ z=>z;let(x,H7,I7,r7,y7,F,b3):=ζ;have I7':=I7.pinned (B b3) (T.obj _ _ F);show gJ (hg fp s2 H2 C _ s7 _ H7 x u _ I7' r7 (a7 x H7 y7)) (λ_ s8 ⟨σ8,H8,I8,q8⟩=>?_) λ_ _ z=>z;show gJ (ht fp s2 H2 C _ s8 σ8 H8 _ I8 q8) (λbb U ⟨L,I8',a8⟩=>?_) λ_ _ z=>z;cases bb with
   | true=>
    show gJ (he fp s2 H2 C _ U σ8 L _ I8' a8) (λuy s9 ζ=>?_) λ_ _ z=>z;let(y,H9,I9,r9,m',a1,w9):=ζ;let(pD,S,_,_,_):=I9.pin (D,{ cls:=.type "list",data:=.seq us.toArray M }) (by simp);show append_at (its:=us.toArray) (n:=M) pD (λb1 P Q=>?_) (by rw[gF, <- vy.length];show hz);have d:∀ b∈fp, ∀ o,s7.heap.get? b=some o->s9.heap.get? b=some o/\H9 b=none:=λb hb o e=>by
     have z:=I9.pin (b,o) (hG _ (hG _ (wG hb e)));show(z.1,z.2.1)
    have I9':Inv (X.inc (own++cs.map (·.2)) scope cl fp s2 H2 C) [] (gB own.length none++n8 cs σ) H9 s9:=I2.incAgain I9 f2 hcl hcs;have I10:Inv (X.inc (own++cs.map (·.2)) scope cl fp s2 H2 C) [] (gB own.length none++n8 cs σ) H9 { s9 with heap:=b1 }:=I9'.turned (it:=D) (t':=s9.toks) (λb o hb e=>(P.2 b hb).trans e) S k (.inr (mJ f.symm)) (λx c e z=>by
      let(v,o,ho,_):=I2.cell x c (hcl x c e);show G _ _ ho z) λp R=>by simp at R
    rw[lstP]at Q;show(m',a1,i+1,ys++[y],us++[uy],M+1,H9,t I10 Q S,T.keep _ _ _ F λb hb o e=>?_,λb hb=>?_,vy.append (.cons r9 .nil),w9)
    .show(P.2 b (cq (I b hb))).trans (d b hb o e).1
    .let(o,e,_):=T.obj _ _ F b hb;show(d b hb o e).2
   | false=>
    let(m',a1,w9):=a8;let(pD,S,_,_,_):=I8'.pin (D,{ cls:=.type "list",data:=.seq us.toArray M }) (by simp);have d:∀ b∈fp, ∀ o,s7.heap.get? b=some o->U.heap.get? b=some o/\L b=none:=λb hb o e=>by
     have z:=I8'.pin (b,o) (hG _ (hG _ (wG hb e)));show(z.1,z.2.1)
    have I9':Inv (X.inc (own++cs.map (·.2)) scope cl fp s2 H2 C) [] (gB own.length none++n8 cs σ) L U:=I2.incAgain I8' f2 hcl hcs;show(m',a1,i+1,ys,us,M,L,t I9' pD S,T.keep _ _ _ F λb hb o e=>(d b hb o e).1,λb hb=>?_,vy,w9);let(o,e,_):=T.obj _ _ F b hb;show(d b hb o e).2
 show codeAny_compStart_list (O _ rfl) (T.self _ 0 _ _ _ (T.keep _ _ _ st2 λb hb o e=>Y b o e) (O _ rfl))
def sY(K:bY):R2:=λx y H Q=>match x,y with
 | .str i, .str j=>Q (.bl (!(jR j i 0 j.length 1).isEmpty)) H
 | x,y=>vK K false x y H Q
theorem Az:mX X (ib .In) (sY X.K):=λa s σ H x y v u Q I c b q=>by
 unfold sY at q;split at q
 .show Nh a s σ H _ _ v u Q I c b ⟨_,_,rfl,rfl,q⟩
 .show Ni a s σ H _ _ v u Q I c b q
theorem EZ{K:bY}(hK:X.K=K):mX X (ib .In) (sY K):=hK ▸ Az
theorem rY{K:bY}(hK:X.K=K):wQ X (qi K):=hK ▸ ix_U
theorem Jc{K:bY}(hK:X.K=K)(hu:X.A.units+64<lh):mX X (ib .Eq) (oR K):=hK ▸ mR hu
theorem all_range:∀ bs:List Bool,(gO bs.length).all (λi=>bs.getD i false)=bs.all id:=λbs=>by
 rw[mv];simp only[kq,List.mem_range,id];constructor
 .intro h x hx;let(i,a,rfl):=List.mem_iff_getElem.mp hx;have:=h i a;simpa[iw,a]using this
 .intro h i a;have:=h bs[i] (List.getElem_mem a);simpa[iw,a]using this
def xt(K:bY):List V->Hp->VK->Prop:=λxs H Q=>∃(p:Addr)(bs:List Bool),xs=[.ref p]/\jM K H p (bs.map V.bl)/\Q (.bl (bs.all id)) H
theorem Gh(hc:X.calm=true):ky X (.builtin "all") (xt X.K):=λj s σ H E L Q I r q=>by
 let(p,c,rfl,z,q):=q;let(a,g,f,M):=I.list z;let(u,rfl,D):=vals1 r;cases(show u=cf p from D);show call_all_walk (wpAny_pyIter_list f.isList ?_);have h:p<s.heap.objs.size:=by
  let(_,e,_):=f.isList;show b9 e
 show(s.heap.objs.size,_,_,a.toArray.size,_,_,λi=>c.getD i false,rfl,Walks.list (by show X.A.handled=none;show I.ok.hd hc) s.heap.objs.size p (cq h) a.toArray,⟨⟨_,ck _ rfl,rfl,rfl⟩,f.isList.push _⟩,?_,?_)
 .intro i v N Q' E' C t;have d:a[i]?=some v:=by simpa using C
  have n:i<c.length:=by
   let(J,_):=cb.mp d;have l:=g.length;rw[iz]at l;ac_nf
  let(G,m,w):=g.get (i:=i) (x:=.bl c[i]) (by simp[n]);rw[d]at m;cases m;cases(show v=ir c[i]from w);show j9 ?_;simpa[iw,n]using t
 .intro F o k;have l:=g.length;rw[iz]at l;have y:(gO a.toArray.size).all (λi=>c.getD i false)=c.all id:=by rw[gF, <- l];show all_range c
  rw[y];show(.bl _,H,I.kept (t':=o) λb B e=>k b B (by have:=b9 e;simp;show cq this) (bW _ e),rfl,q)
def rSlS:V->Option Int->Option Int->Hp->VK->Prop:=λx lo hi H Q=>∃ z,x=.str z/\z.length<=sizeLine/\Q (.str (Txt.slice z lo hi)) H
theorem Hy:tD X rSlS:=λb s σ H x v m n e g o Q I i hs f j h=>by
 let(z,rfl,c,q):=h;let(t,rfl):=i;show("str",_,F.slot_str_getitem.lookup,nv _ _ _,?_);have a:∀(d:Tok)(k:Nat),EP X b σ Q (.str (Txt.slice z e g) d) { s with toks:=k }:=λd k=>⟨.str _,H,I.tok k,⟨_,rfl⟩,q⟩;cases f <;> cases j
 .show lP (l:=none) (u:=none) (st:=none) hs rfl (post_val_or_str ⟨g0 (Txt.slice_le z _ _) c,a⟩)
 .show lP (l:=none) (u:=some (_,_)) (st:=none) hs rfl (post_val_or_str ⟨g0 (Txt.slice_le z _ _) c,a⟩)
 .show lP (l:=some (_,_)) (u:=none) (st:=none) hs rfl (post_val_or_str ⟨g0 (Txt.slice_le z _ _) c,a⟩)
 .show lP (l:=some (_,_)) (u:=some (_,_)) (st:=none) hs rfl (post_val_or_str ⟨g0 (Txt.slice_le z _ _) c,a⟩)
theorem hcs0:∀ p∈([]:List (Nat × Str)),X.N[p.1]?=some p.2/\X.env.scope.names.lookup p.2=some .cell/\(jf scope X.env).names.lookup p.2=some .cell:=λ_ h=>by simp at h
structure nB(P:gN)(w:ik)(K:bY)(mg:Str->Option bV)(base:Heap)(k:Nat)(x:Str)(C:Addr)(ps:List Str)(sp:Sp):Prop where
 ex:∃(f:Addr)(fd:iC),lJ P w K mg base (kU P w) k f fd ps sp/\mg x=some (.ref C)/\Mk K C f/\Binds K fd ps []
structure km(P:gN)(w:ik)(K:bY)(mg:Str->Option bV)(base:Heap)(k:Nat)(m:Str)(Cs:Addr->Prop)(ps:List Str)(sp:Sp):Prop where
 ex:∃(f:Addr)(fd:iC),lJ P w K mg base (kU P w) k f fd ps sp/\(∀ C,Cs C->Cls K C/\u5 K C m f)/\ki K (.ref f)=true/\Binds K fd ps []
def xU(Cs:Addr->Prop)(m:Str)(sp:Sp)(E:XK)(ta:TE)(t:TA):TE:=λσ H Q=>ta σ H λx H1=>∃ a C dx fs,x=.ref a/\H1 a=some (.ins C dx fs)/\Cs C/\fs.lookup m=none/\t σ H1 λvs H2=>sp (x::vs) H2 Q E
section
variable{k':Nat}{mn:Str}{Cs:Addr->Prop}{ps:List Str}{sp:Sp}{E:XK}{apos:Pos}{e o:Expr}{es:List Expr}{ta:TE}{k:Nat}{p:Pos}{t:TA}
theorem nB.ev(G:nB X.prog X.w X.K X.mg X.base k x C ps sp)(hr:ku k' X.A)(hk:k+1<=k')(hg:Gl X x)(hx:qb (kU X.prog X.w) X E)(ha:PA X (e::es) t)
  (hdb:autoParam ((x == ("__debug__" : Str))=false) Au) (he:autoParam (gy (e::es) X.env=(false,eval e X.env)::gy es X.env) Au) (hpl:autoParam ((iP pos (gy es X.env)).any (·.1)=false) Au) :
  PE X (.Call (.Name x p) (e::es) [] pos) (oP C sp [] E t):=by
 let(f,b,F,a,M,hb):=G.ex;show J2 M F (hr.mono hk) hg a hb .nil hx ha hdb he hpl
variable{pl:Sem Bool}
theorem km.m(G:km X.prog X.w X.K X.mg X.base k mn Cs ps sp)(hr:ku k' X.A)(hk:k<=k')(hx:qb (kU X.prog X.w) X E)(ho:PE X o ta)(ha:PA X (e::es) t)
  (hst:autoParam (gy (e::es) X.env=(false,eval e X.env)::gy es X.env) Au) (hpl:autoParam ((iP pos (gy es X.env)).any (·.1)=false) Au)
  (ht:autoParam (eval (.Call (.Attribute o mn apos) (e::es) [] pos) X.env=(do
   let ov <- eval o X.env
   standAt apos.atName
   let(f,first) <- holding [ov] (getMethod ov mn pl)
   callWith pos f first (iP pos (gy (e::es) X.env)) (backToKw pos (lS [] X.env)))) Au) :
  PE X (.Call (.Attribute o mn apos) (e::es) [] pos) (xU Cs mn sp E ta t):=by
 let(f,D,F,d,y,hb):=G.ex;intro b s σ H Q I h;show mH (pl:=pl) (jl (ho b s σ H _ I h) λu i ζ=>?_) ht;let(x,j,I1,p,a,C,L,B,v,n,c,l,q):=ζ;subst v;obtain rfl:u=cf a:=p;show zw I1 n (d C c).1 (d C c).2 l ?_;show W.callWith_K (first:=[.ref a]) (h₀:=X.base) I.ok.mod.kin y (jl (ha pos b i σ j _ I1 q) λus z ζ=>?_) hst hpl;let(vs,J,I2,r,g):=ζ;show(I2.kIn,?_);show Ao (us:=.ref a::us) (vs:=.ref a::vs) F (hr.mono hk) hb .nil hx I2 (.cons rfl r) (by simpa using g)
theorem km.m0(G:km X.prog X.w X.K X.mg X.base k mn Cs ps sp)(hr:ku k' X.A)(hk:k<=k')(hx:qb (kU X.prog X.w) X E)(ho:PE X o ta)
  (ht:autoParam (eval (.Call (.Attribute o mn apos) [] [] pos) X.env=(do
   let ov <- eval o X.env
   standAt apos.atName
   let(f,first) <- holding [ov] (getMethod ov mn pl)
   callWith pos f first (iP pos (gy [] X.env)) (backToKw pos (lS [] X.env)))) Au) :
  PE X (.Call (.Attribute o mn apos) [] [] pos) (xU Cs mn sp E ta tNil):=by
 let(f,r,F,d,m,hb):=G.ex;intro b s σ H Q I h;show mH (pl:=pl) (jl (ho b s σ H _ I h) λu p ζ=>?_) ht;let(x,e,I1,i,a,C,t,n,j,g,c,l,q):=ζ;subst j;obtain rfl:u=cf a:=i;show zw I1 g (d C c).1 (d C c).2 l ?_;show W.callWith_K0 (first:=[.ref a]) I1.kIn m (Ao (us:=[.ref a]) (vs:=[.ref a]) F (hr.mono hk) hb .nil hx I1 (.cons rfl .nil) (show sp ([.ref a]++[]) e Q E from q))
def rMulS:R2:=λx y H Q=>match x,y with
 | .str z, .int n=>0<n/\n<1000/\z.length<=1000/\∀ z':Str,z'.cps.toList=(gB n.toNat z.cps.toList).flatten->Q (.str z') H
 | x,y=>rMulU x y H Q
theorem Bj:∀(l:List (Array Nat))(acc:Array Nat),(l.foldl (· ++ ·) acc).toList=acc.toList++(l.map (·.toList)).flatten
 | [],acc=>by simp
 | x::l,acc=>by
  rw[List.foldl_cons,Bj l];simp
theorem FA:mX X (kb .Mult) rMulS:=λa s σ H x y v u Q I d b q=>by
 unfold rMulS at q;split at q
 .rename_i z n;let(g,k,h,q):=q;let(t,rfl):=d;let(j,rfl):=b;have i:z.cps.size=z.length:=rfl;have f:z.length*n.toNat<=1000*1000:=Nat.mul_le_mul h ∅;show PySem.P.mul_str (by simp;ac_nf) (λ_ _=>?_) (λ_ _=>?_) ?_
  .have : (1000:Int)<=(2 ^ 63-1)/n:=by
    rw[Int.le_ediv_iff_mul_le g];ac_nf
   ac_nf
  .unfold Builtin.Str.tooLong;simp;have : (1000*1000:Nat)<=sizeLine:=by decide
   ac_nf
  .rw[if_neg ∅];split
   .rename_i c;show(.str z,H,I,⟨_,rfl⟩,q z ?_);rcases iR _ _ |>.mp c with c | c
    .obtain rfl:n=1:=by simpa using c
     simp
    .have e:z.cps.toList=[]:=by
      have : z.length=0:=by simpa using c
      show List.eq_nil_of_length_eq_zero (by rw[jy];show this)
     rw[e];simp
   .show(?_, .str _,H,I.tok _,⟨_,rfl⟩,q _ ?_)
    .show(Array.size _)<=sizeLine;rw[<- jy,Bj];simp;have : (1000*1000:Nat)<=sizeLine:=by decide
     rw[Nat.mul_comm,i];ac_nf
    .rw[Bj];simp
 .show Jl a s σ H _ _ v u Q I d b q
def rIsN:R2:=λx y H Q=>y=.non/\Q (.bl (decide (x=.non))) H
def rNotN:R2:=λx y H Q=>y=.non/\Q (.bl (!decide (x=.non))) H
theorem qr:mX X (ib .Is) rIsN:=Ja
theorem wF:mX X (ib .IsNot) rNotN:=Jk
def Ej(K:bY):List V->Hp->VK->Prop:=λxs H Q=>∃ p ys,xs=[.ref p]/\(jM K H p ys\/mQ K H p ys)/\∀ l,H l=none->Q (.ref l) (upd H l (.lst ys))
theorem GG:ky X (.type "list") (Ej X.K):=Pk
end
section
variable{K:bY}{x:V}
theorem Joq:rIsN x .non H Q=Q (.bl (decide (x=.non))) H:=by simp[rIsN]
theorem Jl7:rNotN x .non H Q=Q (.bl (!decide (x=.non))) H:=by simp[rNotN]
variable{sp:Sp}{E:XK}
theorem Jl3{dvs:List V}{t:TA}:oP C sp dvs E t σ H Q=t σ H λvs H1=>∀ x dx,H1 x=none->H1 dx=none->dx≠x->sp (.ref x::(vs++dvs)) (upd (upd H1 dx (.own x)) x (.ins C dx [])) (λv H2=>v=.non/\Q (.ref x) H2) E:=rfl
theorem JjF{Cs:Addr->Prop}{mn:Str}{ta:TE}{t:TA}:xU Cs mn sp E ta t σ H Q=ta σ H λx H1=>∃ a C dx fs,x=.ref a/\H1 a=some (.ins C dx fs)/\Cs C/\fs.lookup mn=none/\t σ H1 λvs H2=>sp (x::vs) H2 Q E:=rfl
theorem rd_bm{T:String}{r:V->List V->Hp->VK->Prop}{to:TE}{t:TA}:yC K T r to t σ H Q=to σ H λx H1=>uC K T x H1/\t σ H1 λvs H2=>r x vs H2 Q:=rfl
variable{R:St->Hp->Prop}
theorem Jh4{g:TG}{gs:rk}{v:V}{r:List V}:qI g gs (v::r) σ H R=g v σ H λσ' H'=>gs r σ' H' R:=by
 unfold qI;show propext ⟨λ⟨a,b,e,h⟩=>?_,λh=>⟨v,r,rfl,h⟩⟩;cases e;show h
theorem JjD:gNil [] σ H R=R σ H:=by unfold gNil;simp
def nonD:D->Bool
 | .non=>true
 | _=>false
end
end L2
namespace Tx
def dg(m:Nat):List Nat:=(Nat.toDigits 10 m).map Char.toNat
def sg(a:Int):List Nat:=if a<0 then 45::dg (-a).toNat else dg a.toNat
def tx(a b:Int):List Nat:=if b=1 then sg a else sg a++47::dg b.toNat
end Tx
namespace L2
open PySem PySem.Spec PyProof.Rows
variable{X:Cx}
def Fp:V->List V->Hp->VK->Prop:=λx vs H Q=>∃ z y,x=.str z/\vs=[.str y]/\Q (.bl (Txt.startswith z y)) H
theorem M3:xT X "str.startswith" Fp:=λa s σ H x d v e Q I c b h=>by
 let(z,y,rfl,rfl,q):=h;let(t,rfl):=c;let(u,rfl,f,rfl):=vals1 b;show SC.startswith ⟨.bl _,H,I,rfl,q⟩
def rPart:V->List V->Hp->VK->Prop:=λx vs H Q=>∃ z y,x=.str z/\vs=[.str y]/\(y.length == 0)=false/\z.length<=sizeLine /\
 ∀ p,H p=none->Q (.ref p) (upd H p (.tup [.str (jG z y).1, .str (jG z y).2.1, .str (jG z y).2.2]))
theorem Js:xT X "str.partition" rPart:=λc s σ H x p v w Q I m j h=>by
 let(z,y,rfl,rfl,n,o,q):=h;let(t,rfl):=m;let(u,rfl,t',rfl):=vals1 j;have l:H s.heap.objs.size=none:=I.hok.fresh (cB _);have a:∀(f d g:Tok)(k:Nat),EP X c σ Q (.ref s.heap.objs.size) { s with heap:=s.heap.push { cls:=.type "tuple",data:=.seq [.str (jG z y).1 f, .str (jG z y).2.1 d, .str (jG z y).2.2 g].toArray },toks:=k }:=λf d g k=>by
  show(.ref s.heap.objs.size,upd H s.heap.objs.size (.tup _),I.laid (t':=k) (λb u e=>bW _ e) (cB _) ?_,rfl,q _ l);show(by show 3<=sizeLine;decide,_, .cons ⟨_,rfl⟩ (.cons ⟨_,rfl⟩ (.cons ⟨_,rfl⟩ .nil)),⟨_,ck _ rfl,rfl,_,rfl⟩)
 show lg F.slot_str_partition (nv _ _ _) F.entry_str_partition (F.args_str_partition_2 _ _) (meets_str_partition z y t t' n o) ?_;unfold jG at a
 revert a
 cases jR z y 0 z.length 1 with
 | nil=>intro a;show a _ _ _ _
 | cons i r=>intro a;show a _ _ _ _
def rIntS:List V->Hp->VK->Prop:=λxs H Q=>∃ z n,xs=[.str z]/\PySem.intText? z=some n/\z.length<=640/\Q (.int n) H
theorem N1:ky X (.type "int") rIntS:=λa s σ H d e Q I r q=>by
 let(z,n,rfl,b,c,q):=q;let(u,rfl,t,rfl):=vals1 r;show W.KIN.call_text b c ⟨.int _,H,I.tok _,⟨_,rfl⟩,q⟩
section
variable{σ:St}{H:Hp}{Q:VK}{ta tb:TE}{K:bY}
theorem Joo{c:TT}:yB c ta tb σ H Q=c σ H λb H1=>if b=true then ta σ H1 Q else tb σ H1 Q:=rfl
theorem Jme{z:Str}:uC K "str" (.str z) H=True:=by simp[uC]
end
section
variable{En:Ends}{σ:St}{H:Hp}{Q:VK}{ta tb te tc td:TE}{K:bY}
end
end L2
namespace Mth
end Mth
namespace L2
open PySem PySem.Spec PyProof.Rows
def pI(cells:List (Str × Addr)):List (Str × mh)->List (Str × Addr)->List (Str × Addr)
 | [],acc=>acc
 | (n,k)::r,acc=>pI cells r (if k == .free then(n,(cells.lookup n).getD 0)::acc else acc)
theorem AE{env:Env}:∀(names:List (Str × mh))(acc:List (Str × Addr)),(∀ p∈names,p.2=.free->∃ c,env.cells.lookup p.1=some c) ->
  (forIn names acc λ(p:Str × mh) cs=>(if p.2 == .free then do let c <- cellOf env p.1;pure (ForInStep.yield ((p.1,c)::cs))else pure (ForInStep.yield cs):Sem (ForInStep (List (Str × Addr)))))=(pure (pI env.cells names acc):Sem (List (Str × Addr)))
 | [],acc,_=>by simp[pI]
 | (n,k)::r,acc,h=>by
  rw[List.forIn_cons];by_cases c:(k == .free)=true
  .let(a,ha):=h (n,k) i8 (beq_iff_eq.mp c);have e:cellOf env n=pure a:=by unfold cellOf;rw[ha]
   simp only[c,if_true,e,pure_bind];have:=AE (env:=env) r ((n,a)::acc) λp hp=>h p (ia _ hp);simp only[pI,c,if_true,ha,Option.getD_some];show this
  .have c':(k == .free)=false:=by simpa using c
   simp only[c',Bool.false_eq_true,if_false,pure_bind];have:=AE (env:=env) r acc λp hp=>h p (ia _ hp);simp only[pI,c',Bool.false_eq_true,if_false];show this
variable{scope:Scope}{env:Env}
theorem AF(h:∀ p∈scope.names,p.2=.free->∃ c,env.cells.lookup p.1=some c):closureFor scope env=pure (pI env.cells scope.names []):=by
 have:=AE (env:=env) scope.names [] h;unfold closureFor;simp only[pure_bind];show Eq.trans ?_ (congrArg (λm:Sem (List (Str × Addr))=>m >>= pure) this |>.trans (by simp));first | rfl | (congr 1)
variable{cells:List (Str × Addr)}
theorem zA:∀(names:List (Str × mh))(acc:List (Str × Addr)),(∀ x c,acc.lookup x=some c->cells.lookup x=some c)->(∀ p∈names,p.2=.free->∃ c,cells.lookup p.1=some c) ->
  ∀ x c,(pI cells names acc).lookup x=some c->cells.lookup x=some c
 | [],acc,ha,_,x,c,h=>ha x c h
 | (n,k)::r,acc,ha,hf,x,c,h=>by
  simp only[pI]at h;show zA r _ ?_ (λp hp=>hf p (ia _ hp)) x c h;intro y d hy;by_cases f:(k == .free)=true
  .rw[if_pos f]at hy;let(a,e):=hf (n,k) i8 (beq_iff_eq.mp f);rw[ko]at hy;by_cases q:(y == n)=true
   .rw[q]at hy;have q':y=n:=beq_iff_eq.mp q;subst q';have e':cells.lookup y=some a:=e;rw[e']at hy ⊢;simpa using hy
   .have q':(y == n)=false:=by simpa using q
    rw[q']at hy;show ha y d hy
  .rw[if_neg f]at hy;show ha y d hy
theorem zB:∀(names:List (Str × mh))(acc:List (Str × Addr))(y:Str),((∃ c,acc.lookup y=some c)\/(y,mh.free)∈names)->∃ c,(pI cells names acc).lookup y=some c
 | [],acc,y,h=>by
  rcases h with h | h
  .show h
  .simp at h
 | (n,k)::r,acc,y,h=>by
  simp only[pI];show zB r _ y ?_;rcases h with⟨c,h⟩ | h
  .show .inl ?_;split
   .rw[ko];cases(y == n)
    .show(c,h)
    .show(_,rfl)
   .show(c,h)
  .rcases gW.mp h with e | h
   .cases e;show .inl ?_;rw[if_pos ⋯,ko];simp
   .show .inr h
variable{X:Cx}{tg:Expr}
theorem AV(hcell:∀ y∈scope.names,y.2≠.cell){y:Str}(hy:(jf scope X.env).names.lookup y=some .cell\/(jf scope X.env).names.lookup y=some .free):(y,mh.free)∈scope.names:=by
 have f:∀ k,(k=.cell\/k=.free)->(jf scope X.env).names.lookup y=some k->(y,mh.free)∈scope.names:=λk g e=>by
  have m:=j5 e;let((n,d),a,h):=List.mem_map.mp (show(y,k)∈scope.names.map _ from m);have b:(if(d == mh.free&&X.env.scope.kind == .function&&X.env.kindOf n == some .cell)=true then(n,mh.cell)else(n,d))=(y,k):=h;split at b
  .rename_i c;rw[cn,cn]at c;have:=beq_iff_eq.mp c.1.1;subst this;cases b;show a
  .cases b;rcases g with rfl | rfl
   .show absurd rfl (hcell _ a)
   .show a
 rcases hy with hy | hy
 .show f _ (.inl rfl) hy
 .show f _ (.inr rfl) hy
variable{iter elt:Expr}{ifs:List Expr}{pos:Pos}{wi:TI}{te:TE}{tt:TT}
theorem qu{own:List Str}{cs:List (Nat × Str)}{g:TG}(hc:X.calm=true)(hi:PI X tg iter wi)
  (hg:∀ fp s2 H2 C,PG (X.inc (own++cs.map (·.2)) scope (pI X.env.cells scope.names []) fp s2 H2 C) tg g) (ht:∀ fp s2 H2 C,uY (X.inc (own++cs.map (·.2)) scope (pI X.env.cells scope.names []) fp s2 H2 C) ifs tt) (he:∀ fp s2 H2 C,PE (X.inc (own++cs.map (·.2)) scope (pI X.env.cells scope.names []) fp s2 H2 C) elt te)
  (hfree:∀ p∈scope.names,p.2=.free->X.env.scope.names.lookup p.1=some .cell) (hcell:∀ y∈scope.names,y.2≠.cell) (hkind:scope.kind=.function) (hnames:∀ y∈scope.names,y.2=.local->scope.names.lookup y.1=some .local)
  (hcs:∀ p∈cs,X.N[p.1]?=some p.2/\X.env.scope.names.lookup p.2=some .cell/\(jf scope X.env).names.lookup p.2=some .cell)
  (hs:autoParam (∀ x,foldedSetIterable iter X.env x=pure x) Au):PE X (.ListComp elt [⟨tg,iter,ifs,0⟩] scope pos) (ve own.length cs wi g tt te):=by
 intro a s σ H Q I h;have b:∀ p∈scope.names,p.2=.free->∃ c,X.env.cells.lookup p.1=some c:=λp u t=>I.ok.has p.1 (.inl (hfree p u t));have j:=zA (cells:=X.env.cells) scope.names [] (λ_ _ z=>by simp at z) b;rw[eval_ListComp];show wpAny_comprehension_free (use:=none) rfl hs (AF b) hkind hnames (jl (hi a s σ H _ I h) λv O E=>jl E λD s2 K=>?_);let(Y,fp,R,J,H2,rfl,I2,T,l,F,W,(U,o),d):=K;show GC (QN:=λn k=>∀ p,k p=none->Q (.ref p) (upd k p (.lst n))) (RR:=λf C=>compPost (gx X.prog X.w) X.A X.xe none (EP X a σ Q) f C) hc hg ht he hcell hkind j (λz L=>zB scope.names [] z (.inr (AV hcell L))) hcs I2 T l F o d ?_;intro D' C Z k n m B V S G P q;let(M,e):=G;show(M,e,λr i=>⟨.ref D',_,m r i,rfl,q D' B⟩)
variable{e:Expr}
theorem qq{k:Nat}{cs:List (Nat × Str)}{g:TG}(h:PE X e (ve k cs wi g tYes te)):PE X e (qF k cs wi g te):=h
theorem pH{sc:Scope}(h:scope.names.all (λp=>p.2 != .free||(sc.names.lookup p.1 == some .cell))=true):∀ p∈scope.names,p.2=.free->sc.names.lookup p.1=some .cell:=λp b a=>by
 have z:=kq.mp h p b;rw[a]at z;simpa using z
theorem Fc:∀{ys:List Str}{us:List bV},Vals (ys.map V.str) us->StrsAre us ys
 | [],_,h=>by cases h;show .nil
 | y::ys,_,h=>by
  cases h with
  | cons r t=>
   let(tk,rfl):=r;show .cons y tk (Fc t)
def rJoin(K:bY):V->List V->Hp->VK->Prop:=λx vs H Q=>∃(z:Str)(p:Addr)(ys:List Str),x=.str z/\vs=[.ref p]/\jM K H p (ys.map V.str)/\(ys.map (·.length)).sum+ys.length*z.length<=16777216/\Q (.str (Txt.join z ys)) H
theorem AO:vO X "str.join" (rJoin X.K):=λa s σ H x m v n Q I f e h=>by
 let(z,p,j,rfl,rfl,c,i,q):=h;let(t,rfl):=f;let(u,rfl,g):=vals1 e;cases(show u=cf p from g);let(b,r,d,_):=I.list c;show join_list d.isList (by simpa using Fc r) i λl k=>⟨.str _,H,I.tok k,⟨_,rfl⟩,q⟩
variable{i:Nat}{x:Str}
theorem qj(a:X.N[i]?=some x)(b:X.env.scope.names.lookup x=some .cell)(c:(jf scope X.env).names.lookup x=some .cell) :
  ∀ p∈[(i,x)],X.N[p.1]?=some p.2/\X.env.scope.names.lookup p.2=some .cell/\(jf scope X.env).names.lookup p.2=some .cell:=λp d=>by
 rcases i7.mp d with rfl
 show(a,b,c)
variable{j:Nat}{y:Str}
theorem xK(a:X.N[i]?=some x)(b:X.env.scope.names.lookup x=some .cell)(c:(jf scope X.env).names.lookup x=some .cell)
  (a':X.N[j]?=some y) (b':X.env.scope.names.lookup y=some .cell) (c':(jf scope X.env).names.lookup y=some .cell) :
  ∀ p∈[(i,x),(j,y)],X.N[p.1]?=some p.2/\X.env.scope.names.lookup p.2=some .cell/\(jf scope X.env).names.lookup p.2=some .cell:=λp d=>by
 rcases gW.mp d with rfl | d
 .show(a,b,c)
 .rcases i7.mp d with rfl
  show(a',b',c')
theorem BM{spos py:Pos}{own:List Str}{cs:List (Nat × Str)}{g:TG}(hN:X.N.Nodup)(hj:X.N[j]?=some y)(hy:Loc X.env.scope y)(hc:X.calm=true)(hi:PI X tg iter wi)
  (hg:∀ fp s2 H2 C,PG (X.inc (own++cs.map (·.2)) scope (pI X.env.cells scope.names []) fp s2 H2 C) tg g) (ht:∀ fp s2 H2 C,uY (X.inc (own++cs.map (·.2)) scope (pI X.env.cells scope.names []) fp s2 H2 C) ifs tt) (he:∀ fp s2 H2 C,PE (X.inc (own++cs.map (·.2)) scope (pI X.env.cells scope.names []) fp s2 H2 C) elt te)
  (hfree:∀ p∈scope.names,p.2=.free->X.env.scope.names.lookup p.1=some .cell) (hcell:∀ y∈scope.names,y.2≠.cell) (hkind:scope.kind=.function) (hnames:∀ y∈scope.names,y.2=.local->scope.names.lookup y.1=some .local)
  (hcs:∀ p∈cs,X.N[p.1]?=some p.2/\X.env.scope.names.lookup p.2=some .cell/\(jf scope X.env).names.lookup p.2=some .cell)
  (hsw:autoParam (swapsWith (.ListComp elt [⟨tg,iter,ifs,0⟩] scope pos) (some (.Name y py)) spos.line X.env=pure true) Au)
  (hs:autoParam (∀ x,foldedSetIterable iter X.env x=pure x) Au) (hf:autoParam (X.fn y=true\/X.env.scope.names.lookup y=some .local) Au) :
  PS X (.Assign [.Name y py] (.ListComp elt [⟨tg,iter,ifs,0⟩] scope pos) spos) (oQ (ve own.length cs wi g tt te) (nN j)):=by
 intro d s σ H D I h;have i:∀ p∈scope.names,p.2=.free->∃ c,X.env.cells.lookup p.1=some c:=λp w S=>I.ok.has p.1 (.inl (hfree p w S));have u:=zA (cells:=X.env.cells) scope.names [] (λ_ _ z=>by simp at z) i;rw[exec_Assign_Name_used _ _ _ _ hsw];show bO (wpAny_standAt (bO ?_));show gu _ X.A (do let _ <- comprehension (.ListComp elt [⟨tg,iter,ifs,0⟩] scope pos) scope X.env _ (newList []) false (eval iter X.env) (some (assign (.Name y py) X.env))) _ _ s;show bO (gJ (wpAny_comprehension_free (use:=some (assign (.Name y py) X.env)) (Q:=λ_ L=>SP X d D .next L) rfl hs (AF i) hkind hnames
  (jl (hi d s σ H _ I h) λv s1 h1=>jl h1 λZ s2 h2=>?_)) (λ_ L U=>gw (gw U)) λ_ _ e=>e)
 let(it,fp,tn,J,H2,rfl,I2,T,B,f2,W,(m0,O),k):=h2;show GC (QN:=λr l=>∀ p,l p=none->D.nx (σ.set j (some (.ref p))) (upd l p (.lst r))) hc hg ht he hcell hkind u (λz hz=>zB scope.names [] z (.inr (AV hcell hz))) hcs I2 T B f2 O k ?_;intro D' C K l r E V Y R hm f q;let(m6,n):=hm;have I8:Inv X d σ (upd l D' (.lst r)) K:=E K.heap (jC.refl _ _);show gu _ X.A (assign (.Name y py) X.env (.ref D')) _ _ K;show wpAny_assign_Name (F6 (v:=.ref D') I8 hN hj hy rfl (λs7 I7 t=>?_) hf);let(a,M,G):=t;have P:C≠a:=by
  rcases G with rfl | G
  .show hB (gv I2.lt f)
  .let(v,o,m,_):=I2.cell y a G;show hB (gv (b9 m) f)
 show(m6,n.sameBut M P,λh8 F=>⟨_,_,?_,q D' V⟩);show I7.turned (it:=C) (t':=s7.toks) (λb o hb e=>(F.2 b hb).trans e) (by rw[kk (iQ R)];show Y) (hB (gv I2.lt f)) (.inr (g0 I2.sz f)) (λx c e z=>by
  let(v,o,m,_):=I2.cell x c e;show absurd (gv (b9 m) f) (by rw[z];show il _)) (λp w z=>absurd (gv (b9 (I2.pin p w).1) f) (by rw[z];show il _))
theorem HH{st:Stmt}{k:Nat}{cs:List (Nat × Str)}{g:TG}{gn:TG}(h:PS X st (oQ (ve k cs wi g tYes te) gn)):PS X st (oQ (qF k cs wi g te) gn):=h
section
variable{κ:Type}[DecidableEq κ]
def lB(kvs:List (κ × V))(k : κ):Option V:=(kvs.find? λkv=>decide (kv.1=k)).map (·.2)
def putK(kvs:List (κ × V))(k : κ)(v:V):List (κ × V) :=
 if(kvs.any λkv=>decide (kv.1=k))=true then kvs.map (λkv=>if kv.1=k then(kv.1,v)else kv)else kvs++[(k,v)]
def og(kvs:List (κ × V))(k : κ):List (κ × V):=kvs.filter λkv=>decide (kv.1≠k)
theorem wz{p : κ × V}{r:List (κ × V)}{k : κ}(e:p.1=k):lB (p::r) k=some p.2:=by simp[lB,lr,e]
theorem wA{p : κ × V}{r:List (κ × V)}{k : κ}(e:¬ p.1=k):lB (p::r) k=lB r k:=by simp[lB,lr,e]
theorem zh(k : κ):∀ kvs:List (κ × V),(kvs.any λkv=>decide (kv.1=k))=(lB kvs k).isSome
 | []=>rfl
 | p::r=>by
  rw[lT];by_cases e:p.1=k
  .simp only[wz e,decide_eq_true e,Bool.true_or,Option.isSome_some]
  .rw[wA e,decide_eq_false e,Bool.false_or];show zh k r
theorem zN(kvs:List (κ × V))(k : κ)(v:V):(putK kvs k v).length<=kvs.length+1:=by
 unfold putK;split
 .rw[iz];ac_nf
 .rw[j6,i6,List.length_nil];ac_nf
variable{o:Option V}{u:Option bV}
theorem RelO.isSome_eq(r:RelO o u):o.isSome=u.isSome:=by
 cases o with
 | none=>cases u with
  | none=>rfl
  | some _=>show(show False from r).elim
 | some _=>cases u with
  | none=>show(show False from r).elim
  | some _=>rfl
variable{d:V}
theorem RelO.getD{d':bV}(r:RelO o u)(rd:RelV d d'):RelV (o.getD d) (u.getD d'):=by
 cases o with
 | none=>cases u with
  | none=>show rd
  | some _=>show(show False from r).elim
 | some _=>cases u with
  | none=>show(show False from r).elim
  | some _=>show r
theorem KV.val{kvs:List (κ × V)}{vs:List (κ × bV)}(r:KV kvs vs)(k : κ):RelO (lB kvs k) (valueAt vs k):=by
 unfold KV at r;induction r with
 | nil=>show iN
 | @cons p q ps qs h t ih=>
  let(c,d):=h;by_cases e:p.1=k
  .have a:q.1=k:=c.symm.trans e;have b:valueAt (q::qs) k=some q.2:=by simp[valueAt,lr,a]
   rw[wz e,b];show d
  .have a:¬ q.1=k:=λz=>e (c.trans z);have b:valueAt (q::qs) k=valueAt qs k:=by simp[valueAt,lr,a]
   rw[wA e,b];show ih
theorem KV.any{kvs:List (κ × V)}{vs:List (κ × bV)}(r:KV kvs vs)(k : κ):(kvs.any λkv=>decide (kv.1=k))=vs.any λkv=>decide (kv.1=k):=by
 unfold KV at r;induction r with
 | nil=>rfl
 | cons h t ih=>rw[lT,lT,ih,h.1]
theorem KV.repl{kvs:List (κ × V)}{vs:List (κ × bV)}(r:KV kvs vs)(k : κ){y:V}{u:bV}(ry:RelV y u) :
  KV (kvs.map λkv=>if kv.1=k then(kv.1,y)else kv) (vs.map λkv=>if kv.1=k then(kv.1,u)else kv):=by
 unfold KV at r ⊢;induction r with
 | nil=>show .nil
 | @cons p q ps qs h t ih=>
  rw[hV,hV];show .cons ?_ ih;let(a,b):=h;by_cases e:p.1=k
  .rw[if_pos e,if_pos (a.symm.trans e)];show(a,ry)
  .rw[if_neg e,if_neg (λz=>e (a.trans z))];show(a,b)
theorem KV.put{kvs:List (κ × V)}{vs:List (κ × bV)}(r:KV kvs vs)(k : κ){y:V}{u:bV}(ry:RelV y u):KV (putK kvs k y) (stored vs k u):=by
 unfold putK stored;rw[r.any k];by_cases e:(vs.any λa=>decide (a.1=k))=true
 .rw[if_pos e,if_pos e];show r.repl k ry
 .rw[if_neg e,if_neg e];show mB.snoc r ⟨rfl,ry⟩
theorem KV.drop{kvs:List (κ × V)}{vs:List (κ × bV)}(r:KV kvs vs)(k : κ):KV (og kvs k) (without vs k):=by
 unfold KV at r ⊢;unfold og without;induction r with
 | nil=>show .nil
 | @cons p q ps qs h t ih=>
  let(c,d):=h;rw[List.filter_cons,List.filter_cons];by_cases e:p.1=k
  .have a:¬ decide (p.1≠k)=true:=by simp[e]
   have b:¬ decide (q.1≠k)=true:=by simp[c.symm.trans e]
   rw[if_neg a,if_neg b];show ih
  .have f:¬ q.1=k:=λz=>e (c.trans z);have a:decide (p.1≠k)=true:=by simp[e]
   have b:decide (q.1≠k)=true:=by simp[f]
   rw[if_pos a,if_pos b];show .cons ⟨c,d⟩ ih
theorem KV.length{kvs:List (κ × V)}{vs:List (κ × bV)}(r:KV kvs vs):kvs.length=vs.length:=mB.length r
theorem Mu(kvs:List (κ × V))(k : κ):(og kvs k).length<=kvs.length:=List.length_filter_le _ _
end
variable{P:gN}{w:ik}
theorem nY{k:jz}{u:bV}(r:RelV (kV k) u):(nh P w).is k u=true:=by
 cases k with
 | inl i=>have e:=(show u=ir i from r);subst e;show Ph P w i
 | inr x=>let(t,e):=(show∃ t,u=bV.str x t from r);subst e;show ON P w x t
theorem Ga:∀{ks:List jz}{us:List bV},Vals (ks.map kV) us->ItemsAre (nh P w) ks us
 | [],_,r=>by rw[List.map_nil]at r;cases r;show .nil
 | k::ks,_,r=>by
  rw[hV]at r;cases r with
  | cons h t=>show .cons (nY h) (Ga t)
abbrev KT(H:Hp):List (List jz × V)->List (List jz × Addr × bV)->Prop:=mB λp q=>p.1=q.1/\H q.2.1=some (.tup (p.1.map kV))/\RelV p.2 q.2.2
variable{H:Hp}{kvs:List (List jz × V)}{xs:List (List jz × Addr × bV)}
theorem KT.val(r:KT H kvs xs)(k:List jz):RelO (lB kvs k) ((atKey xs k).map (·.2)):=by
 induction r with
 | nil=>show iN
 | @cons p q ps qs h t ih=>
  let(c,_,d):=h;by_cases e:p.1=k
  .have a:q.1=k:=c.symm.trans e;have b:atKey (q::qs) k=some q.2:=by simp[atKey,lr,a]
   rw[wz e,b];show d
  .have a:¬ q.1=k:=λz=>e (c.trans z);have b:atKey (q::qs) k=atKey qs k:=by simp[atKey,lr,a]
   rw[wA e,b];show ih
theorem KT.repl(r:KT H kvs xs)(k:List jz){y:V}{u:bV}(ry:RelV y u) :
  KT H (kvs.map λkv=>if kv.1=k then(kv.1,y)else kv) (xs.map (putAt k u)):=by
 induction r with
 | nil=>show .nil
 | @cons p q ps qs h t ih=>
  rw[hV,hV];show .cons ?_ ih;let(a,b,c):=h;unfold putAt;by_cases e:p.1=k
  .rw[if_pos e,if_pos (a.symm.trans e)];show(a,b,ry)
  .rw[if_neg e,if_neg (λz=>e (a.trans z))];show(a,b,c)
theorem KT.put(r:KT H kvs xs)(k:List jz){b:Addr}{y:V}{u:bV}(hb:H b=some (.tup (k.map kV)))(ry:RelV y u) :
  KT H (putK kvs k y) (storedH xs k b u):=by
 have e:(kvs.any λa=>decide (a.1=k))=(atKey xs k).isSome:=by
  rw[zh,(r.val k).isSome_eq,Option.isSome_map]
 unfold putK storedH;rw[e];by_cases q:(atKey xs k).isSome=true
 .rw[if_pos q,if_pos q];show r.repl k ry
 .rw[if_neg q,if_neg q];show mB.snoc r ⟨rfl,hb,ry⟩
variable{H':Hp}
theorem KT.keeps(r:KT H kvs xs)(ht:∀ b ys,H b=some (.tup ys)->H' b=some (.tup ys)):KT H' kvs xs :=
 Paired.mapP r λ_ _ z=>⟨z.1,ht _ _ z.2.1,z.2.2⟩
variable{h:Heap}{a:Addr}
theorem t5{u:HO}(ok:ni P w H h)(e:Rd H a u):jk P w H h a u:=e.ok ok
variable{kvs:List (jz × V)}
theorem oE(ok:ni P w H h)(e:Rd H a (.dK kvs)):kvs.length<=sizeLine/\(a == kd)=false/\∃ vs,KV kvs vs/\h.DictOf (nh P w) a vs :=
 show jk P w H h a (.dK kvs)from t5 ok e
theorem nO(ok:ni P w H h)(e:H a=some (.dK kvs)):kvs.length<=sizeLine/\(a == kd)=false/\∃ vs,KV kvs vs/\h.DictOf (nh P w) a vs:=oE ok (.inl e)
theorem vc{ks:List jz}(ok:ni P w H h)(e:H a=some (.tup (ks.map kV))):(tupleKind (nh P w)).is h ks a:=by
 let(_,b,r,o,f,c,n,d):=(show jk P w H h a (.tup (ks.map kV))from ok a _ e);show(o,b.toArray,n,f,c,d,by simpa using Ga r)
variable{kvs:List (List jz × V)}
theorem oC(ok:ni P w H h)(e:Rd H a (.dT kvs)):kvs.length<=sizeLine/\(a == kd)=false /\
  ∃ xs,KT H kvs xs/\h.DictOfH (tupleKind (nh P w)) a xs:=by
 let(z,y,xs,r,o,c,g,i,d,f,j,b):=(show jk P w H h a (.dT kvs)from t5 ok e);show(z,y,xs,r,o,c,g,i,d,f,j,λx hx=>?_,b);have all:∀{l:List (List jz × V)}{m:List (List jz × Addr × bV)},KT H l m->∀ x∈m,(tupleKind (nh P w)).is h x.1 x.2.1:=by
  intro l m q;induction q with
  | nil=>intro x hx;show nomatch hx
  | @cons p q ps qs hq t ih=>
   intro x hx;rcases gW.mp hx with e | hx
   .subst e;show vc ok (by rw[<- hq.1];show hq.2.1)
   .show ih x hx
 show all r x hx
theorem xN(ok:ni P w H h)(e:H a=some (.dT kvs)):kvs.length<=sizeLine/\(a == kd)=false /\
  ∃ xs,KT H kvs xs/\h.DictOfH (tupleKind (nh P w)) a xs:=oC ok (.inl e)
def m7(H:Hp)(a:Addr)(y:V)(r:Option V):Prop :=
 (∃ kvs k,Rd H a (.dK kvs)/\y=kV k/\r=lB kvs k)\/∃ kvs k b,Rd H a (.dT kvs)/\y=.ref b/\H b=some (.tup (k.map kV))/\r=lB kvs k
def pM(H:Hp)(a:Addr)(y v:V)(H':Hp):Prop :=
 (∃ kvs k,H a=some (.dK kvs)/\y=kV k/\kvs.length<sizeLine/\H'=upd H a (.dK (putK kvs k v))) \/
 ∃ kvs k b,H a=some (.dT kvs)/\y=.ref b/\H b=some (.tup (k.map kV))/\kvs.length<sizeLine/\H'=upd H a (.dT (putK kvs k v))
theorem m7.k{kvs:List (jz × V)}{k:jz}(e:H a=some (.dK kvs)):m7 H a (kV k) (lB kvs k):=.inl ⟨kvs,k, .inl e,rfl,rfl⟩
variable{b:Addr}
theorem m7.t{k:List jz}(e:H a=some (.dT kvs))(eb:H b=some (.tup (k.map kV))):m7 H a (.ref b) (lB kvs k):=.inr ⟨kvs,k,b, .inl e,rfl,eb,rfl⟩
variable{v:V}
theorem pM.k{kvs:List (jz × V)}{k:jz}(e:H a=some (.dK kvs))(hl:kvs.length<sizeLine):pM H a (kV k) v (upd H a (.dK (putK kvs k v))):=.inl ⟨kvs,k,e,rfl,hl,rfl⟩
theorem pM.t{k:List jz}(e:H a=some (.dT kvs))(eb:H b=some (.tup (k.map kV)))(hl:kvs.length<sizeLine) :
  pM H a (.ref b) v (upd H a (.dT (putK kvs k v))):=.inr ⟨kvs,k,b,e,rfl,eb,hl,rfl⟩
variable{pins:List (Addr × Obj)}{σ:St}{s:b8}{y:V}{u r:bV}{o:Option V}{A:iM}{E:bV->b8->Prop}
theorem Inv.big(I:Inv X pins σ H s):kd<s.heap.objs.size:=by
 have h:hW<s.heap.objs.size:=(I.mod.glob.keeps I.bk).lt;show Nat.lt_trans ⋯ h
variable{Q:bV->b8->Prop}
theorem Of(hu:A.units+1<lh)(I:Inv X pins σ H s)(g:m7 H a y (some v))(ry:RelV y u)(h:∀ w' s',Inv X pins σ H s'->RelV v w'->Q w' s') :
  gu (gx X.prog X.w) A (getItem (.ref a) u) Q E s:=by
 rcases g with⟨kvs,k,e,ey,l⟩ | ⟨kvs,k,b,e,ey,eb,l⟩
 .subst ey;let(z,r,n,c,j):=oE I.hok e;let(w',f,d):=RelO.some_of (v:=v) (o:=valueAt n k) (by rw[l];show c.val k);show wpAny_getItem_of (nY ry) j.mapOf f (h w' _ (I.tok _) d)
 .subst ey;cases(show u=cf b from ry);let(z,r,m,c,j):=oC I.hok e;let(w',f,d):=RelO.some_of (v:=v) (o:=(atKey m k).map (·.2)) (by rw[l];show c.val k);let(p,q,i):=gK.mp f;show wpAny_getItem_heap (kE hu) (vc I.hok eb) j q ?_;rw[i];show h w' _ (I.tok _) d
theorem Ac(hu:A.units+1<lh)(I:Inv X pins σ H s)(g:m7 H a y o)(ry:RelV y u)(h:∀ s',Inv X pins σ H s'->Q (.bool o.isSome) s') :
  gu (gx X.prog X.w) A (ib .In u (.ref a)) Q E s:=by
 rcases g with⟨kvs,k,e,ey,l⟩ | ⟨kvs,k,b,e,ey,eb,l⟩
 .subst ey;let(z,d,j,c,f):=oE I.hok e;show wpAny_in_of (nY ry) d f.mapOf ?_;rw[<- (c.val k).isSome_eq, <- l];show h _ (I.tok _)
 .subst ey;cases(show u=cf b from ry);let(z,d,i,c,f):=oC I.hok e;show wpAny_in_heap (kE hu) (vc I.hok eb) d f ?_;have q:=(c.val k).isSome_eq;rw[Option.isSome_map]at q;rw[<- q, <- l];show h _ (I.tok _)
theorem KU(hu:A.units+1<lh)(I:Inv X pins σ H s)(g:m7 H a y o)(ry:RelV y u)(h:∀ s',Inv X pins σ H s'->Q (.bool (!o.isSome)) s') :
  gu (gx X.prog X.w) A (ib .NotIn u (.ref a)) Q E s:=by
 rcases g with⟨kvs,k,e,ey,l⟩ | ⟨kvs,k,b,e,ey,eb,l⟩
 .subst ey;let(z,d,j,c,f):=oE I.hok e;show wpAny_notIn_of (nY ry) d f.mapOf ?_;rw[<- (c.val k).isSome_eq, <- l];show h _ (I.tok _)
 .subst ey;cases(show u=cf b from ry);let(z,d,i,c,f):=oC I.hok e;show wpAny_notIn_heap (kE hu) (vc I.hok eb) d f ?_;have q:=(c.val k).isSome_eq;rw[Option.isSome_map]at q;rw[<- q, <- l];show h _ (I.tok _)
variable{h':Heap}{t':Nat}
theorem xZ{ob:HO}(I:Inv X pins σ H s)(mu:Mut (H a))(hs:jC a s.heap h')(he:∃ q,h'.get? a=some q)(new:jk X.prog X.w (upd H a ob) h' a ob) :
  Inv X pins σ (upd H a ob) { s with heap:=h',toks:=t' } :=
 I.write (x:=a) (e:=a) mu (.inl rfl) (λb q hb z=>(hs.2 b hb).trans z) he new
variable{kvs:List (jz × V)}
theorem xV{vs:List (jz × bV)}(z:kvs.length<=sizeLine)(hd:(a == kd)=false)(rel:KV kvs vs)(dd:h'.DictOf (nh P w) a vs) :
  jk P w H' h' a (.dK kvs):=⟨z,hd,vs,rel,dd⟩
theorem Oe{Q:Unit->b8->Prop}(hu:A.units+1<lh)(I:Inv X pins σ H s)(g:pM H a y v H')(ry:RelV y u)(rv:RelV v r)(h:∀ s',Inv X pins σ H' s'->Q () s') :
  gu (gx X.prog X.w) A (setItem (.ref a) u r) Q E s:=by
 rcases g with⟨kvs,k,e,ey,l,eH⟩ | ⟨kvs,k,b,e,ey,eb,l,eH⟩
 .subst ey eH;let(z,j,F,d,m):=nO I.hok e;have o:F.length<=sizeLine:=by rw[<- d.length];show z
  have n:(putK kvs k v).length<=sizeLine:=by have:=zN kvs k v;ac_nf
  show wpAny_setItem_pairs (hsz:=o) (nY ry) m λp f hs=>h _ ?_;have D:∃ q,p.get? a=some q:=let⟨q,_,_,i,_⟩:=f;⟨q,i⟩;show xZ I (by rw[e];show iN) hs D (xV n j (d.put k rv) f)
 .subst ey eH;cases(show u=cf b from ry);let(z,j,x,d,m):=xN I.hok e;have o:x.length<=sizeLine:=by rw[<- mB.length d];show z
  have n:(putK kvs k v).length<=sizeLine:=by have:=zN kvs k v;ac_nf
  show wpAny_setItem_heap (hsz:=o) (kE hu) (vc I.hok eb) m λp f hs=>h _ ?_;let(q,B,C,i,K,G,L,_,J):=f;show xZ I (by rw[e];show iN) hs ⟨q,i⟩ ⟨n,j,_,(d.put k eb rv).keeps λc M t=>?_,q,B,C,i,K,G,L,J⟩;rw[kk (xv t e (λz=>nomatch z))];show t
section
variable{k:jz}
theorem xO{more:List bV}(I:Inv X pins σ H s)(e:H a=some (.dK kvs))(ry:RelV (kV k) u)(l:lB kvs k=some v)(hm:more=[]\/∃ x,more=[x])
  (h:∀ w' s',Inv X pins σ (upd H a (.dK (og kvs k))) s'->RelV v w'->Q w' s'):gu (gx X.prog X.w) A (call (.builtin "dict.pop") (.ref a::u::more)) Q E s:=by
 let(z,y,f,b,g):=nO I.hok e;let(w',j,d):=RelO.some_of (v:=v) (o:=valueAt f k) (by rw[<- l];show b.val k);have p:(keyPart u).isSome=true:=by
  cases k with
  | inl i=>have q:=(show u=ir i from ry);subst q;cases i <;> rfl
  | inr x=>let(t,q):=(show∃ t,u=bV.str x t from ry);subst q;rfl
 have n:argsOk "dict.pop" ⟨.ref a::u::more,[]⟩:=by
  rcases hm with q | ⟨x,q⟩
  .subst q;show PySem.F.args_dict_pop_2 _ _
  .subst q;show PySem.F.args_dict_pop_3 _ _ _
 show ka PySem.F.slot_dict_pop g.typeIs PySem.F.entry_dict_pop n (meets_dict_pop_there (nh X.prog X.w) a (nY ry) more hm p)
  ⟨f,w',g,by rw[<- b.length];show z,j,λr c hs=>h w' _ ?_ d⟩
 have m:∃ q,r.get? a=some q:=let⟨q,_,_,hq,_⟩:=c;⟨q,hq⟩;show xZ I (by rw[e];show iN) hs m (xV (g0 (Mu kvs k) z) y (b.drop k) c)
end
def xS(i:Expr):Prop:=∀ ov iv,subscripted i false ov iv=operate [ov,iv] (getItem ov iv)
variable{value:Expr}
theorem JN{prog:gN}{slice:Expr}{T id:String}
  (hl:typeLookup (.type T) "__getitem__"=pure (some (.builtin id))) (hs:xS slice)
  (h:gu (gx prog w) A (eval value env) (λo s₁=>gu (gx prog w) A (eval slice env) (λi s₂=>s₂.TypeIs o T/\gu (gx prog w) A (getItem o i) Q E s₂) E s₁) E s) :
  gu (gx prog w) A (eval (.Subscript value slice pos) env) Q E s:=by
 show Subscript_ (gJ h (λo s₁ h₁=>gJ h₁ (λi s₂ h₂=>?_) λ_ _ x=>x) λ_ _ x=>x);let(b,h₂):=h₂;unfold subscriptTail;show bO ?_;rw[getitemInPython_of_ne b.not_modules];show bO (mS b hl ?_);have a:gu (gx prog w) A (subscripted slice false o i) (λr s₃=>gu (gx prog w) A (letTemporaryGo value o r >>= λ_=>pure r) Q E s₃) E s₂:=by
  rw[hs o i];show wpAny_operating (gJ h₂ (λr s₃ h₃=>bO (wpAny_letTemporaryGo (gw h₃))) λ_ _ x=>x)
 first
  | show gw (bO a)
  | show bO (gw (bO a))
  | show bO a
theorem OO(I:Inv X pins σ H s)(g:m7 H a y o):s.TypeIs (.ref a) "dict":=by
 rcases g with⟨kvs,k,e,_,_⟩ | ⟨kvs,k,b,e,_,_,_⟩
 .let(_,_,f,_,c):=oE I.hok e;show c.typeIs
 .let(_,_,d,_,c):=oC I.hok e;show c.typeIs
def tW(td ty:TE):TE:=λσ H Q=>td σ H λx H1=>ty σ H1 λy H2=>∃ a v,x=.ref a/\m7 H2 a y (some v)/\Q v H2
def xc(ty td:TE):TE:=λσ H Q=>ty σ H λy H1=>td σ H1 λx H2=>∃ a o,x=.ref a/\m7 H2 a y o/\Q (.bl o.isSome) H2
def Fb(ty td:TE):TE:=λσ H Q=>ty σ H λy H1=>td σ H1 λx H2=>∃ a o,x=.ref a/\m7 H2 a y o/\Q (.bl (!o.isSome)) H2
def t4(td ty tv:TE):TS:=λD σ H=>tv σ H λv H1=>td σ H1 λx H2=>ty σ H2 λy H3=>∃ a H4,x=.ref a/\pM H3 a y v H4/\D.nx σ H4
variable{o i:Expr}{pos' tpos:Pos}{td ty tv:TE}
theorem oG(hu:X.A.units+1<lh)(ho:PE X o td)(hi:PE X i ty)(hs:xS i):PE X (.Subscript o i pos) (tW td ty):=by
 intro b s σ H Q I h;show JN PySem.F.slot_dict_getitem.lookup hs (jl (ho b s σ H _ I h) λu f ζ=>?_);let(x,k,I1,m,j):=ζ;show jl (hi b f σ k _ I1 j) λt p ζ=>?_;let(y,l,I2,d,a,v,n,g,e):=ζ;subst n;obtain rfl:u=cf a:=m;show(OO I2 g,Of hu I2 g d λr q I3 c=>⟨v,l,I3,c,e⟩)
theorem um(hu:X.A.units+1<lh)(hi:PE X i ty)(ho:PE X o td):PC X .In i o (xc ty td):=by
 intro b s σ H Q I h;show jl (hi b s σ H _ I h) λr e ζ=>?_;let(y,j,I1,c,f):=ζ;show jl (ho b e σ j _ I1 f) λu p ζ=>?_;let(x,k,I2,m,a,l,n,g,d):=ζ;subst n;obtain rfl:u=cf a:=m;show Ac hu I2 g c λq I3=>⟨.bl l.isSome,k,I3,rfl,d⟩
theorem tM(hu:X.A.units+1<lh)(hi:PE X i ty)(ho:PE X o td):PC X .NotIn i o (Fb ty td):=by
 intro b s σ H Q I h;show jl (hi b s σ H _ I h) λr e ζ=>?_;let(y,j,I1,c,f):=ζ;show jl (ho b e σ j _ I1 f) λu p ζ=>?_;let(x,k,I2,m,a,l,n,g,d):=ζ;subst n;obtain rfl:u=cf a:=m;show KU hu I2 g c λq I3=>⟨.bl (!l.isSome),k,I3,rfl,d⟩
theorem o9(hu:X.A.units+1<lh)(ho:PE X o td)(hi:PE X i ty)(hv:PE X value tv)(hs:swapsWith value (some (.Subscript o i pos')) pos.line X.env=pure false) :
  PS X (.Assign [.Subscript o i pos'] value pos) (t4 td ty tv):=by
 intro b s σ H D I h;show wpAny_Assign_Subscript (jl (hv b s σ H _ I h) λr f ζ=>?_) hs;let(v,k,I1,m,j):=ζ;show jl (ho b f σ k _ I1 j) λu c ζ=>?_;let(x,l,I2,p,d):=ζ;show jl (hi b c σ l _ I2 d) λC z ζ=>?_;let(y,B,I3,e,a,n,q,g,t):=ζ;subst q;obtain rfl:u=cf a:=p;show Oe hu I3 g e m λw I4=>⟨σ,n,I4,t⟩
theorem FO(h:Heap)(hb:kd<h.objs.size):jk P w H (h.push { cls:=.type "dict",data:=.dict #[] }) h.objs.size (.dK []) :=
 ⟨kM _,beq_eq_false_iff_ne.mpr (iQ (cq hb)),[], .nil,Heap.DictOf.new h⟩
theorem M0(h:Heap)(hb:kd<h.objs.size):jk P w H (h.push { cls:=.type "dict",data:=.dict #[] }) h.objs.size (.dT []) :=
 ⟨kM _,beq_eq_false_iff_ne.mpr (iQ (cq hb)),[], .nil,_, #[],0,ck _ rfl,⟨rfl,rfl,rfl⟩,rfl,rfl,List.nodup_nil⟩
def Es:TE:=λ_ H Q=>∀ p,H p=none->Q (.ref p) (upd H p (.dK []))
def Er:TE:=λ_ H Q=>∀ p,H p=none->Q (.ref p) (upd H p (.dT []))
theorem qd:PE X (.Dict [] [] pos) Es:=λb s σ H Q I h=>
 wpAny_Dict_empty ⟨.ref s.heap.objs.size,_,I.laid (a:=s.heap.objs.size) (o:=.dK []) (t':=s.toks) (λ_ _ q=>bW _ q) (cB _) (FO s.heap I.big),rfl,h _ (I.hok.fresh (cB _))⟩
theorem LH:PE X (.Dict [] [] pos) Er:=λb s σ H Q I h=>
 wpAny_Dict_empty ⟨.ref s.heap.objs.size,_,I.laid (a:=s.heap.objs.size) (o:=.dT []) (t':=s.toks) (λ_ _ q=>bW _ q) (cB _) (M0 s.heap I.big),rfl,h _ (I.hok.fresh (cB _))⟩
def yT:List (TE × TE)->St->Hp->(List (V × V)->Hp->Prop)->Prop
 | [],_,H,Q=>Q [] H
 | (tk,tv)::r,σ,H,Q=>tk σ H λx H1=>tv σ H1 λy H2=>yT r σ H2 λps H3=>Q ((x,y)::ps) H3
abbrev VV:List (V × V)->List (bV × bV)->Prop:=mB λp q=>RelV p.1 q.1/\RelV p.2 q.2
def yG(X:Cx)(pos:Pos)(keys:List (Option Expr))(values:List Expr)(trs:List (TE × TE)):Prop :=
 ∀(pins:List (Addr × Obj))(s:b8)(σ : St)(H:Hp)(Q:List (V × V)->Hp->Prop),Inv X pins σ H s->yT trs σ H Q ->
  gu (gx X.prog X.w) X.A (evalPairs (pairTrees keys values X.env pos)) (λvs s'=>∃ ps H',Inv X pins σ H' s'/\VV ps vs/\Q ps H') X.xe s
theorem JW:yG X pos [] [] []:=λa s σ H Q I h=>pairTrees_nil_walk ⟨[],H,I, .nil,h⟩
variable{trs:List (TE × TE)}
theorem Ly{k v:Expr}{ks:List (Option Expr)}{vs:List Expr}{tk:TE}(hk:PE X k tk)(hv:PE X v tv)(hr:yG X pos ks vs trs) :
  yG X pos (some k::ks) (v::vs) ((tk,tv)::trs):=λa s σ H Q I h=>
 pairTrees_cons_walk (jl (hk a s σ H _ I h) λu f ζ=>by let(x,i,I1,m,g):=ζ;show jl (hv a f σ i _ I1 g) λp d ζ=>by let(y,j,I2,c,e):=ζ;show jl (hr a d σ j _ I2 e) λr q ζ=>by let(l,n,I3,b,o):=ζ;show((x,y)::l,n,I3, .cons ⟨m,c⟩ b,o))
def vT(kvs more:List (jz × V)):List (jz × V):=more.foldl (λacc kv=>putK acc kv.1 kv.2) kvs
theorem KV.merge:∀{more:List (jz × V)}{rs:List (jz × bV)}{kvs:List (jz × V)}{vs:List (jz × bV)},KV more rs->KV kvs vs->KV (vT kvs more) (merged vs rs):=by
 intro more rs kvs vs r;unfold KV at r;induction r generalizing kvs vs with
 | nil=>intro q;show q
 | @cons p q ps qs h t ih=>
  intro a;have e:KV (putK kvs p.1 p.2) (stored vs q.1 q.2):=by
   have:=a.put p.1 h.2;rw[<- h.1];show this
  show ih e
theorem GV:∀(more kvs:List (jz × V)),(vT kvs more).length<=kvs.length+more.length
 | [],kvs=>by show kvs.length<=kvs.length+0;ac_nf
 | p::r,kvs=>by
  have h1:=GV r (putK kvs p.1 p.2);have h2:=zN kvs p.1 p.2;show(vT (putK kvs p.1 p.2) r).length<=_;rw[i6];ac_nf
theorem GE{P:gN}{w:ik}:∀{kvs:List (jz × V)}{ws:List (bV × bV)},VV (kvs.map λkv=>(kV kv.1,kv.2)) ws->∃ rs,Carries (nh P w) ws rs/\KV kvs rs
 | [],_,r=>by rw[List.map_nil]at r;cases r;show([],iN, .nil)
 | p::kvs,_,r=>by
  rw[hV]at r;cases r with
  | @cons a b as bs h t=>
   let(rs,c,q):=GE (P:=P) (w:=w) t;let(b1,b2):=b;show((p.1,b2)::rs,⟨nY h.1,rfl,c⟩, .cons ⟨rfl,h.2⟩ q)
def tU(trs:List (TE × TE)):TE:=λσ H Q=>∀ p,H p=none->yT trs σ (upd H p (.dK [])) λps H2=>H2 p=some (.dK [])/\∃ kvs:List (jz × V),ps=kvs.map (λkv=>(kV kv.1,kv.2))/\kvs.length<=15/\Q (.ref p) (upd H2 p (.dK (vT [] kvs)))
theorem Ji{keys:List (Option Expr)}{values:List Expr}(h:yG X pos keys values trs)(hall:keys.all (·.isSome)=true)(hl:keys.length=values.length)(h0:keys≠[])
  (h15:keys.length<=15):PE X (.Dict keys values pos) (tU trs):=by
 intro b s σ H Q I q;have i:=I.hok.fresh (cB s.heap.objs.size);have I1:=I.laid (a:=s.heap.objs.size) (o:=.dK []) (h':=s.heap.push { cls:=.type "dict",data:=.dict #[] }) (t':=s.toks) (λ_ _ q=>bW _ q) (cB _) (FO s.heap I.big);show wpAny_Dict_walk (knd:=nh X.prog X.w) hall hl h0 h15 (jl (h b _ σ _ _ I1 (q _ i)) λA y ζ=>?_);let(C,B,I2,g,e,f,l,lk,j):=ζ;subst l;let(t,c,k):=GE (P:=X.prog) (w:=X.w) g;let(z,m,v,u,n):=nO I2.hok e;cases u;show(t,c,n,λh' d hs=>⟨.ref s.heap.objs.size,_,?_,rfl,j⟩);have x:(vT [] f).length<=sizeLine:=by
  have r:=GV f [];rw[List.length_nil]at r;rw[sizeLine_eq];ac_nf
 have p:∃ q,h'.get? s.heap.objs.size=some q:=let⟨q,_,_,hq,_⟩:=d;⟨q,hq⟩;show xZ I2 (by rw[e];show iN) hs p (xV x m (k.merge .nil) d)
structure M1(X:Cx)(o:Expr)(m:Str)(apos:Pos)(e:Expr)(cpos:Pos):Prop where
 base:jb o m X.env (eval o X.env)=eval o X.env
 few:((iP cpos (gy [e] X.env)).all (λx=>!x.1)&&(backToKw cpos (lS [] X.env)).all (λx=>x.1.isSome)
  && decide (([e]:List Expr).length+([]:List Keyword).length+(if([]:List Keyword).isEmpty then 0 else 1)<30))=true
 line:(apos.endLine == cpos.line)=true
 trees:iP cpos (gy [e] X.env)=[(false,eval e X.env)]
structure M2(X:Cx)(o:Expr)(m:Str)(apos:Pos)(e f:Expr)(cpos:Pos):Prop where
 base:jb o m X.env (eval o X.env)=eval o X.env
 few:((iP cpos (gy [e,f] X.env)).all (λx=>!x.1)&&(backToKw cpos (lS [] X.env)).all (λx=>x.1.isSome)
  && decide (([e,f]:List Expr).length+([]:List Keyword).length+(if([]:List Keyword).isEmpty then 0 else 1)<30))=true
 line:(apos.endLine == cpos.line)=true
 trees:iP cpos (gy [e,f] X.env)=[(false,eval e X.env),(false,eval f X.env)]
def vG(H:Hp)(a:Addr):Prop:=(∃ kvs,Rd H a (.dK kvs))\/∃ kvs,Rd H a (.dT kvs)
theorem vd(I:Inv X pins σ H s)(d:vG H a) :
  s.TypeIs (.ref a) "dict"/\(∀ b,cf a=.ref b->∃ ob,s.heap.get? b=some ob/\ob.dict=none)/\(a == kd)=false:=by
 rcases d with⟨kvs,e⟩ | ⟨kvs,e⟩
 .let(_,h,j,_,c):=oE I.hok e;show(c.typeIs,λb q=>?_,h);cases q;let(ob,_,_,g,f,_):=c;show(ob,g,f.2.1)
 .let(_,h,i,_,c):=oC I.hok e;show(c.typeIs,λb q=>?_,h);cases q;let(ob,_,_,g,f,_):=c;show(ob,g,f.2.1)
variable{d:V}{o:Option V}
theorem HP(hu:A.units+1<lh)(I:Inv X pins σ H s)(g:m7 H a y o)(ry:RelV y u)(h:∀ w' s',Inv X pins σ H s'->RelV (o.getD .non) w'->Q w' s') :
  gu (gx X.prog X.w) A (call (.builtin "dict.get") [.ref a,u]) Q E s:=by
 rcases g with⟨kvs,k,e,ey,l⟩ | ⟨kvs,k,b,e,ey,eb,l⟩
 .subst ey;let(z,f,j,c,d):=oE I.hok e;show ka iT d.typeIs ke (PySem.F.args_dict_get_2 _ _) (meets_dict_get (nh X.prog X.w) a (nY ry) f) ⟨_,d.mapOf,h _ _ (I.tok _) ?_⟩;rw[l];show(c.val k).getD rfl
 .subst ey;cases(show u=cf b from ry);let(z,f,i,c,d):=oC I.hok e;show ka iT d.typeIs ke (PySem.F.args_dict_get_2 _ _) (meetsH_dict_get (tupleKind (nh X.prog X.w)) a b f) ⟨kE hu,k,i,vc I.hok eb,d,h _ _ (I.tok _) ?_⟩;rw[l];show(c.val k).getD rfl
theorem HN(hu:A.units+1<lh)(I:Inv X pins σ H s)(g:m7 H a y o)(ry:RelV y u)(rd:RelV d r)(h:∀ w' s',Inv X pins σ H s'->RelV (o.getD d) w'->Q w' s') :
  gu (gx X.prog X.w) A (call (.builtin "dict.get") [.ref a,u,r]) Q E s:=by
 rcases g with⟨kvs,k,e,ey,l⟩ | ⟨kvs,k,b,e,ey,eb,l⟩
 .subst ey;let(z,i,m,c,f):=oE I.hok e;show ka iT f.typeIs ke (PySem.F.args_dict_get_3 _ _ _) (meets_dict_get_default (nh X.prog X.w) a (nY ry) i r) ⟨_,f.mapOf,h _ _ (I.tok _) ?_⟩;rw[l];show(c.val k).getD rd
 .subst ey;cases(show u=cf b from ry);let(z,i,j,c,f):=oC I.hok e;show ka iT f.typeIs ke (PySem.F.args_dict_get_3 _ _ _) (meetsH_dict_get_default (tupleKind (nh X.prog X.w)) a b i r) ⟨kE hu,k,j,vc I.hok eb,f,h _ _ (I.tok _) ?_⟩;rw[l];show(c.val k).getD rd
def Eu(td ty:TE):TE:=λσ H Q=>td σ H λx H1=>∃ a,x=.ref a/\vG H1 a/\ty σ H1 λy H2=>∃ o,m7 H2 a y o/\Q (o.getD .non) H2
def Et(td ty tx:TE):TE:=λσ H Q=>td σ H λx H1=>∃ a,x=.ref a/\vG H1 a/\ty σ H1 λy H2=>tx σ H2 λz H3=>∃ o,m7 H3 a y o/\Q (o.getD z) H3
def Ep(td ty:TE):TE:=λσ H Q=>td σ H λx H1=>∃ a,x=.ref a/\vG H1 a/\ty σ H1 λy H2=>∃ kvs k v,H2 a=some (.dK kvs)/\y=kV k/\lB kvs k=some v/\Q v (upd H2 a (.dK (og kvs k)))
section
variable{o:Expr}{apos cpos:Pos}{f:Expr}{tx:TE}
theorem F3(hu:X.A.units+1<lh)(ho:PE X o td)(he:PE X e ty)(m:M1 X o "get" apos e cpos):PE X (.Call (.Attribute o "get" apos) [e] [] cpos) (Eu td ty):=by
 intro b s σ H Q I h;show me m.base m.few m.line iK iT PySem.F.type_dict_get (jl (ho b s σ H _ I h) λu j ζ=>?_);let(x,l,I1,p,a,t,d,k):=ζ;subst t;obtain rfl:u=cf a:=p;let(q,r,_):=vd I1 d;show(q,r,?_);rw[m.trees];show ig rfl (jr (h9 (jl (he b j σ l _ I1 k) λC v ζ=>?_)));let(y,n,I2,f,z,g,i):=ζ;show iI ?_;show HP hu I2 g f λB w I3 c=>⟨_,n,I3,c,i⟩
theorem LJ(hu:X.A.units+1<lh)(ho:PE X o td)(he:PE X e ty)(hf:PE X f tx)(m:M2 X o "get" apos e f cpos):PE X (.Call (.Attribute o "get" apos) [e,f] [] cpos) (Et td ty tx):=by
 intro b s σ H Q I h;show me m.base m.few m.line iK iT PySem.F.type_dict_get (jl (ho b s σ H _ I h) λu l ζ=>?_);let(x,p,I1,t,a,B,d,n):=ζ;subst B;obtain rfl:u=cf a:=t;let(r,w,_):=vd I1 d;show(r,w,?_);rw[m.trees];show ig rfl (jr (h9 (jl (he b l σ p _ I1 n) λM j ζ=>?_)));let(y,q,I2,i,k):=ζ;show h9 (jl (hf b j σ q _ I2 k) λK G ζ=>?_);let(z,v,I3,C,J,g,D):=ζ;show iI ?_
 show HN hu I3 g i C λL E I4 c=>⟨_,v,I4,c,D⟩
theorem LG(ho:PE X o td)(he:PE X e ty)(m:M1 X o "pop" apos e cpos):PE X (.Call (.Attribute o "pop" apos) [e] [] cpos) (Ep td ty):=by
 intro b s σ H Q I h;show me m.base m.few m.line iK PySem.F.slot_dict_pop PySem.F.type_dict_pop (jl (ho b s σ H _ I h) λu i ζ=>?_);let(x,n,I1,w,a,A,d,j):=ζ;subst A;obtain rfl:u=cf a:=w;let(t,z,_):=vd I1 d;show(t,z,?_);rw[m.trees];show ig rfl (jr (h9 (jl (he b i σ n _ I1 j) λG B ζ=>?_)));let(y,D,I2,f,r,k,v,p,q,l,g):=ζ;show iI ?_;subst q;show xO I2 p f l (.inl rfl) λE C I3 c=>⟨v,_,I3,c,g⟩
end
section
variable{κ:Type}[DecidableEq κ]
end
theorem Inv.turnedL{ch:List Addr}(I:Inv X pins σ H s)(k:∀ b o,b∉ch->s.heap.get? b=some o->h'.get? b=some o)(hf:∀ b∈ch,oi X pins H b):Inv X pins σ H { s with heap:=h',toks:=t' }:=by
 have d:∀ b u,H b=some u->b∉ch:=λb u e z=>by rw[(hf b z).1]at e;cases e
 show I.step (g':=s.gens) (d':=s.drawn) (ch:=ch) (λb hb=>?_) (λb o _ _ a e _=>k b o a e) (λb o _ _ a e _=>⟨o.slots,k b o a e⟩) (λ_ _ _ _ n=>n)
  (λb o a e=>⟨o,k b o a e⟩) (λ_ _ e=>e) (λ_ _ _ e=>e) (λb w e=>⟨#[],by rw[e];simp⟩) (λm l=>?_) (λb u e=>?_) I.bare
 .let(_,g,_,i,p,t):=hf b hb;show(i,g,p,t)
 .let(o,h,j,f,r):=l;show(o,h,j,k _ o (λz=>(hf _ z).2.1 rfl) f,r)
 .show(I.hok b u e).stay (λc v a q=>k c v ?_ q) (λ_ q=>q) λ_ _ q=>q;rcases a with z | z
  .rw[z];show d b u e
  .show d c _ z
theorem za(n a b:Nat)(h1:a<n)(h2:b<n):ZipApart (n+4) (n+2) (n+3) n (n+1) a b where
 TIz:=cq (show n+2<n+4 by ac_nf)
 TOz:=cq (show n+3<n+4 by ac_nf)
 i1z:=cq (show n<n+4 by ac_nf)
 i2z:=cq (show n+1<n+4 by ac_nf)
 TITO:=cq (show n+2<n+3 by ac_nf)
 TIi1:=hB (show n<n+2 by ac_nf)
 TIi2:=hB (show n+1<n+2 by ac_nf)
 TOi1:=hB (show n<n+3 by ac_nf)
 TOi2:=hB (show n+1<n+3 by ac_nf)
 i12:=cq (show n<n+1 by ac_nf)
 l1z:=cq (show a<n+4 by ac_nf)
 l1TO:=cq (show a<n+3 by ac_nf)
 l1i1:=cq (show a<n by ac_nf)
 l1i2:=cq (show a<n+1 by ac_nf)
 l2z:=cq (show b<n+4 by ac_nf)
 l2TO:=cq (show b<n+3 by ac_nf)
 l2i1:=cq (show b<n by ac_nf)
 l2i2:=cq (show b<n+1 by ac_nf)
def BX(K:bY)(a b:Addr):It :=
  ⟨λi H=>∃ xs ys x y,jM K H a xs/\jM K H b ys/\xs[i]?=some x/\ys[i]?=some y,
   λi H v H'=>∃ p x y,(∀ xs,jM K H a xs->xs[i]?=some x)/\(∀ ys,jM K H b ys->ys[i]?=some y)/\H p=none/\v=.ref p/\H'=upd H p (.tup [x,y]),
   λi H=>∃ xs ys,jM K H a xs/\jM K H b ys/\(xs.length<=i\/ys.length<=i)⟩
variable{elts:List Expr}{x1:Nat}{tp:Pos}
theorem Md{K:bY}{z TI TO i1 i2:Addr}(D:ZipApart z TI TO i1 i2 a b) :
  Turn P w K (.Tuple elts x1 tp) (BX K a b) [z,TI,TO,i1,i2] z (λi h=>IsZip h z TI TO .none/\mi h TI (.ref i1) (.ref i2)/\(∃ u v,mi h TO u v)/\h.IsListIter i1 a i/\h.IsListIter i2 b i) where
 mem:=by simp
 obj:=λi h m c f=>by
  let(r,g,(u,v,j),C,F):=m;simp only[gW,iJ,or_false]at f;rcases f with rfl | rfl | rfl | rfl | rfl
  .show(_,r,λv z=>by cases z)
  .show(_,g,λv z=>by cases z)
  .show(_,j,λv z=>by cases z)
  .let(o,e,c,d):=C;show(o,e,λv z=>by rw[d]at z;cases z)
  .let(o,e,c,d):=F;show(o,e,λv z=>by rw[d]at z;cases z)
 keep:=λi h U m k=>by
  let(r,g,(u,v,j),C,F):=m;show(k z (by simp) _ r,k TI (by simp) _ g,⟨u,v,k TO (by simp) _ j⟩,C.at λo e=>k i1 (by simp) o e,F.at λo e=>k i2 (by simp) o e)
 item:=by
  intro X hP hw hK f i B s σ H E I N m Z;subst hP hw hK;let(r,g,(u,v,j),C,F):=m;let(xs,ys,x,y,M,J,hx,hy):=Z;let(a8,rx,R,zx):=I.list M;let(b0,O,Y,zy):=I.list J;let(T,S,a9):=rx.get hx;let(V,a7,a0):=O.get hy;show wpAny_pyNext_zip_item D r g j C F R.isList Y.isList (x:=T) (y:=V) (by simpa using S) (by simpa using a7) λU a1 a2 a3 a4 a5 a6 L=>?_;show(_,rfl,?_);show wpAny_letOwnedTupleGo_zip (s:={ s with heap:=U }) a1 λG b1 l=>?_;have t:∀{c o},s.heap.get? c=some o->c≠s.heap.objs.size:=λe=>cq (b9 e);have nz:s.heap.objs.size≠z:=λq=>t r q.symm;have I1:Inv X B σ H { s with heap:=G,toks:=s.toks }:=I.turnedL (ch:=[z,TI,TO,i1,i2]) (λc o f e=>by
   simp only[gW,iJ,or_false,not_or]at f;show l.extBut _ _ f.1 (L c o f.1 f.2.2.1 f.2.2.2.1 f.2.2.2.2 e)) N
  have fr:H s.heap.objs.size=none:=I.hok.fresh (cB _);have hT:G.get? s.heap.objs.size=some { cls:=.type "tuple",data:=.seq #[T,V] }:=l.extBut _ _ nz a5;have I2:=I1.track (a:=s.heap.objs.size) (o:=.tup [x,y]) fr (i3 I.sz) (hB I.lt) (λn c e q=>by
   let(v,o,ho,_):=I.cell n c e;show t ho q) (λp hp q=>t (I.pin p hp).1 q) ⟨by show 2<=sizeLine;decide,[T,V], .cons a9 (.cons a0 .nil),⟨_,hT,rfl,_,rfl⟩⟩
  show(.ref s.heap.objs.size,_,I2,rfl,⟨_,x,y,λzs q=>by rw[I.list_inj q M];show hx,λzs q=>by rw[I.list_inj q J];show hy,fr,rfl,rfl⟩,?_,λc f=>?_)
  .show(b1,l.extBut _ _ D.TIz (L _ _ D.TIz D.TITO D.TIi1 D.TIi2 g),⟨_,_,l.extBut _ _ D.TOz a2⟩,a3.extBut l.extBut D.i1z,a4.extBut l.extBut D.i2z)
  .have ne:c≠s.heap.objs.size:=by
    simp only[gW,iJ,or_false]at f;rcases f with rfl | rfl | rfl | rfl | rfl
    .show t r
    .show t g
    .show t j
    .let(o,e,_):=C;show t e
    .let(o,e,_):=F;show t e
   rw[kk ne];show(N c f).1
 done:=by
  intro X hP hw hK f i B s σ H E I N m Z;subst hP hw hK;let(r,g,(u,v,j),C,F):=m;let(xs,ys,M,J,he):=Z;let(a8,rx,R,zx):=I.list M;let(b0,O,Y,zy):=I.list J;have lx:=rx.length;have ly:=O.length;show wpAny_pyNext_zip_end (I.ok.hd f) D r g j C F R.isList Y.isList (by
   rcases he with he | he
   .show .inl (by simp;ac_nf)
   .show .inr (by simp;ac_nf)) λU L=>⟨rfl,?_⟩
  show I.turnedL (t':=s.toks) (ch:=[z,TI,TO,i1,i2]) (λc o f e=>by
   simp only[gW,iJ,or_false,not_or]at f;show L c o f.1 f.2.2.1 f.2.2.2.1 f.2.2.2.2 e) N
 self:=λA i s Q E m q=>wpAny_pyIter_zip m.1 q
def xG(K:bY)(ta:TA):TI:=λσ H R=>ta σ H λvs H1=>∃ a b,vs=[.ref a, .ref b]/\(∃ xs,jM K H1 a xs)/\(∃ ys,jM K H1 b ys)/\R (BX K a b) H1
theorem HJ{a b:Expr}{ta:TA}{p:Pos}(hg:Gl X "zip")(hm:X.mg "zip"=none)(hv:gI "zip"=some (.type "zip"))(ha:PA X [a,b] ta)
  (he:autoParam (gy [a,b] X.env=(false,eval a X.env)::gy [b] X.env) Au) (hpl:autoParam ((iP pos (gy [b] X.env)).any (·.1)=false) Au) :
  PI X (.Tuple elts x1 tp) (.Call (.Name "zip" p) [a,b] [] pos) (xG X.K ta):=by
 intro f s σ H R I h;show ic (se I hg hm hv ?_);show ie (jl (ha pos f s σ H _ I h) λV d ζ=>?_) he hpl;let(U,x,I1,A,t):=ζ;let(j,i,e,(O,C),(N,o),q):=t;subst e;let(u,v,rfl,J,D):=vals2 A;cases(show u=cf j from J);cases(show v=cf i from D);let(B,W,l,S):=I1.list C;let(L,M,m,T):=I1.list o;have r:j<d.heap.objs.size:=by let(_,e,_):=l.isList;show b9 e
 have E:i<d.heap.objs.size:=by let(_,e,_):=m.isList;show b9 e
 show call_zip_2 l.isList m.isList λQ k G F z w P y=>?_;have ZA:ZipApart (d.heap.objs.size+4) (d.heap.objs.size+2) (d.heap.objs.size+3) d.heap.objs.size (d.heap.objs.size+1) j i:=za _ j i r E;show wpAny_pyIter_zip k ?_;show(d.heap.objs.size+4,[d.heap.objs.size+4,d.heap.objs.size+2,d.heap.objs.size+3,d.heap.objs.size,d.heap.objs.size+1],_,_,x,rfl,I1.kept (t':=d.toks) y,Md ZA,⟨k,G,⟨_,_,F⟩,z,w⟩,λc n=>?_,q);have g:d.heap.objs.size<=c:=by
  simp only[gW,iJ,or_false]at n;rcases n with rfl | rfl | rfl | rfl | rfl
  .show jJ _ _
  .show jJ _ _
  .show jJ _ _
  .show cB _
  .show jJ _ _
 show I1.fpOk g (I1.hok.fresh g)
section
variable{Q:VK}{En:Ends}{tx:TE}{K:bY}
end
theorem kP{a b:Nat}(h:a+64<b):a+1<b:=by ac_nf
def xr(K:bY):R2:=λx y H Q=>∃ p xs ds,x=.non/\y=.ref p/\jM K H p xs/\kC K H ds xs/\(∀ d∈ds,depD d<=40)/\Q (.bl (ds.any nonD)) H
theorem KQ(d:D):eqD d .non=nonD d:=by cases d <;> simp[eqD,nonD]
theorem AI{K:bY}:∀{ds:List D}{xs:List V}{us:List bV},kC K H ds xs->Vals xs us->(us.any λu=>u == .none)=ds.any nonD
 | [],xs,us,h,r=>by
  simp only[kC]at h;subst h;cases r;rfl
 | d::ds,xs,us,h,r=>by
  simp only[kC]at h;let(v,vs,rfl,hd,ht):=h;cases r with
  | cons r0 r1=>
   rw[lT,lT,AI ht r1]
   congr 1
   cases d <;> simp only[Rep]at hd
   .subst hd;cases r0;rfl
   .subst hd;cases r0;rfl
   .subst hd;let(t,rfl):=r0;rfl
   .subst hd;let(t,rfl):=r0;rfl
   .let(a,xs,rfl,_):=hd;cases r0;rfl
   .let(a,xs,rfl,_):=hd;cases r0;rfl
theorem E5{K:bY}{H:Hp}(I:Inv X pins σ H s)(hK:X.K=K){A:iM}(hA:A.units+60<lh):∀{ds:List D}{xs:List V}{us:List bV},kC K H ds xs->Vals xs us->(∀ d∈ds,depD d<=40) ->
  ∀ u∈us,SeqAt.EqAt A s u .none (u == .none)
 | [],xs,us,h,r,_=>by
  simp only[kC]at h;subst h;cases r;intro u hu;cases hu
 | d::ds,xs,us,h,r,hd=>by
  simp only[kC]at h;let(v,vs,rfl,h0,ht):=h;cases r with
  | @cons _ u0 _ us0 r0 r1=>
   intro u hu;rcases gW.mp hu with rfl | hu
   .have e:=I.eqP 40 d .non A v .non u .none (hd d (by simp)) (hK ▸ h0) (by simp only[Rep]) r0 rfl ∅;rw[KQ]at e;have en:(u == gY)=nonD d:=by
     have:=AI (K:=K) (H:=H) (ds:=[d]) (xs:=[v]) (us:=[u]) (by simp only[kC];show(_,_,rfl,h0,rfl)) (.cons r0 .nil);simpa using this
    rw[en];show e
   .show E5 I hK hA ht r1 (λd' h'=>hd d' (ia _ h')) u hu
theorem Jb(hu:X.A.units+64<lh):mX X (ib .In) (xr X.K):=λb s σ H x y v u Q I i d q=>by
 let(p,j,k,rfl,rfl,e,c,f,q):=q;cases(show u=cf p from d);cases(show v=gY from i);let(a,r,g,l):=I.list e;show SeqAt.in_listAt (λw=>w == .none) g.isList (λw h=>E5 I rfl (A:=X.A.in1) (by rw[in1_units];ac_nf) c r f w (by simpa using h)) ⟨.bl _,H,I,rfl,?_⟩;rw[show a.toArray.any (λw=>w == gY)=a.any (λw=>w == gY) by simp,AI c r];show q
def rMul0:R2:=λx y H Q=>match x,y with
 | .str z, .int n=>0<=n/\n<1000/\z.length<=1000/\∀ z':Str,z'.cps.toList=(gB n.toNat z.cps.toList).flatten->Q (.str z') H
 | x,y=>rMulS x y H Q
theorem qO:mX X (kb .Mult) rMul0:=λa s σ H x y v u Q I c b q=>by
 unfold rMul0 at q;split at q
 .rename_i z n;let(h,e,f,q):=q;by_cases d:n=0
  .subst d;let(t,rfl):=c;let(g,rfl):=b;show PySem.P.mul_str_none ⋯ ⋯ ⟨.str _,H,I.tok _,⟨_,rfl⟩,q Str.empty rfl⟩
  .show FA a s σ H _ _ v u Q I c b ⟨∅,e,f,q⟩
 .show FA a s σ H _ _ v u Q I c b q
section
variable{Q:VK}{K:bY}
theorem Jl4{i j:Int}:rMul0 (.int i) (.int j) H Q=(mI i j/\Q (.int (i*j)) H):=rfl
end
theorem tN.byL{K:bY}{xs:List V}{g:TG}{tb:TS}{D:Ends}(hA:jM K H a xs)(Pv:Nat->St->Hp->Prop)(h0:Pv 0 σ H)(hl:∀ i σ H',Pv i σ H'->jM K H' a xs)
  (hs:∀ i x σ H,xs[i]?=some x->Pv i σ H->g x σ H λσ2 H2=>tb { D with nx:=Pv (i+1),ct:=Pv (i+1),bk:=D.nx } σ2 H2) (hd:∀ σ H,Pv xs.length σ H->D.nx σ H):tN K a g tb D σ H:=by
 show .inl ⟨⟨xs,hA⟩,λi m σ H=>Pv i σ H/\i<=xs.length/\m=xs.length-i,⟨_,h0,kM _,rfl⟩,?_⟩;rintro i m σ H ⟨c,f,rfl⟩;have d:=hl i σ H c;by_cases b:i<xs.length
 .show .inr ⟨⟨xs,xs[i],d,b7 b⟩,Pv (i+1),λσ' H' p=>⟨_,Nat.sub_lt_sub_left b (jI i),p,b,rfl⟩,?_⟩;rintro x H' ⟨rfl,hx⟩;show hs i x σ _ (hx xs d) c
 .have e:i=xs.length:=by ac_nf
  subst e;show .inl ⟨⟨xs,d,cB _⟩,hd σ H c⟩
def B2(J:It)(g:TG)(tb:TS)(D:Ends)(σ : St)(H:Hp):Prop:=∃ W:Nat->Nat->St->Hp->Prop,(∃ m,W 0 m σ H)/\∀ i m σ H,W i m σ H ->
 (J.stop i H/\D.nx σ H)\/(J.go i H/\∃ N:St->Hp->Prop,(∀ σ' H',N σ' H'->∃ m',m'<m/\W (i+1) m' σ' H')/\∀ x H',J.yld i H x H'->g x σ H' λσ2 H2=>tb { D with nx:=N,ct:=N,bk:=D.nx } σ2 H2)
end L2
namespace Ch
open PySem
structure TD where
 nm:Str
 st:Str
 en:Str
 lo:Option (Int × Int)
 hi:Option (Int × Int)
structure SD where
 src:Str
 dst:Str
 c:Int × Int
 nm:Str
 fw:Bool
def fwd(t:TD):List SD:=match t.hi with
 | some h=>[⟨t.st,t.en,h,t.nm,true⟩]
 | none=>[]
def Hs(t:TD):List SD:=match t.lo with
 | some l=>[⟨t.en,t.st,(-l.1,l.2),t.nm,false⟩]
 | none=>[]
def steps(t:TD):List SD:=fwd t++Hs t
def all(ts:List TD):List SD:=ts.flatMap steps
abbrev Pr:=Str × Bool
def key(s:SD):Pr:=(s.nm,s.fw)
def xC(acc:Option SD)(ss:List SD)(k:Pr):Option SD:=ss.foldl (λa s=>if key s=k then some s else a) acc
def last(ss:List SD)(k:Pr):Option SD:=xC none ss k
def Af(a c:Int × Int):Int × Int:=(Mth.top (a.1*c.2+c.1*a.2) (a.2*c.2),Mth.bot (a.1*c.2+c.1*a.2) (a.2*c.2))
end Ch
namespace L2
open PySem PySem.Spec PyProof.Rows Ch
section
variable{H H':Hp}{K:bY}
end
variable{α:Type}
def ju(P : α->V->Prop):List α->List V->Prop
 | [],xs=>xs=[]
 | a::as,xs=>∃ x r,xs=x::r/\P a x/\ju P as r
section
variable{P P' : α->V->Prop}
theorem ju.mono:∀{as:List α}{xs:List V},(∀ a x,P a x->P' a x)->ju P as xs->ju P' as xs
 | [],_,_,h=>h
 | a::as,xs,f,h=>by
  let(x,r,e,h1,h2):=h;show(x,r,e,f _ _ h1,ju.mono f h2)
theorem ju.length:∀{as:List α}{xs:List V},ju P as xs->xs.length=as.length
 | [],_,h=>by rw[show _=_ from h];rfl
 | a::as,xs,h=>by
  let(x,r,e,h1,h2):=h;rw[e,i6,i6,h2.length]
theorem ju.get:∀{as:List α}{xs:List V}{i:Nat}{a : α},ju P as xs->as[i]?=some a->∃ x,xs[i]?=some x/\P a x
 | [],_,_,_,h,hx=>by simp at hx
 | a::as,xs,i,b,h,hx=>by
  let(x,r,e,h1,h2):=h;subst e;cases i with
  | zero=>simp at hx;subst hx;show(x,rfl,h1)
  | succ i=>simpa using ju.get h2 (by simpa using hx)
theorem ju.append:∀{as bs:List α}{xs ys:List V},ju P as xs->ju P bs ys->ju P (as++bs) (xs++ys)
 | [],bs,xs,ys,h,g=>by rw[show xs=[]from h];show g
 | a::as,bs,xs,ys,h,g=>by
  let(x,r,e,h1,h2):=h;subst e;show(x,r++ys,rfl,h1,ju.append h2 g)
theorem ju.one{a : α}{x:V}(h:P a x):ju P [a] [x]:=⟨x,[],rfl,h,rfl⟩
theorem ju.take:∀{as:List α}{xs:List V}(j:Nat),ju P as xs->ju P (as.take j) (xs.take j)
 | as,xs,0,_=>by simp only[List.take_zero];show rfl
 | [],xs,j+1,h=>by rw[show xs=[]from h];simp;show rfl
 | a::as,xs,j+1,h=>by
  let(x,r,e,h1,h2):=h;subst e;show(x,r.take j,by simp,h1,ju.take j h2)
theorem ju.drop:∀{as:List α}{xs:List V}(j:Nat),ju P as xs->ju P (as.drop j) (xs.drop j)
 | as,xs,0,h=>by simpa using h
 | [],xs,j+1,h=>by rw[show xs=[]from h];simp;show rfl
 | a::as,xs,j+1,h=>by
  let(x,r,e,h1,h2):=h;subst e;simpa using ju.drop j h2
end
section
variable{H:Hp}{kvs:List (List jz × V)}{ss:List SD}{K:bY}
end
def JH(J:It)(k:Nat)(cs:List (Nat × Str))(g:TG)(tt:TT)(te:TE)(σ : St)(Q:VK)(H1:Hp):Prop:=∃ W:Nat->Nat->List V->Hp->Prop,(∃ m,W 0 m [] H1)/\∀ i m ys H2,W i m ys H2->ys.length<=sizeLine /\
  ((J.stop i H2/\∀ p,H2 p=none->Q (.ref p) (upd H2 p (.lst ys))) \/
   (J.go i H2/\∀ x H3,J.yld i H2 x H3->g x (gB k none++n8 cs σ) H3 λσ4 H4=>tt σ4 H4 λb H5=>if b=true then te σ4 H5 λy H6=>∃ m',m'<m/\W (i+1) m' (ys++[y]) H6 else∃ m',m'<m/\W (i+1) m' ys H5))
section
variable{tt:TT}{te tl:TE}{σ:St}{H H1:Hp}{Q:VK}{a:Addr}{xs:List V}{K:bY}{k:Nat}{cs:List (Nat × Str)}{g:TG}
end
section
variable{ss:List SD}{c:Pr}{s:SD}{tot:Int × Int}{l:Str}{cs:List Pr}{f:Str}
end
section
variable{H:Hp}{Q:VK}{K:bY}
end
variable{prog:gN}{w:ik}{A:iM}{E:bV->b8->Prop}{s:b8}{M:Model}
section
variable{I a:Addr}{es:Array (Int × bV)}{i ep:Nat}{Q:Option bV->b8->Prop}{t:SetTable}
end
variable{S r:Addr}{R:Result->b8->Prop}
theorem Lk(h:gu (gx prog w) A.in1 (js (.ref S) (.ref r) (.ref S)) (λfin s'=>match fin with | .done f=>R (.ok f) s' | .again c'=>c'.quiet=true/\kl (gx prog w) A c' R s') (λe s'=>R (.error e) s') s) :
  kl (gx prog w) A (.builtin "list.__iadd__" ⟨[.ref S, .ref r],[]⟩) R s:=by
 show mU (PySem.F.entry_list_iadd) ?_;rw[lX (PySem.F.plain_list_iadd) _];show h
variable{ss:List Str}
theorem Nu{Q:bV->b8->Prop}(h64:ss.length<64)
  (hx:∀(R:Result->b8->Prop),(∀ s' (vs:List bV) c' ss',(∀ b o,s.heap.get? b=some o->s'.heap.get? b=some o)->s'.gens=s.gens->s'.os=s.os->s.toks<=s'.toks ->
    s'.heap.get? s.heap.objs.size=some { cls:=.type "list",dict:=none,data:=.seq vs.toArray c',slots:=#[] }->StrsAre vs ss'->ss'.Perm ss->R (.ok (.ret (.ref s.heap.objs.size))) s') ->
   kl (gx prog w) A.in1 (.builtin "list.__iadd__" ⟨[.ref s.heap.objs.size, .ref r],[]⟩) R { s with heap:=s.heap.push { cls:=.type "list",data:=.seq ([]:List bV).toArray } })
  (q:∀ s' l (out:Array bV) ss' e,(∀ b o,s.heap.get? b=some o->s'.heap.get? b=some o)->s'.gens=s.gens->s'.os=s.os->s.toks<=s'.toks->s.heap.objs.size<=l->s'.heap.get? l=some (seqObj "list" out e)->StrsAre out.toList ss'->ss'.Perm ss->sortedS ss'=true->Q (.ref l) s') :
  gu (gx prog w) A (call (.builtin "sorted") [.ref r]) Q E s:=by
 show Calls.call_function_entry kind_sorted plain_sorted entry_sorted (args_sorted1 _) ?_;unfold Builtin.«sorted»;show bO (m:=checkCount "sorted" 1 1 _) (gw ?_);show bO ?_;unfold collect;show bO (wpAny_runValue (mU (PySem.F.entry_proto_collect) ?_));rw[lX (PySem.F.plain_proto_collect) _];show gu _ A.in1.in1 (newList [] >>= λl=>again (.builtin "list.__iadd__" ⟨[l, .ref r],[]⟩)) _ _ s;show bO (kO ?_);show gw ⟨plainId_quiet (PySem.F.plain_list_iadd) _,hx _ λs' vs c' B k p v z g hs i=>?_⟩;show bO (m:=load s.heap.objs.size) (wpAny_load g (gw ?_));have t:vs.length<64:=by rw[hs.length,i.length_eq];show h64
 have D:(64:Nat)<=sizeLine:=by decide
 dsimp only;show bO (wpAny_newList ?_ (by show vs.length<=sizeLine;ac_nf));have a:(s'.heap.push (seqObj "list" vs.toArray 0)).get? s'.heap.objs.size=some (seqObj "list" vs.toArray 0):=ck _ rfl;show bO (kc (lq slot_list_sort ⟨_,a,rfl⟩ entry_list_sort (list_sort_treeK strKind_oneLt a hs.keysOf (λH G rest e=>keyKind_strs (by rw[<- e];show hs)) t λn d c=>⟨_,rfl,?_⟩) (args_list_sort _)));let(f,u,j,C):=sorted_out_str hs d c;let(y,x):=sortedHeap_at (out:=(arrOf n).map (·.2)) a;show gw ⟨_,rfl,q _ s'.heap.objs.size _ f y (λb o e=>?_) p v z ?_ x u (j.trans i) C⟩
 .have h:=b9 (k b o e);rw[sortedHeap_old (cq h) (by rw[size_push'];show lN h)];show bW _ (k b o e)
 .show Nat.le_of_lt (b9 g)
theorem Fd:∀(vs:List bV),(∀ v∈vs, ∃ x t,v=.str x t)->StrsAre vs (vs.map strOf)
 | [],_=>.nil
 | v::vs,h=>by
  let(x,t,rfl):=h v (by simp);show .cons x t (Fd vs λu hu=>h u (by simp[hu]))
theorem OT{K:Type}[DecidableEq K]{knd:PySem.KeyKind prog w K}{d:Addr}{kvs:List (K × bV)}{ep:Nat}{ss:List Str}{Q:bV->b8->Prop}(hh:A.handled=none)(lo:(d == kd)=false)(hd:s.heap.DictAt knd d kvs ep)(h64:kvs.length<64)
  (hl:ss.length=kvs.length) (hk:∀ i k x v,kvs[i]?=some (k,x)->knd.is k v=true->∃ t,v=.str (ss.getD i ⟨#[]⟩) t)
  (q:∀ s' l (out:Array bV) ss' e,(∀ b o,s.heap.get? b=some o->s'.heap.get? b=some o)->s'.gens=s.gens->s'.os=s.os->s.toks<=s'.toks->s.heap.objs.size<=l->s'.heap.get? l=some (seqObj "list" out e)->StrsAre out.toList ss'->ss'.Perm ss->sortedS ss'=true->Q (.ref l) s') :
  gu (gx prog w) A (call (.builtin "sorted") [.ref d]) Q E s:=by
 have S:(64:Nat)<=sizeLine:=by decide
 have H:=hd.lt_size;have O:A.in1.handled=none:=by simp[hh]
 show Nu (ss:=ss) ∅ (λR k=>?_) q;obtain⟨B,p⟩:∃ B:Result->b8->Prop, ∀ r s',B r s'↔∃ g y a j,r=.ok (.ret (.ref s.heap.objs.size))/\s'={ s with heap:=g,toks:=y }/\(∀ b o,b≠s.heap.objs.size->(s.heap.push { cls:=.type "list",data:=.seq ([]:List bV).toArray }).get? b=some o->g.get? b=some o)/\g.get? s.heap.objs.size=some { cls:=.type "list",dict:=none,data:=.seq a j,slots:=#[] }/\ItemsOf (λi v=>∃ k x,kvs[i]?=some (k,x)/\knd.is k v=true) a kvs.length:=⟨_,λ_ _=>Iff.rfl⟩;have u:=codeAny_toks_of (n:=s.toks) (s:={ s with heap:=s.heap.push { cls:=.type "list",data:=.seq ([]:List bV).toArray } }) (cB _) (Lk (A:=A.in1) (R:=B)
  (W.kdl_extend (R:=B) (s:={ s with heap:=s.heap.push { cls:=.type "list",data:=.seq ([]:List bV).toArray } }) (W.kdl_dict (knd:=knd) (kvs:=kvs) (ep:=ep) lo) O (hd.push _) s.heap.objs.size (hB H) (hB H) (.ref s.heap.objs.size) 0 (ck _ rfl) (λg y a j F hl f=>(p _ _).mpr ⟨g,y,a,j,rfl,rfl,F,hl,f⟩) ∅))
 show mf u ?_;rintro r s' ⟨J,N⟩;let(g,y,a,j,rfl,rfl,F,m,f):=(p _ _).mp N;have P:StrsAre a.toList ss:=by
  have h:∀ v∈a.toList, ∃ x t,v=.str x t:=λv M=>by
   let(i,G):=List.getElem?_of_mem M;rw[jK]at G;let(D,x,z,C):=f.2 i v G;let(t,e):=hk i D x v z C;show(_,t,e)
  have:=Fd _ h;have e:a.toList.map strOf=ss:=by
   show List.ext_getElem? λi=>?_;rw[gG,jK];have T:a.size=kvs.length:=f.1;by_cases c:i<kvs.length
   .have z:a[i]?=some a[i]:=Array.getElem?_eq_getElem ∅;let(D,x,C,L):=f.2 i _ z;let(t,I):=hk i D x _ C L;rw[z,Option.map_some,I,b7 ∅];simp[strOf,iw,b7 (show i<ss.length by ac_nf)]
   .rw[Array.getElem?_eq_none ∅,iH ∅];rfl
  rw[e]at this;show this
 show k _ a.toList j ss (λb o e=>F b o (cq (b9 e)) (bW _ e)) rfl rfl J (by rw[kK];show m) P (.refl _)
theorem Jz:typeLookup (.type "list") "keys"=pure none:=by rw[typeLookup_type,builtinLookup_eq_fast];kernel_rfl
variable{a:Addr}{its:Array bV}{n:Nat}
theorem Le{Q:Option bV->b8->Prop}(hh:A.handled=none)(hx:s.heap.get? a=some { cls:=.type "list",dict:=none,data:=.seq its n,slots:=#[] })
   (q:∀ h' t',(∀ b o,s.heap.get? b=some o->h'.get? b=some o)->Q none { s with heap:=h',toks:=t' }) :
    gu (gx prog w) A (getAttr? (.ref a) "keys") Q E s:=by
  let(i,g,d,l,j):=s;have h:∀ c,(⟨i,g,d,c,j⟩:b8).TypeIs (.ref a) "list":=λ_=>⟨_,hx,rfl⟩;have t:=sub_AttributeError;have k:=lM.lookup;have p:=lM.bind (.ref a);have r:=am_list_getattr_none;unfold getAttr?;unfold getAttrBy?;unfold getAttrBy;repeat (any_goals (first | assumption | show h _ | ((with_reducible show gu _ _ (call (jo "list.__getattribute__") _ _) _ _ _);show lg lM (h _) am_entry_list_getattribute (PySem.F.args_list_getattribute_2 _ _) (meets_getattribute_miss_list a its n #[] "keys" _ Jz (by decide +kernel) ⋯) ⟨hx,hh,λh' c e f=>?_⟩) | wp_step))
  let(t',u,m):=f.there;show gu _ _ (getattributeRaised _ _ _ _ _ _ _) _ _ _;unfold getattributeRaised;repeat (any_goals (first | assumption | wp_step))
  show q h' c f.keeps
theorem Gf:entryFor table "dict.update.loop"=some Builtin.«dict.update.loop»:=entryFor_of_tree (by kernel_rfl)
theorem zt:plainId "dict.update.loop"=true:=by decide +kernel
def pN(key:Nat->Str)(val:Nat->bV)(i:Nat):List (jz × bV):=(gO i).foldl (λl j=>PySem.stored l (iZ (key j)) (val j)) []
theorem Bg(key:Nat->Str)(val:Nat->bV)(i:Nat):pN key val (i+1)=PySem.stored (pN key val i) (iZ (key i)) (val i):=by
 unfold pN;rw[List.range_succ,List.foldl_append];rfl
theorem A2(key:Nat->Str)(val:Nat->bV):∀ i,(pN key val i).length<=i
 | 0=>cB _
 | i+1=>by
  have:=A2 key val i;rw[Bg];unfold PySem.stored;split <;> simp <;> ac_nf
def uj(h:Heap)(a:Addr)(k v:bV):Prop:=∃ o c,h.get? a=some o/\o.cls=.type "tuple"/\o.data=.seq #[k,v] c
variable{h:Heap}
theorem uj.at_{h':Heap}{k v:bV}(x:uj h a k v)(m:∀ o,h.get? a=some o->h'.get? a=some o):uj h' a k v:=by
 let(o,c,e,r):=x;show(o,c,m o e,r)
theorem Ju{z:Str}{t:Tok}:(nh prog w).is (iZ z) (.str z t)=true:=by
 show keyIs (iZ z) (.str z t)=true;simp[keyIs,bV.isStrOf]
variable{I:Addr}
theorem Ob{fp wr:List Addr}{G:Array GenState->Array GenState->Prop}{P:Nat->bV->Prop}{St:Nat->b8->Prop}
  (W:WalksS prog w A.in1 I fp wr G n P St) (d:Addr) (hdf:d∉fp) (adr:Nat->Addr) (key:Nat->Str) (val:Nat->bV) (hP:∀ i v,P i v->v=.ref (adr i)) (nd:∀ i,i<n->adr i≠d) (nw:∀ i,i<n->adr i∉wr) (hz:n<=sizeLine) :
  ∀(k i:Nat)(s:b8),n-i=k->i<=n->St i s->s.heap.DictOf (nh prog w) d (pN key val i)->(∀ j,j<n->∃ tk,uj s.heap (adr j) (.str (key j) tk) (val j)) ->
   (∀ s',Moved (d::wr) G s s'->s'.heap.DictOf (nh prog w) d (pN key val n)->R (.ok (.ret .none)) s') ->
   kl (gx prog w) A (.builtin "dict.update.loop" ⟨[.ref d, .ref I, .int (i:Int) 0, .none],[]⟩) R s:=by
 have N:d∉wr:=λh=>hdf (W.sub _ h);have K:∀ b∈wr,b∈d::wr:=λb h=>ia _ h;intro k;induction k with
 | zero=>
  intro i s S V p x g q;have : i=n:=by ac_nf
  subst this;show mU Gf ?_;rw[lX zt _];show bO (m:=pyNext (.ref I)) (W.done s _ _ p λs' f=>?_);show bO (m:=Builtin.Dict.addKeywords d []) (gw (gw ?_));show q s' (f.mono K) ?_;let(o,C,D,r,rest):=x;show(o,C,D,f.heap d o N r,rest)
 | succ k ih=>
  intro i s S V p x g q;have c:i<n:=by ac_nf
  show mU Gf ?_;rw[lX zt _];show bO (m:=pyNext (.ref I)) (W.item i s _ _ c p λv s' X J f=>?_);rw[hP i v X];have u:s'.heap.DictOf (nh prog w) d (pN key val i):=by
   let(o,C,D,r,rest):=x;show(o,C,D,f.heap d o N r,rest)
  have a:∀ j,j<n->∃ tk,uj s'.heap (adr j) (.str (key j) tk) (val j):=λj l=>by
   let(tk,e):=g j l;show(tk,e.at_ λo z=>f.heap _ o (nw j l) z)
  let(tk,Z,ct,M,H,B):=a i c;have dl:=A2 key val i;show bO (kc ?_);show bO (wpAny_tryCatch ?_);unfold Builtin.Dict.pairItems;show bO (wpAny_typeOf (T:="tuple") ⟨_,M,H⟩ ?_);rw[if_pos ⋯];unfold seqItems?;show bO (bO (wpAny_load M ?_));rw[B];show gw (gw ?_);show gu _ _ (holding [bV.str (key i) tk,val i] (dictSet d (.str (key i) tk) (val i))) _ _ _;show kc (wpAny_dictSet_pairs (knd:=nh prog w) (k:=iZ (key i)) Ju u (λL Y t=>?_) ∅);have E:L.DictOf (nh prog w) d (pN key val (i+1)):=by
   rw[Bg];show Y
  show gw ⟨plainId_quiet zt _,ih (i+1) { s' with heap:=L,toks:=s'.toks+1 } ∅ c (W.frame _ s' _ _ J (mm _) λb hb o e=>?_) E (λj l=>?_) λO Q F=>?_⟩
  .rw[t.2 b (λh:b=d=>hdf (h ▸ hb))];show e
  .let(y,U):=a j l;show(y,U.at_ λo z=>(t.2 _ (nd j l)).trans z)
  .show q O (Moved.trans W.gtrans ((f.mono K).then_heap (mm _) λb o hb e=>?_) Q) F;rw[t.2 b (λh:b=d=>hb (by rw[h];show i8))];show e
theorem PX{l:Addr}{items:Array bV}{c0:Nat}{Q:bV->b8->Prop}(hh:A.handled=none)(hl:s.heap.get? l=some { cls:=.type "list",dict:=none,data:=.seq items c0,slots:=#[] })(adr:Nat->Addr)(key:Nat->Str)(val:Nat->bV)
  (hP:∀(i:Nat)(v:bV),items[i]?=some v->v=.ref (adr i)) (tup:∀ j,j<items.size->∃ tk,uj s.heap (adr j) (.str (key j) tk) (val j)) (hz:items.size<=sizeLine)
  (q:∀ h' tk,(∀ b o,s.heap.get? b=some o->h'.get? b=some o)->h'.DictOf (nh prog w) s.heap.objs.size (pN key val items.size)->Q (.ref s.heap.objs.size) { s with heap:=h',toks:=tk }) :
  gu (gx prog w) A (call (.type "dict") [.ref l]) Q E s:=by
 show callType_codes (Q₁:=λg B=>g=.ref s.heap.objs.size/\B={ s with heap:=s.heap.push { cls:=.type "dict",data:=.dict #[] } }) (PySem.F.kt_called_dict) (PySem.F.kt_typeCall_dict_1 _) (PySem.F.entry_dict_init) (kt_code_dict_new _ ⟨rfl,rfl⟩) ?_;rintro g B ⟨rfl,rfl⟩;have n:(s.heap.push { cls:=.type "dict",data:=.dict #[] }).DictOf (nh prog w) s.heap.objs.size []:=Heap.DictOf.new s.heap;show(n.typeIs,PySem.F.args_dict_init_2 _ _,?_);generalize h:({ cls:=.type "dict",data:=.dict #[] }:Obj)=o0 at n ⊢;have p:(s.heap.push o0).get? l=some { cls:=.type "list",dict:=none,data:=.seq items c0,slots:=#[] }:=bW _ hl;have S:=b9 hl;have W:(s.heap.push o0).objs.size=s.heap.objs.size+1:=iD ..;unfold Builtin.«dict.__init__»;show bO ?_;unfold Builtin.Dict.selfAndRest;show bO (wpAny_notOrdered_dict n.typeIs (gw ?_));show gu _ _ (Builtin.Dict.updateFrom "dict.__init__" s.heap.objs.size (.ref l) [] gY) _ _ _;unfold Builtin.Dict.updateFrom;show bO (wpAny_typeOf (T:="list") ⟨_,p,rfl⟩ ?_);rw[if_pos ⋯];have R:A.in1.in1.handled=none:=by simp[hh]
 show bO (Le R p λf O m=>?_);show wpAny_ite_split (λ_=>?_) (λz=>absurd rfl z);show bO (wpAny_rule ?_);have J:=m _ _ p;have y:f.DictOf (nh prog w) s.heap.objs.size []:=by
  let(o,C,G,h,rest):=n;show(o,C,G,m _ _ h,rest)
 have a:s.heap.objs.size<f.objs.size:=by
  let(o,C,G,h,rest):=y;show b9 h
 have I:f.IsList l items:=⟨_,J,rfl,c0,rfl⟩;show bO (wpAny_pyIter_list (s:=⟨f,s.gens,s.drawn,O,s.os⟩) I ?_);have H:∀ j,j<items.size->adr j<s.heap.objs.size:=λj d=>by
  let(tk,o,c,e,_):=tup j d;show b9 e
 have t:l<f.objs.size:=b9 J;have r:A.in1.in1.handled=none:=by simp[hh]
 show gw ⟨plainId_quiet zt _,?_⟩;show Ob ((Walks.list r f.objs.size l (cq t) items).toS) s.heap.objs.size (by simp only[gW,iJ,or_false,not_or];show(cq a,hB S)) adr key val hP (λj d=>cq (H j d)) (λj d=>by simp only[gW,iJ,or_false];show cq (Nat.lt_trans (H j d) a)) hz items.size 0 _ ∅ (kM _) ⟨⟨_,ck _ rfl,rfl,rfl⟩,I.push _⟩ (y.push _) (λj d=>?_) λU k P=>?_
 .let(tk,e):=tup j d;show(tk,e.at_ λo z=>bW _ (m _ _ (bW _ z)))
 .let(h',L,N,u,x):=U;have K:L=s.gens:=k.gens;have V:N=s.drawn:=k.drawn;have M:x=s.os:=k.os;subst K;subst V;subst M;show(rfl,q h' u (λb o e=>?_) P);have D:=b9 e;show k.heap b o ?_ (bW _ (m _ _ (bW _ e)));simp only[gW,iJ,or_false,not_or];show(cq D,cq (Nat.lt_trans D a))
variable{X:Cx}{pins:List (Addr × Obj)}{σ:List (Option V)}{H:Hp}{s':b8}
theorem Inv.like(I:Inv X pins σ H { s with heap:=s'.heap,toks:=s'.toks })(eg:s'.gens=s.gens)(eo:s'.os=s.os):Inv X pins σ H s' :=
 ⟨I.ok,by rw[eo];show I.os,by rw[eg];show I.bare,I.base,I.loc,I.cell,I.free,I.freeC,I.pin,I.hok,I.len⟩
theorem F4:∀{vs:List bV}{ss:List Str},StrsAre vs ss->Vals (ss.map V.str) vs
 | _,_, .nil=>.nil
 | _,_, .cons z t r=>.cons ⟨t,rfl⟩ (F4 r)
def Ls(out ss:List Str):Prop:=out.Perm ss/\sortedS out=true
def Ei(xs:List V)(H:Hp)(Q:VK):Prop:=∃ d kvs ss,xs=[.ref d]/\H d=some (.dK kvs)/\kvs.map (·.1)=ss.map iZ/\ss.length<64/\∀ l out,H l=none->Ls out ss->Q (.ref l) (upd H l (.lst (out.map V.str)))
theorem GF(hc:X.calm=true):ky X (.builtin "sorted") Ei:=by
 intro C s σ H Y us Q I r h;let(d,c,ss,rfl,e,n,P,q):=h;let(u,rfl,T):=vals1 r;cases T;let(W,M,B,f,D):=nO I.hok e;let(ep,J):=D.dictAt;have sl:(64:Nat)<=sizeLine:=by decide
 have lk:ss.length=c.length:=by simpa using(congrArg List.length n).symm
 have L:B.length=c.length:=f.length.symm;have g:B.map (·.1)=c.map (·.1):=by
  clear D J n lk L W q e;induction f with
  | nil=>rfl
  | cons h1 _ ih=>
   rw[hV,hV,ih,h1.1]
 show OT (ss:=ss) (I.ok.hd hc) M J ∅ ∅ (λi k x v R S=>?_) λG l j a U k N O et F K hs A m=>?_
 .have E:(B.map (·.1))[i]?=some k:=by rw[gG,R];rfl
  rw[g,n,gG]at E;let(z,p,rfl):=gK.mp E;rcases rB (show keyIs (iZ z) v=true from S)with⟨b,hb,_⟩ | ⟨y,t,hy,rfl⟩
  .cases hb
  .cases hy;show(t,by rw[iw,p];rfl)
 .have Z:j.toList.length<=sizeLine:=by
   rw[hs.length,A.length_eq];ac_nf
  show(.ref l,_,Inv.like (s:=s) (I.laid (t':=G.toks) (o:=.lst (a.map V.str)) k F (show jk X.prog X.w _ G.heap l (.lst (a.map V.str))from⟨by rw[iz,A.length_eq];ac_nf,j.toList,U,F4 hs,by rw[kK];show K⟩)) N O,rfl,q l a (I.hok.fresh F) ⟨A,m⟩)
def vR(ps:List (Str × V)):List (jz × V):=ps.foldl (λl p=>putK l (iZ p.1) p.2) []
def El(xs:List V)(H:Hp)(Q:VK):Prop:=∃(l:Addr)(as:List Addr)(ps:List (Str × V)),xs=[.ref l]/\H l=some (.lst (as.map V.ref))/\as.length=ps.length/\(∀(i:Nat)(a:Addr)(p:Str × V),as[i]?=some a->ps[i]?=some p->H a=some (.tup [.str p.1,p.2]))/\∀ d,H d=none->Q (.ref d) (upd H d (.dK (vR ps)))
theorem Oo(hc:X.calm=true):ky X (.type "dict") El:=by
 intro M s σ H xs us Q I r h;let(l,b,f,rfl,e,hl,Y,q):=h;let(u,rfl,rx):=vals1 r;cases rx;let(hz,y,n,U,J,W):=I.lstM e;have L:b.length<=sizeLine:=by simpa using hz
 have li:y.length=b.length:=by simpa using J.symm
 have S:∀ j,j<b.length->∃ u a p d,b[j]?=some a/\f[j]?=some p/\RelV p.2 u/\uj s.heap a (.str p.1 d) u:=λj C=>by
  have B:=b7 C;have w:=b7 (l:=f) (i:=j) ∅;let(_,ts,D,o,T,F,nn,Z):=I.hok _ _ (Y j _ _ B w);cases D with
  | cons r1 D=>
   cases D with
   | cons r2 D=>
    cases D;let(d,rfl):=r1;show(_,_,_,d,B,w,r2,o,nn,T,F,Z)
 let(A,g):=Classical.skolem.mp (show∀ j:Nat, ∃ u:bV,j<b.length->∃ a p d,b[j]?=some a/\f[j]?=some p/\RelV p.2 u/\uj s.heap a (.str p.1 d) u fromλj=>by
  by_cases c:j<b.length
  .let(u,h):=S j c;show(u,λ_=>h)
  .show(.none,λz=>absurd z c))
 have t:∀ j a,b[j]?=some a->b.getD j 0=a:=λj a h=>by rw[iw,h];rfl
 have m:∀ j (p:Str × V),f[j]?=some p->(f.getD j (⟨#[]⟩, .non)).1=p.1:=λj p h=>by rw[iw,h];rfl
 have G:y.toArray.size=b.length:=by rw[gF];show li
 show PX (I.ok.hd hc) W (λj=>b.getD j 0) (λj=>(f.getD j (⟨#[]⟩, .non)).1) A (λj v K=>?_) (λj C=>?_) ∅ λh' d k N=>?_
 .rw[List.getElem?_toArray]at K;have C:j<b.length:=by have:=(cb.mp K).1;ac_nf
  let(u,O,ru):=U.get (i:=j) (x:=.ref b[j]) (by rw[gG,b7 C];rfl);rw[K]at O;cases O;rw[t j _ (b7 C)];show ru
 .let(a,p,d,B,w,P,R):=g j ∅;show(d,?_);rw[t j a B,m j p w];show R
 .have E:∀ i,i<=b.length->KV (vR (f.take i)) (pN (λj=>(f.getD j (⟨#[]⟩, .non)).1) A i):=λi=>by
   induction i with
   | zero=>intro _;show .nil
   | succ i ih=>
    intro hi;let(a,p,d,B,w,P,R):=g i ∅;rw[Bg,List.take_succ,w];unfold vR;rw[List.foldl_append];rw[m i p w];show(ih ∅).put _ P
  have r:=E b.length (cB _);rw[List.take_of_length_le ∅]at r;have ln:(vR f).length<=sizeLine:=by
   rw[r.length];show g0 (A2 _ _ _) L
  rw[G]at N;show(.ref s.heap.objs.size,_,I.laid (a:=s.heap.objs.size) (o:=.dK (vR f)) (t':=d) k (cB _) (xV ln (beq_eq_false_iff_ne.mpr (iQ (cq I.big))) r N),rfl,q _ (I.hok.fresh (cB _)))
def vL(a b:Str):Prop:=a.cps.toList<=b.cps.toList
theorem Gs:∀(p:Str)(l:List Str),risingS p l=true->(p::l).Pairwise vL
 | p,[],_=>by simp
 | p,x::r,h=>by
  have h':(!ltCps x.cps.toList p.cps.toList&&risingS x r)=true:=h;rw[cn]at h';have ih:=Gs x r h'.2;have h1:vL p x:=by
   have:=h'.1;rw[ltCps_eq]at this;show List.not_lt.mp (by simpa using this)
  show List.pairwise_cons.mpr ⟨λb hb=>?_,ih⟩;rcases gW.mp hb with rfl | hb
  .show h1
  .show List.le_trans h1 ((List.pairwise_cons.mp ih).1 b hb)
theorem F7(l:List Str)(h:sortedS l=true):l.Pairwise vL:=by
 cases l with
 | nil=>simp
 | cons p l=>show Gs p l h
theorem L5{a b:Str}(h:vL a b)(g:vL b a):a=b:=by
 have e:=List.le_antisymm h g;cases a;cases b;simp only[Str.mk.injEq];show Array.toList_inj.mp e
theorem Mn{l l':List Str}(h:sortedS l=true)(h':sortedS l'=true)(hn:l.Nodup)(hn':l'.Nodup)(hm:∀ z,z∈l↔z∈l'):l=l' :=
 List.Perm.eq_of_pairwise (le:=vL) (λ_ _ _ _=>L5) (F7 l h) (F7 l' h') ((List.perm_ext_iff_of_nodup hn hn').mpr hm)
variable{e:Expr}{ta:TE}{pos:Pos}
theorem Fx{K:bY}{f:Str}(hK:X.K=K)(he:PE X e ta)(hb:jb e f X.env (eval e X.env)=eval e X.env):PE X (.Attribute e f pos) (uF K ta f):=by
 subst hK;show jg he hb
section
variable{o:Expr}{es:List Expr}{to:TE}{name:Str}{apos cpos:Pos}{T id:String}{r:V->List V->Hp->VK->Prop}{K:bY}{t:TA}
end
def Em(td:TE):TE:=λσ H Q=>td σ H λx H1=>∃ d kvs,x=.ref d/\H1 d=some (.dK kvs)/\∀ l,H1 l=none->Q (.ref l) (upd H1 l (.lst (kvs.map (·.2))))
variable{kvs:List (jz × V)}{vs:List (jz × bV)}
theorem AD(r:KV kvs vs):Vals (kvs.map (·.2)) (vs.map (·.2)):=by
 unfold KV at r;induction r with
 | nil=>show .nil
 | cons h _ ih=>show .cons h.2 ih
variable{o:Expr}{td:TE}{p1 apos cpos:Pos}{x:Str}
theorem JZ(hc:X.calm=true)(hx:x="list")(hg:Gl X x)(hm:X.mg x=none)(hv:gI x=some (.type "list"))(ho:PE X o td)
  (hb:autoParam (jb o "values" X.env (eval o X.env)=eval o X.env) Au) (hn:autoParam ((apos.endLine == cpos.line)=true) Au) :
  PE X (.Call (.Name x p1) [.Call (.Attribute o "values" apos) [] [] cpos] [] pos) (Em td):=by
 intro f s σ H Q I h;have t:x≠"__name__":=by rw[hx];decide
 have J:(x == ("__debug__" : Str))=false:=by rw[hx];decide
 show ic (se I hg hm hv ?_ t J);show ie ?_ rfl rfl;show gu _ _ (spliced ((false,eval (.Call (.Attribute o "values" apos) [] [] cpos) X.env)::iP pos (gy [] X.env))) _ _ s;show h9 ?_;show lR hb hn (jl (ho f s σ H _ I h) λv i ζ=>?_);let(y,R,I1,E,d,kvs,N,e,D):=ζ;subst N;obtain rfl:v=cf d:=E;let(q,M,C):=vd I1 (.inl ⟨kvs, .inl e⟩);let(O,_,l,c,p):=nO I1.hok e;show("dict","dict.values",iK,ji,PySem.F.type_dict_values,q,M,ig rfl (mq ?_));show ka ji q PySem.F.entry_dict_values (mC _) (meets_dict_values (nh X.prog X.w) d C) ⟨⟨l,p⟩,?_⟩;show iI ?_;let(ep,P):=p.dictAt;show W.kdl_call (W.kdl_values (knd:=nh X.prog X.w) (r:=i.heap.objs.size) (d:=d) (kvs:=l) (ep:=ep)) (I.ok.hd hc) ⟨⟨_,ck _ rfl,rfl,rfl⟩,P.push _⟩ (by have:=c.length;ac_nf) λm A g u k K a=>?_;have B:g.toList=l.map (·.2):=W.kdl_vals_eq _ (by rw[jy];show a.1) λj v L=>a.2 j v (by rw[<- jK];show L);have G:∀ b o,i.heap.get? b=some o->m.get? b=some o:=λb o z=>k b o (bW _ z);have n:i.heap.objs.size<=(i.heap.push { cls:=.type "dict_values",data:=.fields #[.ref d] }).objs.size:=by
  rw[iD];show mm _
 show(.ref _,_,I1.laid (t':=A) (o:=.lst (kvs.map (·.2))) G n (show jk X.prog X.w _ m _ (.lst (kvs.map (·.2)))from⟨by rw[iz];show O,l.map (·.2),u,AD c,by rw[<- B,kK];show K⟩),rfl,D _ (I1.hok.fresh n))
section
variable{k':Nat}{mn:Str}{C:Addr}{Cs:Addr->Prop}{ps:List Str}{sp:Sp}{es:List Expr}{k:Nat}{p:Pos}{t:TA}
abbrev TX:=St->Hp->VK->XK->Prop
def rC(Cs:Addr->Prop)(m:Str)(sp:Sp)(ta:TE)(t:TA):TX:=λσ H Q E=>ta σ H λx H1=>∃ a C dx fs,x=.ref a/\H1 a=some (.ins C dx fs)/\Cs C/\fs.lookup m=none/\t σ H1 λvs H2=>sp (x::vs) H2 Q E
theorem km.tr{pl:Sem Bool}(G:km X.prog X.w X.K X.mg X.base k mn Cs ps sp)(hr:ku k' X.A)(hk:k<=k')(ho:PE X.nox o ta)(ha:PA X.nox (e::es) t)
  (hst:autoParam (gy (e::es) X.env=(false,eval e X.env)::gy es X.env) Au) (hpl:autoParam ((iP pos (gy es X.env)).any (·.1)=false) Au)
  (ht:autoParam (eval (.Call (.Attribute o mn apos) (e::es) [] pos) X.env=(do
   let ov <- eval o X.env
   standAt apos.atName
   let(f,first) <- holding [ov] (getMethod ov mn pl)
   callWith pos f first (iP pos (gy (e::es) X.env)) (backToKw pos (lS [] X.env)))) Au) :
  Ak X (.Call (.Attribute o mn apos) (e::es) [] pos) (rC Cs mn sp ta t):=by
 let(f,L,F,d,B,hb):=G.ex;intro b s σ H Q E I h;have z:=ho b s σ H _ (I.wish _) h;show mH (pl:=pl) (gJ z (λu i ζ=>?_) λ_ _ y=>y.elim) ht;let(x,j,I1,n,a,C,N,J,v,m,c,l,q):=ζ;subst v;obtain rfl:u=cf a:=n;show zw I1.unwish m (d C c).1 (d C c).2 l ?_;have p:=ha pos b i σ j _ I1 q;show W.callWith_K (first:=[.ref a]) (h₀:=X.base) I.ok.mod.kin B (gJ p (λus D ζ=>?_) λ_ _ y=>y.elim) hst hpl;let(vs,M,I2,r,g):=ζ;show(I2.unwish.kIn,?_);show Ff (us:=.ref a::us) (vs:=.ref a::vs) (ds:=[]) (dvs:=[]) F (hr.mono hk) hb .nil I2.unwish (.cons rfl r) (by simpa using g)
end
theorem Gw:mX X (ib .NotIn) (vK X.K true):=Pg
section
variable{σ:St}{Q:VK}{E:XK}{ty:TE}{ts:TA}{tc:TT}{u:TX}{C:Addr}{sp:Sp}{Cs:Addr->Prop}{t:TX}{m:Str}
end
section
variable{κ:Type}[DecidableEq κ]{f : α->κ}{k : κ}{u y : α}
end
section
variable{P : α->V->Prop}
end
section
variable{P P':TD->V->Prop}{ts:List TD}{v:V}{t:TD}
end
section
variable{σ:St}{u r:bV}{y:V}{k:jz}{v:Option V}{o:Option bV}
theorem Lv{w:bV}(h:RelO v o)(e:o=some w):∃ x,v=some x/\RelV x w:=by
 subst e;cases v with
 | none=>show absurd h (by simp[RelO])
 | some x=>show(x,rfl,h)
theorem Lw(h:RelO v o)(e:o=none):v=none:=by
 subst e;cases v with
 | none=>rfl
 | some x=>show absurd h (by simp[RelO])
theorem Mv{Q:bV->b8->Prop}(I:Inv X pins σ H s)(e:H a=some (.dK kvs))(ry:RelV (kV k) u)(rd:RelV y r)(hl:kvs.length<sizeLine)
  (h1:∀ v w' s',lB kvs k=some v->Inv X pins σ H s'->RelV v w'->Q w' s') (h2:∀ s',lB kvs k=none->Inv X pins σ (upd H a (.dK (putK kvs k y))) s'->Q r s') :
  gu (gx X.prog X.w) A (call (.builtin "dict.setdefault") [.ref a,u,r]) Q E s:=by
 let(z,d,l,b,f):=nO I.hok e;show ka PySem.F.slot_dict_setdefault f.typeIs PySem.F.entry_dict_setdefault (PySem.F.args_dict_setdefault_3 _ _ _) (PySem.kt_meets_setdefault (nh X.prog X.w) a (nY ry) d r) ⟨l,f,by rw[<- b.length];show z,λw h=>?_,λg m c hs=>?_⟩
 .let(x,hx,o):=Lv (b.val k) h;show h1 x w _ hx (I.tok _) o
 .have j:=Lw (b.val k) g;show h2 _ j ?_;have i:∃ q,m.get? a=some q:=let⟨q,_,_,hq,_⟩:=c;⟨q,hq⟩;have n:(putK kvs k y).length<=sizeLine:=by have:=zN kvs k y;ac_nf
  show xZ I (by rw[e];show iN) hs i (xV n d (b.put k rd) c)
end
def tV(td ty tx:TE):TE:=λσ H Q=>td σ H λx H1=>∃ a,x=.ref a/\vG H1 a/\ty σ H1 λy H2=>tx σ H2 λz H3=>∃ kvs k,H3 a=some (.dK kvs)/\y=kV k/\kvs.length<sizeLine /\
 (∀ v,lB kvs k=some v->Q v H3)/\(lB kvs k=none->Q z (upd H3 a (.dK (putK kvs k z))))
section
variable{ty:TE}{f:Expr}{tx:TE}
theorem Fy(ho:PE X o td)(he:PE X e ty)(hf:PE X f tx)(m:M2 X o "setdefault" apos e f cpos):PE X (.Call (.Attribute o "setdefault" apos) [e,f] [] cpos) (tV td ty tx):=by
 intro b s σ H Q I h;show me m.base m.few m.line iK PySem.F.slot_dict_setdefault PySem.F.type_dict_setdefault (jl (ho b s σ H _ I h) λu q ζ=>?_);let(x,t,I1,G,a,L,d,r):=ζ;subst L;obtain rfl:u=cf a:=G;let(E,K,_):=vd I1 d;show(E,K,?_);rw[m.trees];show ig rfl (jr (h9 (jl (he b q σ t _ I1 r) λS l ζ=>?_)));let(y,w,I2,j,n):=ζ;show h9 (jl (hf b l σ w _ I2 n) λP O ζ=>?_);let(z,J,I3,i,D,k,B,C,A,M,N):=ζ;show iI ?_
 subst C;show Mv I3 B j i A (λv R p c I4 g=>⟨v,J,I4,g,M v c⟩) λp c I4=>⟨z,_,I4,i,N c⟩
end
section
variable{σ:St}{Q:VK}{ty:TE}{tx:TE}{tv:TE}
theorem Nl{tk:TE}{R:List (V × V)->Hp->Prop}:yT [(tk,tv)] σ H R=tk σ H λx H1=>tv σ H1 λy H2=>R [(x,y)] H2:=rfl
end
section
variable{v:V}{f : α->Str}{P P' : α->V->Prop}{as:List α}{a : α}
end
structure PD where
 nm:Str
 st:Str
 en:Str
 sz:Int × Int
 mo:Int × Int
 wt:Int
variable{H':Hp}{d:Addr}{kvs':List (jz × V)}{od:Obj}
theorem Inv.freeze(I:Inv X pins σ H s)(e:H d=some (.dK kvs))(ho:s.heap.get? d=some od):Inv X pins σ (upd H d (.frz od (.dK kvs))) s:=by
 show I.un (h':=s.heap) (t':=s.toks) ⟨λb o q _ _ _=>q,λb o q _ _ _=>⟨o.slots,q⟩,λb o q n _=>?_,λb o q _=>⟨o,q⟩,λb h q=>?_,λb o u q=>?_,λb j q=>⟨#[],?_⟩⟩ λa o q=>?_
 .rw[kk (λz=>by rw[z,e]at n;cases n)];show n
 .rw[kk (λz=>by rw[z,e]at q;cases q)];show q
 .rw[kk (λz=>by rw[z,e]at q;cases q)];show q
 .rw[kk (λz=>by rw[z,e]at q;cases q),Array.append_empty];show q
 .have g:∀ i b,H b=some (.own i)->upd H d (.frz od (.dK kvs)) b=some (.own i):=λi b q=>by
   rw[kk (λz=>by rw[z,e]at q;cases q)];show q
  have f:∀ b h,H b=some (.tup h)->upd H d (.frz od (.dK kvs)) b=some (.tup h):=λb h q=>by
   rw[kk (λz=>by rw[z,e]at q;cases q)];show q
  by_cases c:a=d
  .subst c;rw[md]at q;cases q;show(ho,(I.hok a _ e).stay (λ_ _ _ z=>z) (g a) f)
  .rw[kk c]at q;show(I.hok a o q).stay (λ_ _ _ z=>z) (g a) f
theorem Inv.thaw{σ':St}(I:Inv X pins σ H s)(e:H d=some (.dK kvs))(I':Inv X pins σ' H' s')(e':H' d=some (.frz od (.dK kvs'))):Inv X pins σ' (upd H' d (.dK kvs')) s':=by
 have m:∀{b:Addr}{o:HO},H' b=some o->(∀ u v,o≠.frz u v)->b≠d:=λq h z=>by rw[z,e']at q;cases q;show h _ _ rfl
 show(I'.ok,I'.os,I'.bare,⟨I'.base.keep,I'.base.slot,λb o q n hx=>?_,I'.base.there,λb i q=>?_,λb o u q=>?_,λb A q=>?_⟩,I'.loc,I'.cell,?_,λx c z=>?_,λp t=>?_,λa o q=>?_,I'.len)
 .have:=I'.base.free b o q n hx;rw[kk (λz=>by rw[z,e']at this;cases this)];show this
 .have:=I'.base.tups b i q;rw[kk (m this (by intro u v z;cases z))];show this
 .have f:=I'.base.frzs b o u q;have g:=I.base.frzs b o u q;rw[kk (λz=>by rw[z,e]at g;cases g)];show f
 .let(j,f):=I'.base.tbls b A q;show(j,by rw[kk (m f (by intro u v z;cases z))];show f)
 .have:=I'.free;rw[kk (λz=>by rw[z,e']at this;cases this)];show this
 .have:=I'.freeC x c z;rw[kk (λz=>by rw[z,e']at this;cases this)];show this
 .let(f,g,y):=I'.pin p t;show(f,by rw[kk (λz=>by rw[z,e']at g;cases g)];show g,y)
 .have l:∀ r b,H' b=some (.own r)->upd H' d (.dK kvs') b=some (.own r):=λr b q=>by
   rw[kk (m q (by intro u v z;cases z))];show q
  have k:∀ b i,H' b=some (.tup i)->upd H' d (.dK kvs') b=some (.tup i):=λb i q=>by
   rw[kk (m q (by intro u v z;cases z))];show q
  by_cases c:a=d
  .subst c;rw[md]at q;cases q;have f:jk X.prog X.w H' s'.heap a (.dK kvs'):=(I'.hok a _ e').2;show f.stay (λ_ _ _ z=>z) (l a) k
  .rw[kk c]at q;show(I'.hok a o q).stay (λ_ _ _ z=>z) (l a) k
def BZ(d:Addr)(od:Obj)(kvs:List (jz × V)):It :=
 ⟨λi H=>H d=some (.frz od (.dK kvs))/\i<kvs.length,λi H x H'=>H'=H/\(kvs.map (·.2))[i]?=some x,λi H=>H d=some (.frz od (.dK kvs))/\kvs.length<=i⟩
variable{P:gN}{tg:Expr}{it:Addr}{ep:Nat}
theorem MQ{K:bY}(rel:KV kvs vs)(hd:∀ h:Heap,h.get? d=some od->h.DictAt (nh P w) d vs ep) :
  Turn P w K tg (BZ d od kvs) [it] it (λi h=>h.IsValIter it d i vs.length ep) where
 mem:=by simp
 obj:=λi h a b hb=>by
  obtain rfl:b=it:=by simpa using hb
  let(o,e,c,z):=a;show(o,e,λv q=>by rw[z]at q;cases q)
 keep:=λi h m a k=>a.at λo e=>k it (by simp) o e
 item:=by
  intro X B A hK J i f s σ H E I n a t;subst B A hK;let(j,F):=t;let(p,r,R,y,C,D):=n it (by simp);have g:=(I.hok d _ j).1;have O:=rel.length;have L:=AD rel;obtain⟨x,hx⟩:∃ x,(kvs.map (·.2))[i]?=some x:=⟨_,b7 (by rw[iz];show F)⟩;let(u,G,S):=L.get hx;rw[gG]at G;let((k,T),Q,rfl):=gK.mp G;show wpAny_pyNext_values_item a (hd _ g) Q λm l M=>?_;have I1:Inv X f σ H { s with heap:=m }:=I.turned (t':=s.toks) (λb o hb e=>(M.2 b hb).trans e) p r y C D;let(o,e,c,z):=id l;show(_,rfl,oU (s:={ s with heap:=m }) e c z ⋯ ⟨x,H,I1,S,⟨rfl,hx⟩,l,λb hb=>(n b hb).1⟩)
 done:=by
  intro X B A hK J i f s σ H E I n a t;subst B A hK;let(j,F):=t;let(p,r,R,y,C,D):=n it (by simp);have g:=(I.hok d _ j).1;have O:=rel.length;show wpAny_pyNext_values_end (I.ok.hd J) a (hd _ g) (iH ∅) λm N=>⟨rfl,I.turned (t':=s.toks) (λb o hb e=>N b o hb e) p r y C D⟩
 self:=λ_ _ _ _ _ a h=>wpAny_pyIter_valiter a h
def uc(td:TE):TI:=λσ H R=>td σ H λx H1=>∃ d kvs,x=.ref d/\H1 d=some (.dK kvs)/\∀ od,R (BZ d od kvs) (upd H1 d (.frz od (.dK kvs)))
theorem Fw(ho:PE X o td)(hb:autoParam (jb o "values" X.env (eval o X.env)=eval o X.env) Au)(hn:autoParam ((apos.endLine == cpos.line)=true) Au) :
  PI X tg (.Call (.Attribute o "values" apos) [] [] cpos) (uc td):=by
 intro f s σ H R I h;show lR hb hn (jl (ho f s σ H _ I h) λv a ζ=>?_);let(y,C,I1,u,d,kvs,B,e,r):=ζ;subst B;obtain rfl:v=cf d:=u;let(m,A,p):=vd I1 (.inl ⟨kvs, .inl e⟩);let(D,_,vs,g,l):=nO I1.hok e;show("dict","dict.values",iK,ji,PySem.F.type_dict_values,m,A,ig rfl (mq ?_));show ka ji m PySem.F.entry_dict_values (mC _) (meets_dict_values (nh X.prog X.w) d p) ⟨⟨vs,l⟩,?_⟩;let(ep,n):=l.dictAt;let(k,t,c,rest):=id n;show wpAny_pyIter_values (knd:=nh X.prog X.w) (v:=a.heap.objs.size) (d:=d) (kvs:=vs) (ep:=ep) ⟨_,ck _ rfl,rfl,rfl⟩ (n.push _) ?_;have x:∀ b o,a.heap.get? b=some o->((a.heap.push { cls:=.type "dict_values",data:=.fields #[.ref d] }).push { cls:=.type "dict_valueiterator",data:=.fields #[.ref d, .int 0 0, .int vs.length 0, .int ep 0] }).get? b=some o:=λb o z=>bW _ (bW _ z);have I2:=(I1.freeze e c).kept (t':=a.toks) x;have j:a.heap.objs.size<=(a.heap.push { cls:=.type "dict_values",data:=.fields #[.ref d] }).objs.size:=by
  rw[iD];show mm _
 show(_,[_],_,_,_,rfl,I2,MQ (vs:=vs) (ep:=ep) g (λh q=>⟨k,t,q,rest⟩),⟨_,ck _ rfl,rfl,rfl⟩,λb i=>?_,r k);obtain rfl:=i7.mp i;show I1.fpOk j ((I1.freeze e c).hok.fresh j)
def qD(t:TE):TE:=λσ H Q=>∃ d kvs,H d=some (.dK kvs)/\t σ H λv H'=>∃ od kvs',H' d=some (.frz od (.dK kvs'))/\Q v (upd H' d (.dK kvs'))
theorem AL{t:TE}(h:PE X e t):PE X e (qD t):=by
 intro a s σ H Q I ⟨d,f,i,q⟩;show jl (h a s σ H _ I q) λv m ζ=>by let(x,k,I1,c,l,b,j,g):=ζ;show(x,_,I.thaw i I1 j,c,g)
section
variable{te tl:TE}{σ:St}{H1:Hp}{Q:VK}{k:Nat}{cs:List (Nat × Str)}{g:TG}
end
section
variable{k':Nat}{C:Addr}{ps:List Str}{sp:Sp}{E:XK}{k:Nat}{p:Pos}
theorem nB.ev0(G:nB X.prog X.w X.K X.mg X.base k x C ps sp)(hr:ku k' X.A)(hk:k+1<=k')(hg:Gl X x)(hx:qb (kU X.prog X.w) X E)(hdb:autoParam ((x == ("__debug__" : Str))=false) Au) :
  PE X (.Call (.Name x p) [] [] pos) (oP C sp [] E tNil):=by
 let(f,b,F,a,M,hb):=G.ex;show LD M F (hr.mono hk) hg a hb .nil hx hdb
end
structure GD where
 nm:Str
 st:Str
 en:Str
 lo:Int × Int
 hi:Int × Int
section
variable{K:bY}
end
section
variable{H'':Hp}{ls:List PD}{fd wl:Addr}{ws:List (Str × List Pr)}{wt:List Str}{one:Str}
end
variable{es:List Expr}
theorem ur{K:bY}{k:Nat}{t:rk}(hK:X.K=K)(hc:X.calm=true)(h:ui X es t)(hn:autoParam ((mz es X.env).length=n) Au)(hst:autoParam ((mz es X.env).findIdx? (·.1)=none) Au):PG X (.Tuple es k pos) (uR K n t):=by
 subst hK;show HK hc h hn hst
section
variable{te:TE}{ta:TA}{σ:St}{H1:Hp}{Q:VK}{b:Addr}{xs zs:List V}{K:bY}{k:Nat}{cs:List (Nat × Str)}{g:TG}
end
section
variable{Q:VK}{K:bY}
end
def fc(j:Nat):Str:=⟨#[102+j]⟩
variable{elts:List Expr}{x1:Nat}{tp:Pos}
section
variable{te:TE}{ta:TA}{σ:St}{H1:Hp}{Q:VK}{xs:List V}{K:bY}{k:Nat}{cs:List (Nat × Str)}{g:TG}
end
section
variable{ta:TA}{tb:TS}{σ:St}{g:TG}{D:Ends}
end
variable{σ:St}{Q:VK}
theorem Jop{c:TT}{tb:TE}:yB c ta tb σ H Q=c σ H λb H1=>if b=true then ta σ H1 Q else tb σ H1 Q:=rfl
def t7(xs:List V)(H:Hp)(Q:VK):Prop:=∃ d kvs,xs=[.ref d]/\H d=some (.dK kvs)/\Q (.int (kvs.length:Int)) H
theorem Gg:ky X (.builtin "len") t7:=by
 intro c s σ H m n Q I r h;let(d,a,rfl,e,q):=h;let(u,rfl,k):=vals1 r;cases k;let(o,g,j,b,i):=nO I.hok e;have l:=vU;have f:j.length=a.length:=b.length.symm;show call_len_dict g i ∅ ⟨.int (a.length:Int),H,I.tok _,⟨s.toks+1,by rw[f]⟩,q⟩
section
variable{A B A' B' C C' D':Nat}{x y z w a b:Int × Int}{D:Nat}{m:Int × Int}
end
section
variable{s st:Nat}{f : α->Str}{l:List α}
end
section
variable{x:V}{K:bY}
end
open PySem.Spec PyProof.Rows
def notStar:Expr->Bool
 | .Starred _ _=>false
 | _=>true
theorem p4{env:Env}(h:notStar e=true):gy (e::es) env=(false,eval e env)::gy es env:=by
 cases e <;> first | rfl | (simp[notStar]at h)
variable{te:TE}
theorem vD{t:TA}(ha:PE X e te)(hr:PA X es t)(hs:autoParam (notStar e=true) Au):PA X (e::es) (kG te t):=Fz ha hr (p4 hs)
theorem IZ{i:Int}{j pos}{t:TA}(hr:PA X es t):PA X (.Constant (.int i) j pos::es) (kG (tC (.int i)) t):=Fz jA hr (by rfl)
section
variable{x:V}{c:Addr}{K:bY}
end
theorem FW:∀{xs:List V}{us:List bV},xs.length=us.length->(∀(i:Nat) x u,xs[i]?=some x->us[i]?=some u->RelV x u)->Vals xs us
 | [],[],_,_=>.nil
 | [],_::_,h,_=>by simp at h
 | _::_,[],h,_=>by simp at h
 | x::xs,u::us,h,k=>.cons (k 0 x u rfl rfl) (FW (by simpa using h) λi x u h1 h2=>k (i+1) x u (by simpa using h1) (by simpa using h2))
def Ek(xs:List V)(H:Hp)(Q:VK):Prop:=∃(d:Addr)(kvs:List (jz × V))(ss:List Str),xs=[.ref d]/\H d=some (.dK kvs)/\kvs.map (·.1)=ss.map iZ/\∀ l,H l=none->Q (.ref l) (upd H l (.lst (ss.map V.str)))
theorem On(hc:X.calm=true):ky X (.type "list") Ek:=by
 intro C s σ H U Z Q I r h;let(d,kvs,m,rfl,e,n,q):=h;let(u,rfl,P):=vals1 r;cases P;let(T,L,l,f,D):=nO I.hok e;let(ep,F):=D.dictAt;have lk:m.length=kvs.length:=by simpa using(congrArg List.length n).symm
 have K:l.length=kvs.length:=f.length.symm;have g:l.map (·.1)=kvs.map (·.1):=by
  clear D F n lk K T q e;induction f with
  | nil=>rfl
  | cons B _ ih=>
   rw[hV,hV,ih,B.1]
 show W.kdl_call (W.kdl_dict (knd:=nh X.prog X.w) (d:=d) (kvs:=l) (ep:=ep) L) (I.ok.hd hc) F ∅ λM J a G k R c=>?_;have A:Vals (m.map V.str) a.toList:=FW (by have B:=c.1;have S:a.toList.length=a.size:=jy;rw[iz,S,B];ac_nf) λi x v hx A=>by
  rw[gG]at hx;let(z,p,rfl):=gK.mp hx;let(E,Y,O,N):=c.2 i v (by rw[<- jK];show A);have j:(l.map (·.1))[i]?=some E:=by rw[gG,O];rfl
  rw[g,n,gG,p]at j;have j:iZ z=E:=gL j;subst j;rcases rB (show keyIs (iZ z) v=true from N)with⟨b,hb,_⟩ | ⟨y,t,hy,rfl⟩
  .cases hb
  .cases hy;show(t,rfl)
 show(.ref _,_,I.laid (t':=J) (o:=.lst (m.map V.str)) k (cB _) (show jk X.prog X.w _ M _ (.lst (m.map V.str))from⟨by rw[iz];ac_nf,a.toList,G,A,by rw[kK];show R⟩),rfl,q _ (I.hok.fresh (cB _)))
theorem A4:∀{bs:List Bool}{us:List bV},Vals (bs.map V.bl) us->us=bs.map ir
 | [],us,h=>by cases h;rfl
 | b::bs,us,h=>by
  cases h with
  | cons h1 h2=>
   have h1:_=ir b:=h1;subst h1;rw[A4 h2];rfl
def rg(b:Bool):bV->Bool
 | .bool c=>c == b
 | _=>false
def EW:V->List V->Hp->VK->Prop:=λx vs H Q=>∃(l:Addr)(bs:List Bool)(b:Bool),x=.ref l/\vs=[.bl b]/\H l=some (.lst (bs.map V.bl))/\Q (.int ((bs.count b:Nat):Int)) H
theorem LR:vO X "list.count" EW:=by
 intro d s σ H x w v z Q I k j h;let(l,a,b,rfl,rfl,i,q):=h;cases k;let(u,rfl,m):=j.one;cases(show u=ir b from m);let(A,g,n,r,t,e):=I.lstM i;have p:=A4 r;subst p;show lg PySem.F.slot_list_count ⟨_,e,rfl⟩ PySem.F.entry_list_count (PySem.F.args_list_count_2 _ _) (SeqAt.list_countAt l (a.map ir).toArray n none #[] (.bool b) (rg b)) ⟨e,λy o=>?_,?_⟩
 .let(c,_,rfl):=List.mem_map.mp (by simpa using o:y∈a.map ir);show lG c b
 .have f:(a.map ir).toArray.toList.countP (rg b)=a.count b:=by
   show(a.map ir).countP (rg b)=a.countP (· == b);rw[List.countP_map];rfl
  rw[f];show(.int _,H,I.tok _,⟨_,rfl⟩,q)
def Fq:V->List V->Hp->VK->Prop:=λx vs H Q=>∃(l:Addr)(bs:List Bool)(b:Bool)(j:Nat),x=.ref l/\vs=[.bl b]/\H l=some (.lst (bs.map V.bl))/\bs[j]?=some b/\(∀ m,m<j->bs[m]?≠some b)/\Q (.int (j:Int)) H
theorem M4:vO X "list.index" Fq:=by
 intro t s σ H x N v O Q I E D h;let(l,a,b,j,rfl,rfl,C,w,k,q):=h;cases E;let(u,rfl,G):=D.one;cases(show u=ir b from G);let(B,A,n,r,M,e):=I.lstM C;have L:=A4 r;subst L;have z:j<a.length:=(cb.mp w).1;have P:(sizeLine:Int)<2 ^ 63-1:=by decide
 have K:a.length<=sizeLine:=by simpa using B
 have d:∀ m (g:m<(a.map ir).toArray.size), ∃ c,a[m]?=some c/\(a.map ir).toArray[m]=.bool c:=λm g=>by
  have i:m<a.length:=by simpa using g
  show(a[m],b7 i,by simp)
 show lg PySem.F.slot_list_index ⟨_,e,rfl⟩ PySem.F.entry_list_index (PySem.F.args_list_index_2 _ _) (SeqAt.list_indexAt l (a.map ir).toArray n none #[] (.bool b) (rg b) j (by simpa using z) ∅ ?_ λm g o=>?_) ⟨e,λy J=>?_,?_⟩
 .let(c,f,p):=d j (by simpa using z);rw[w]at f;cases f;rw[p];simp[rg]
 .let(c,f,p):=d m g;rw[p];have:=k m o;rw[f]at this;simp only[rg,beq_eq_false_iff_ne];showλh=>this (by rw[h])
 .let(c,_,rfl):=List.mem_map.mp (by simpa using J:y∈a.map ir);show lG c b
 .show(.int (j:Int),H,I.tok _,⟨_,rfl⟩,q)
section
variable{ls:List PD}{M:Str->Option Str}{a b:Str}{f g:Str}{p:PD}
end
section
variable{K:bY}
end
variable{a b:Str->Rat}
structure Gp where
 R:Rat
 way:List Str
section
variable{N:List Str}{w M f':Str->Rat}{gs:List Gp}{f:Str->Rat}
end
section
variable{lvs:List (Str × (Int × Int))}{n:Str}{L:Int × Int}{ns:List Str}{w:Str->Rat}{m:Str}
end
variable{N ns:List Str}{w M:Str->Rat}{gs:List Gp}{lvs:List (Str × (Int × Int))}{c:Rat}{L:Int × Int}
section
variable{E:Int}{r s:Rat}{D:Int}
end
theorem Ld(rel:KV kvs vs):vs.map (·.1)=kvs.map (·.1):=by
 unfold KV at rel;induction rel with
 | nil=>rfl
 | cons h1 _ ih=>rw[hV,hV,ih,h1.1]
variable{w:ik}{v:bV}
theorem Lf{z:Str}(h:(nh P w).is (iZ z) v=true):∃ t,v=.str z t:=by
 rcases rB (show keyIs (iZ z) v=true from h)with⟨b,hb,_⟩ | ⟨y,t,hy,rfl⟩
 .cases hb
 .cases hy;show(t,rfl)
def B0(d:Addr)(od:Obj)(kvs:List (jz × V))(ss:List Str):It :=
 ⟨λi H=>H d=some (.frz od (.dK kvs))/\i<ss.length,λi H x H'=>H'=H/\(ss.map V.str)[i]?=some x,λi H=>H d=some (.frz od (.dK kvs))/\ss.length<=i⟩
theorem Ml{K:bY}(rel:KV kvs vs)(hk:kvs.map (·.1)=ss.map iZ)(hd:∀ h:Heap,h.get? d=some od->h.DictAt (nh P w) d vs ep) :
  Turn P w K tg (B0 d od kvs ss) [it] it (λi h=>h.IsKeyIter it d i vs.length ep) where
 mem:=by simp
 obj:=λi h a b hb=>by
  obtain rfl:b=it:=by simpa using hb
  let(o,e,c,z):=a;show(o,e,λv q=>by rw[z]at q;cases q)
 keep:=λi h r a k=>a.at λo e=>k it (by simp) o e
 item:=by
  intro X G F hK M i f s σ H E I x a B;subst G F hK;let(j,D):=B;let(y,A,R,C,J,L):=x it (by simp);have g:=(I.hok d _ j).1;have Q:=rel.length;have lk:kvs.length=ss.length:=by simpa using congrArg List.length hk
  obtain⟨⟨k,S⟩,m⟩:∃ p,vs[i]?=some p:=⟨_,b7 (show i<vs.length by ac_nf)⟩;have u:(vs.map (·.1))[i]?=some k:=by rw[gG,m];rfl
  rw[Ld rel,hk,gG,b7 D]at u;have u:iZ ss[i]=k:=gL u;subst u;show wpAny_pyNext_dict_item a (hd _ g) m λkey r l n N=>?_;let(t,rfl):=Lf l;have I1:Inv X f σ H { s with heap:=r }:=I.turned (t':=s.toks) (λb o hb e=>(N.2 b hb).trans e) y A C J L;let(o,e,c,z):=id n;show(_,rfl,oU (s:={ s with heap:=r }) e c z ⋯ ⟨.str ss[i],H,I1,⟨t,rfl⟩,⟨rfl,by rw[gG,b7 D];rfl⟩,n,λb hb=>(x b hb).1⟩)
 done:=by
  intro X G F hK M i f s σ H E I x a B;subst G F hK;let(j,D):=B;let(y,A,R,C,J,L):=x it (by simp);have g:=(I.hok d _ j).1;have Q:=rel.length;have lk:kvs.length=ss.length:=by simpa using congrArg List.length hk
  show wpAny_pyNext_dict_end (I.ok.hd M) a (hd _ g) (iH ∅) λr O=>⟨rfl,I.turned (t':=s.toks) (λb o hb e=>O b o hb e) y A C J L⟩
 self:=λ_ _ _ _ _ a h=>wpAny_pyIter_keyiter a h
def r6(td:TE):TI:=λσ H R=>td σ H λx H1=>∃(d:Addr)(kvs:List (jz × V))(ss:List Str),x=.ref d/\H1 d=some (.dK kvs)/\kvs.map (·.1)=ss.map iZ/\∀ od,R (B0 d od kvs ss) (upd H1 d (.frz od (.dK kvs)))
theorem y3(ho:PE X o td):PI X tg o (r6 td):=by
 intro c s σ H R I h;show jl (ho c s σ H _ I h) λv g ζ=>?_;let(y,A,I1,r,d,kvs,B,x,e,n,m):=ζ;subst x;obtain rfl:v=cf d:=r;let(C,l,vs,f,t):=nO I1.hok e;let(ep,k):=t.dictAt;let(j,p,a,rest):=id k;show wpAny_pyIter_dict (knd:=nh X.prog X.w) (d:=d) (kvs:=vs) (ep:=ep) l k ?_;have u:∀ b o,g.heap.get? b=some o->(g.heap.push { cls:=.type "dict_keyiterator",data:=.fields #[.ref d, .int 0 0, .int vs.length 0, .int ep 0] }).get? b=some o:=λb o z=>bW _ z;have I2:=(I1.freeze e a).kept (t':=g.toks) u;show(_,[_],_,_,_,rfl,I2,Ml (vs:=vs) (ep:=ep) f n (λh q=>⟨j,p,q,rest⟩),⟨_,ck _ rfl,rfl,rfl⟩,λb i=>?_,m j);obtain rfl:=i7.mp i;show I1.fpOk (cB _) ((I1.freeze e a).hok.fresh (cB _))
def Eo(ts:TS):TS:=λD σ H=>∃ d kvs,H d=some (.dK kvs)/\ts { nx:=λσ' H'=>∃ od kvs',H' d=some (.frz od (.dK kvs'))/\D.nx σ' (upd H' d (.dK kvs')),rt:=λ_ _=>False } σ H
theorem JV{st:Stmt}{ts:TS}(h:PS X st ts):PS X st (Eo ts):=by
 intro b s σ H D I ⟨d,g,i,q⟩;show gJ (h b s σ H _ I q) (λf l z=>?_) λ_ _ z=>z;cases f with
 | next=>
  let(σ',c,I1,k,e,j,a):=z;show(σ',_,I.thaw i I1 j,a)
 | brk=>let(σ',c,I1,a):=z;show a.elim
 | cont=>let(σ',c,I1,a):=z;show a.elim
 | ret v=>let(y,σ',c,I1,r,a):=z;show a.elim
def tR(td:TE):TE:=λσ H Q=>td σ H λx H1=>∃(d:Addr)(kvs:List (jz × V))(ns:List Int),x=.ref d/\H1 d=some (.dK kvs)/\kvs.map (·.2)=ns.map V.int/\Q (.int ns.sum) H1
theorem Fv(ns:List Int):∀ k,k<=ns.length->preSum (λi=>ns.getD i 0) k=(ns.take k).sum
 | 0,_=>by simp[preSum]
 | k+1,h=>by
  rw[take_sum_succ ns k ∅, <- Fv ns k ∅];rfl
theorem J0(hc:X.calm=true)(hx:x="sum")(hg:Gl X x)(hm:X.mg x=none)(hv:gI x=some (.builtin "sum"))(ho:PE X o td)
  (hb:autoParam (jb o "values" X.env (eval o X.env)=eval o X.env) Au) (hn:autoParam ((apos.endLine == cpos.line)=true) Au) :
  PE X (.Call (.Name x p1) [.Call (.Attribute o "values" apos) [] [] cpos] [] pos) (tR td):=by
 intro f s σ H Q I h;have E:x≠"__name__":=by rw[hx];decide
 have R:(x == ("__debug__" : Str))=false:=by rw[hx];decide
 show ic (se I hg hm hv ?_ E R);show lA ?_ rfl rfl;show gu _ _ (spliced ((false,eval (.Call (.Attribute o "values" apos) [] [] cpos) X.env)::iP pos (gy [] X.env))) _ _ s;show h9 ?_;show lR hb hn (jl (ho f s σ H _ I h) λv n ζ=>?_);let(y,M,I1,N,d,kvs,a,U,e,l,K):=ζ;subst U;obtain rfl:v=cf d:=N;let(B,T,J):=vd I1 (.inl ⟨kvs, .inl e⟩);let(hz,_,j,c,t):=nO I1.hok e;show("dict","dict.values",iK,ji,PySem.F.type_dict_values,B,T,ig rfl (mq ?_));show ka ji B PySem.F.entry_dict_values (mC _) (meets_dict_values (nh X.prog X.w) d J) ⟨⟨j,t⟩,?_⟩;show iI ?_;let(ep,q):=t.dictAt;have L:X.A.in1.handled=none:=by have:=I.ok.hd hc;simp[this]
 have C:d<n.heap.objs.size:=q.lt_size;have p:(n.heap.push { cls:=.type "dict_values",data:=.fields #[.ref d] }).objs.size=n.heap.objs.size+1:=iD ..;show call_sum_walkG (wpAny_pyIter_values (knd:=nh X.prog X.w) (v:=n.heap.objs.size) (d:=d) (kvs:=j) (ep:=ep) ⟨_,ck _ rfl,rfl,rfl⟩ (q.push _) ?_);have V:=c.length;have ln:a.length=kvs.length:=by simpa using(congrArg List.length l).symm
 show(_,_,_,_,_,_,λi=>a.getD i 0,rfl,Walks.dictValues (knd:=nh X.prog X.w) L _ d (by rw[p];show cq (lN C)) j ep,⟨⟨_,ck _ rfl,rfl,rfl⟩,(q.push _).push _⟩,λb g=>?_,λi u O=>?_,λW G t' k=>?_)
 .simp only[gW,iJ,or_false]at g;show b<(Heap.push _ _).objs.size;rw[iD];rcases g with rfl | rfl
  .show jI _
  .rw[p];show lN (lN C)
 .let(Z,r):=O;have D:=AD c;have P:(j.map (·.2))[i]?=some u:=by rw[gG,r];rfl
  have li:i<kvs.length:=by
   have:=(cb.mp r).1;ac_nf
  let(Y,m,S):=D.get (i:=i) (x:=.int (a.getD i 0)) (by rw[l,gG,b7 (show i<a.length by ac_nf)];simp[iw,b7 (show i<a.length by ac_nf)]);rw[P]at m;cases m;show S
 .rw[show j.length=a.length by ac_nf,Fv a _ (cB _),List.take_of_length_le (cB _)];show(.int _,M,I1.kept (t':=G) (λb o z=>k b o (by simp only[gW,iJ,or_false];have:=b9 z;rw[p];show cq (lN this)) (bW _ (bW _ z))),⟨_,rfl⟩,K)
section
variable{tl:TE}{tt:TT}{H1:Hp}{k:Nat}{cs:List (Nat × Str)}{g:TG}
theorem m7.f{a:Addr}{k:jz}(e:H a=some (.frz od (.dK kvs))):m7 H a (kV k) (lB kvs k):=.inl ⟨kvs,k, .inr ⟨od,e⟩,rfl,rfl⟩
end
variable{a c:Int × Int}
structure u6 where
 nm:Str
 rest:Int × Int
 ws:List (Str × Int)
 load:Int
 last:Int × Int
section
variable{w:Str->Rat}{e:u6}{g:Gp}{m:Str}
end
section
variable{w:Str->Rat}{m:Str}
end
section
variable{a:Addr}{kv kw:List (jz × V)}{k:jz}
end
section
variable{b Q:Int}{w:Str->Rat}{ms:List (Str × (Int × Int))}{lds:List u6}{D:Int}{k:Nat}
end
structure Ht where
 nm:Str
 sl:Int × Int
 sp:Option Str
section
variable{ls:List PD}{es:List (GD × List Str)}{pl:Str->Int × Int}{f':Str->Rat}{rs rs':List Ht}{p:PD}{f:Str->Rat}
end
variable{ls:List PD}{es:List (GD × List Str)}{pl:Str->Int × Int}{lds:List u6}{ms:List (Str × (Int × Int))}{b q0:Int}
section
variable{a b c d B:TS}{D:Ends}
end
structure uh where
 src:Str
 tgt:Str
 cost:Int × Int
 wh:Int
 nm:Str
 fw:Bool
abbrev Ai:=List (Str × Int)
abbrev u9:=List (Str × uh)
def lk:List (Str × α)->Str->Option α
 | [],_=>none
 | p::r,f=>if p.1=f then some p.2 else lk r f
structure BF where
 S:Ai
 P:u9
 ch:Option Str
section
variable{ss:List uh}{f0:Str}{π:Str->Int}{s:uh}{fs:List Str}{t:BF}
end
section
variable{ss:List uh}{f0:Str}{π:Str->Int}{s:uh}{fs:List Str}{t:BF}
end
section
variable{R R' : α->V->Prop}
end
section
variable{ss:List uh}{P:u9}{fs:List Str}
end
def B1(K:bY)(a:Addr)(n:Nat):It :=
 ⟨λi H=>i<n/\∃ xs x,jM K H a xs/\xs[n-1-i]?=some x,λi H x H'=>H'=H/\∀ xs,jM K H a xs->xs[n-1-i]?=some x,λi _=>i=n⟩
theorem Me{K:bY}(a it:Addr)(n:Nat):Turn P w K tg (B1 K a n) [it] it (λi h=>h.IsRevIter it a ((n:Int)-1-(i:Int))) where
 mem:=by simp
 obj:=λi h f b hb=>by
  have e:b=it:=by simpa using hb
  subst e;let(o,e,c,d):=f;show(o,e,λv z=>by rw[d]at z;cases z)
 keep:=λi h m f k=>f.at λo e=>k it (by simp) o e
 item:=by
  intro X B A hK G i g s σ H E I q f l;subst B A hK;let(li,Y,x,F,hx):=l;let(M,N,p,Z):=I.list F;let(u,O,R):=N.get hx;let(r,t,Q,y,C,D):=q it (by simp);have T:(n:Int)-1-(i:Int)=((n-1-i:Nat):Int):=by ac_nf
  rw[T]at f;show wpAny_pyNext_rev_item f p.isList (x:=u) (by simpa using O) λm j J=>?_;have I1:Inv X g σ H { s with heap:=m }:=I.turned (t':=s.toks) (λb o hb e=>(J.2 b hb).trans e) r t y C D;have U:((n-1-i:Nat):Int)-1=(n:Int)-1-((i+1:Nat):Int):=by ac_nf
  rw[U]at j;let(o,e,c,d):=id j;show(u,rfl,oU (s:={ s with heap:=m }) e c d ⋯ ⟨x,H,I1,R,⟨rfl,λV S=>by rw[I.list_inj S F];show hx⟩,j,λb hb=>(q b hb).1⟩)
 done:=by
  intro X B A hK G i g s σ H E I q f l;subst B A hK;have l:i=n:=l;subst l;let(r,t,Q,y,C,D):=q it (by simp);have e:(i:Int)-1-(i:Int) = -1:=by ac_nf
  rw[e]at f;show wpAny_pyNext_rev_end (I.ok.hd G) f λm L=>⟨rfl,I.turned (t':=s.toks) (λb o hb e=>L b o hb e) r t y C D⟩
 self:=λ_ _ _ _ _ f h=>wpAny_pyIter_revIter f h
def rZ(K:bY)(tl:TE):TI:=λσ H R=>tl σ H λx H1=>∃ a xs,x=.ref a/\jM K H1 a xs/\R (B1 K a xs.length) H1
variable{p2 pos2:Pos}
theorem JY{t:TE}{y:Str}(hy:y="reversed")(hg2:Gl X y)(hm2:X.mg y=none)(hv2:gI y=some (.type "reversed"))(ha:PE X e t)(he:autoParam (gy [e] X.env=(false,eval e X.env)::gy [] X.env) Au) :
  PI X tg (.Call (.Name y p2) [e] [] pos2) (rZ X.K t):=by
 intro c s σ H R I h;have j:y≠"__name__":=by rw[hy];decide
 have r:(y == ("__debug__" : Str))=false:=by rw[hy];decide
 show ic (se I hg2 hm2 hv2 ?_ j r);show ie ?_ he rfl;rw[he];show gu _ _ (spliced ((false,eval e X.env)::iP pos2 (gy [] X.env))) _ _ s;show h9 (jl (ha c s σ H _ I h) λu d ζ=>?_);let(x,i,I1,n,q):=ζ;show iI ?_;let(a,g,rfl,l,q):=q;obtain rfl:u=cf a:=n;let(f,m,p,w):=I1.list l;show call_reversed_list p.isList ?_;show wpAny_pyIter_revIter ⟨_,ck _ rfl,rfl,rfl⟩ ?_;have v:=m.length;show(d.heap.objs.size,[d.heap.objs.size],_,_,i,rfl,I1.kept (t':=d.toks) λb o e=>bW _ e,Me a _ g.length,?_,λb hb=>?_,q)
 .show(_,ck _ rfl,rfl,?_);unfold revObj;have k:((f.toArray.size:Nat):Int)-1=(g.length:Int)-1-((0:Nat):Int):=by
   rw[gF];ac_nf
  rw[k]
 .have e:b=d.heap.objs.size:=by simpa using hb
  subst e;show I1.fpOk (cB _) (I1.hok.fresh (cB _))
theorem Lz{K:bY}(hK:X.K=K){e:Expr}{t:TE}{p2 pos2:Pos}{y:Str}(hy:y="reversed")(hg2:Gl X y)(hm2:X.mg y=none)(hv2:gI y=some (.type "reversed"))(ha:PE X e t)(he:autoParam (gy [e] X.env=(false,eval e X.env)::gy [] X.env) Au) :
  PI X tg (.Call (.Name y p2) [e] [] pos2) (rZ K t):=hK ▸ JY hy hg2 hm2 hv2 ha he
section
variable{tl:TE}{tb:TS}{K:bY}{g:TG}{D:Ends}
end
abbrev tP:List bV:=[.type "ValueError", .type "Exception", .type "BaseException", .type "object"]
structure nu(K:bY)(C S f:Addr):Prop where
 up:kx K S tP "ValueError.__new__"=true
 at_:∃ nm q N bs sn sub ab col dd k0 k1 k2 k3 k5,K.lookup C=some (mG nm q C N bs (.ref S::tP) true sn sub ab col dd k0 k1 k2 k3 k5 "ValueError.__new__")
 init:iL K (.ref C) "__init__"=some (some (.ref f))
 fn:W.isFn K (.ref f)=true
 kp:ki K (.ref C)=true
def ow(e C:Addr)(od:Option Addr):HO:=.ext λh=>∃ t:Addr,h.get? e=some { cls:=.ref C,dict:=od,data:=.fields #[.ref t, .none, .none, .none, .bool false, .none] }
section
variable{d:Drawn}{os:OsState}{g:Array GenState}{t:Nat}{nm q:Str}{C N:Addr}{bm bmB sub:List bV}{hdct ab:Bool}{sn:List Str}{col:Option Bool}{dd:Option Addr}{k0 k1 k2 k3 k5:Option bV}{B newId initId:String}{bs:List bV}{K:bY}
theorem Nt(F:ExcBaseFacts B newId initId bmB)(T:OwnTail h bmB bm){rest:List bV}{fI:Addr}{Q:Fin->b8->Prop}(X:K.In h)
  (hC:h.get? C=some (mG nm q C N bs bm hdct sn sub ab col dd k0 k1 k2 k3 k5 newId)) (hi:iL K (.ref C) "__init__"=some (some (.ref fI)))
  (hfI:W.isFn K (.ref fI)=true)
  (hq:∀ h' e,Heap.MadeExcOf h h' e (.ref C) rest->h.objs.size<=e ->
   gu (gx prog w) A (call (.ref fI) (.ref e::rest)) (λr s'=>r=.none/\Q (.done (.ret (.ref e))) s') E ⟨h',g,d,t,os⟩) (hrest:rest.length<=sizeLine:=by size_fits) :
  gu (gx prog w) A (Builtin.«type.__call__» ⟨.ref C::rest,[]⟩) Q E ⟨h,g,d,t,os⟩:=by
 repeat (first | with_reducible show je hC ?_ | with_reducible show wpAny_madeBy_exc hC ?_ | wp_step)
 show codeAny_call_builtin_code (Code.quiet_builtin _ F.quiet) (wpAny_check_new_subT F T hC ?_);show codeAny_exc_new_subT F T hC ?_ hrest;show gu _ _ _ _ _ _;have f:∀ b o,h.get? b=some o->((h.push { cls:=.type "tuple",data:=.seq rest.toArray }).push { cls:=.ref C,data:=.fields #[.ref h.objs.size, .none, .none, .none, .bool false, .none] }).get? b=some o:=λb o e=>bW _ (bW _ e);have hC₁:=f _ _ hC;have X₁:=X.keeps f;have a:((h.push { cls:=.type "tuple",data:=.seq rest.toArray }).push
   { cls:=.ref C,data:=.fields #[.ref h.objs.size, .none, .none, .none, .bool false, .none] }).get? (h.objs.size+1)=some
   { cls:=.ref C,data:=.fields #[.ref h.objs.size, .none, .none, .none, .bool false, .none] }:=by heap_get
 have c:(cf C::bm).contains (.ref C)=true:=by simp
 unfold isInstance;repeat (first | with_reducible show je a ?_ | (with_reducible show wpAny_isSubtype_exc hC₁ ?_;rw[c]) | wp_step)
 show gu _ _ (typeLookup (.ref C) _) _ _ _;show(W.looks_findIn X₁ hi).at ?_;show kc (bO ((W.bind_fn X₁ _ (beq_iff_eq.mp hfI)).at ?_));show bO (gJ (hq _ (h.objs.size+1) ⟨f,i3 (mm _),h.objs.size,a,i3 (cB _),?_⟩ (mm _)) (λr s' j=>?_) λ_ _ x=>x)
 .show bW _ (Heap.get?_push_at rfl rfl)
 .let(rfl,i):=j
  wp_walk
  show i
theorem N3(F:ExcBaseFacts B newId initId bmB)(T:OwnTail h bmB bm){rest:List bV}{fI:Addr}{Q:bV->b8->Prop}(X:K.In h)
  (hC:h.get? C=some (mG nm q C N bs bm hdct sn sub ab col dd k0 k1 k2 k3 k5 newId)) (hi:iL K (.ref C) "__init__"=some (some (.ref fI)))
  (hfI:W.isFn K (.ref fI)=true)
  (hq:∀ h' e,Heap.MadeExcOf h h' e (.ref C) rest->h.objs.size<=e ->
   gu (gx prog w) (A.under (.builtin "type.__call__" ⟨.ref C::rest,[]⟩)) (call (.ref fI) (.ref e::rest)) (λr s'=>r=.none/\Q (.ref e) s') E ⟨h',g,d,t,os⟩) (hrest:rest.length<=sizeLine:=by size_fits) :
  gu (gx prog w) A (call (.ref C) rest) Q E ⟨h,g,d,t,os⟩:=by
 have f:=tc_lookup;have c:=tc_bind (.ref C);have b:(⟨h,g,d,t,os⟩:b8).TypeIs (.ref C) "type":=⟨_,hC,rfl⟩;show my (codeAny_of_tree ?_);show gu _ _ (callAny (.ref C) _) _ _ _;repeat (any_goals (first | assumption | with_reducible show je hC ?_ | wp_step))
 show(rfl,?_);show codeAny_call_builtin_at (Code.quiet_builtin _ (by decide +kernel)) entry_typeCall (wpAny_check_type_call_sub hC (Nt (hrest:=hrest) F T X hC hi hfI λh' e a hs=>?_));show hq h' e a hs
end
section
variable{C:Addr}{fd:iC}{ps:List Str}{sp:Sp}{E:XK}{es:List Expr}{k:Nat}{f:Addr}{m:Str}{p:Pos}{t:TA}{od:Option Addr}
theorem AZ{e:Addr}(z:∃ t:Addr,h.get? e=some { cls:=.ref C,dict:=od,data:=.fields #[.ref t, .none, .none, .none, .bool false, .none] }):jk P w H h e (ow e C od) :=
 ⟨z,let⟨_,e⟩:=z;⟨_,e⟩,λ_ _ ⟨t,e⟩ k=>⟨t,k _ e⟩⟩
theorem nu.cls{K:bY}(M:nu K C S f)(Xi:K.In h):∃ nm q N bs sn sub ab col dd k0 k1 k2 k3 k5,h.get? C=some (mG nm q C N bs (.ref S::tP) true sn sub ab col dd k0 k1 k2 k3 k5 "ValueError.__new__")/\OwnTail h tP (.ref S::tP):=by
 let(nm,q,N,bs,sn,sub,ab,col,dd,k0,k1,k2,k3,k5,z):=M.at_;let(_,_,_,_,_,_,_,_,_,_,_,_,_,_,_,_,_,b,c,a,_):=Fn Xi M.up;show(nm,q,N,bs,sn,sub,ab,col,dd,k0,k1,k2,k3,k5,Xi _ _ z, .own b c a .base)
variable{us:List bV}
theorem Ms{vs:List V}(M:nu X.K C S f)(F:lJ X.prog X.w X.K X.mg X.base (kU X.prog X.w) k f fd ps sp)(hr:ku (k+1) X.A)(hb:Binds X.K fd ps [])
  (hx:qb (kU X.prog X.w) X E) (I:Inv X pins σ H s) (r:Vals vs us) (hz:vs.length<=sizeLine)
  (h:∀ x,H x=none->sp (.ref x::vs) (upd H x (ow x C none)) (λv H2=>v=.non/\Q (.ref x) H2) E) :
  gu (gx X.prog X.w) X.A (call (.ref C) us) (EP X pins σ Q) X.xe s:=by
 let(R,q,N,bs,sn,D,U,J,Y,k0,k1,k2,Z,k5,z,T):=M.cls I.kIn;let(W,g,d,i,o):=s;show N3 cp T I.kIn z M.init M.fn (λm b j hs=>?_) (by rw[<- r.length];show hz);have n:=h b (I.hok.isnone j.new);let(p,B,_,_):=j.there;have I2:Inv X pins σ (upd H b (ow b C none)) ⟨m,g,d,i,o⟩:=I.laid (t':=i) j.keeps hs (AZ ⟨p,B⟩);have l:Vals (V.ref b::vs) (cf b::us):=.cons rfl r;have G:(cf b::us++[]).length=ps.length:=by
  have e:=l.length;rw[F.len _ _ _ _ n]at e;simpa using e.symm
 have c:=hb ⟨m,g,d,i,o⟩ (cf b::us) I2.kIn G;rw[List.append_nil]at c;show my (mf (F.run _ X.stack _ _ ⟨cf b::us,[]⟩ (cf b::us) _ _ E (hr.make C us []) (I2.env0.make C us []) c l n) λr P a=>?_);cases r with
 | error e=>show hx pins σ _ _ e P I2 a
 | ok fl=>
  cases fl with
  | ret u=>
   let(v,y,I3,L,t,O):=I2.after a;subst t;show(L,⟨V.ref b,y,I3,rfl,O⟩)
  | next=>show i0 a
  | brk=>show i0 a
  | cont=>show i0 a
def yU(C:Addr)(sp:Sp)(E:XK)(t:TA):TE:=λσ H Q=>t σ H λvs H1=>vs.length<=sizeLine/\∀ x,H1 x=none->sp (.ref x::vs) (upd H1 x (ow x C none)) (λv H2=>v=.non/\Q (.ref x) H2) E
theorem LC(M:nu X.K C S f)(F:lJ X.prog X.w X.K X.mg X.base (kU X.prog X.w) k f fd ps sp)(hr:ku (k+1) X.A)(hg:Gl X x)(hm:X.mg x=some (.ref C))(hb:Binds X.K fd ps [])(hx:qb (kU X.prog X.w) X E)
  (ha:PA X (e::es) t) (hdb:autoParam ((x == ("__debug__" : Str))=false) Au) (he:autoParam (gy (e::es) X.env=(false,eval e X.env)::gy es X.env) Au) (hpl:autoParam ((iP pos (gy es X.env)).any (·.1)=false) Au) :
  PE X (.Call (.Name x p) (e::es) [] pos) (yU C sp E t):=by
 intro a s σ H Q I h;show ic (uu I hg hm ?_ hdb);show W.callWith_K (h₀:=X.base) I.ok.mod.kin M.kp (jl (ha pos a s σ H _ I h) λd g ζ=>?_) he hpl;let(c,b,I1,r,q):=ζ;show(I1.kIn,?_);show Ms M F hr hb hx I1 r q.1 q.2
end
section
variable{mg:Str->Option bV}{base:Heap}{qual:Str}{scope:Scope}{cdv:bV}{outer:List Env}{s0:b8}{H0:Hp}{E:XK}{K:bY}{f:Addr}
def A5(K:bY)(H0:Hp)(E:XK)(te:TE):TS:=λ_ σ H=>te σ H λv H1=>∃ e C S f od,v=.ref e/\H1 e=some (ow e C od)/\nu K C S f/\H0 e=none/\E (.ref C) od (sS H1 e)
theorem Gu{x:Expr}(hx:PE (lI (kU P w) P w K mg base N qual scope f cdv A outer s0 H0 E) x te) :
  PS (lI (kU P w) P w K mg base N qual scope f cdv A outer s0 H0 E) (.Raise (some x) none pos) (A5 K H0 E te):=by
 intro a s σ H D I h;have p:(A.deeper (hI qual scope s0.heap.objs.size f cdv)).handled=none:=I.ok.hd rfl;rw[arm_exec_Raise];show bO (wpAny_standAt ?_);show gu _ _ (raiseStmt _ (some (do let v <- eval x _;standAt pos;pure v)) none) _ _ _;unfold raiseStmt;show bO (bO (jl (hx a s σ H _ I h) λu n ζ=>?_));let(v,Q,I1,F,e,C,S,R,U,m,c,M,y,q):=ζ;show bO (wpAny_standAt (gw ?_));subst m;obtain rfl:u=cf e:=F;let(G,O,N',Z,sn,r,J,B,W,k0,k1,k2,Y,k5,j,T):=M.cls I1.kIn;let(t,k):=(I1.hok e _ c).1;let(V,g,d,L,os):=n;have i:(cf C::(.ref S::tP)).contains (.type "BaseException")=true:=by rw[List.contains_cons,T.hasType (X:="BaseException") (b:=true) ⋯,Bool.or_true]
 repeat (first | with_reducible show je k ?_ | with_reducible show je j ?_ | (with_reducible show wpAny_isSubtype_exc j ?_;rw[i]) | wp_step)
 show wpAny_raiseNew_none p ?_;show IE I1 c k rfl rfl rfl ?_ q;cases z:s0.heap.get? e with
 | none=>rfl
 | some o=>
  have l:=I1.base.free e o z y (by intro z;cases z);rw[c]at l;cases l
end
structure xR(K:bY)(S:Addr):Prop where
 ga:W.specialIn K (.ref S) "__getattribute__"=some (some (.builtin "type.__getattribute__"))
 rd:W.readsIn K S (.type "type")=true
 fi:W.findCls K (.ref S) (.type "type") "__init__"=some (.val (.builtin "ValueError.__init__"))
section
variable{C:Addr}{es:List Expr}{f:Addr}{p:Pos}{t:TA}{d:Drawn}{os:OsState}{a0:Addr}
theorem JJ{K:bY}{g:Array GenState}{t:Nat}{Q:bV->b8->Prop}{ex:Addr}{od:Option Addr}{rest:List bV}
  (M:nu K C S f) (Xi:K.In h) (he:h.get? ex=some { cls:=.ref C,dict:=od,data:=.fields #[.ref a0, .none, .none, .none, .bool false, .none] }) (hr:rest.length<=sizeLine)
  (hq:∀ h' t',(∃ a1:Addr,h'.get? ex=some { cls:=.ref C,dict:=od,data:=.fields #[.ref a1, .none, .none, .none, .bool false, .none] })->(∀ b u,b≠ex->h.get? b=some u->h'.get? b=some u)->Q .none ⟨h',g,d,t',os⟩) :
  gu (gx prog w) A (call (.builtin "ValueError.__init__") (.ref ex::rest)) Q E ⟨h,g,d,t,os⟩:=by
 have F:=cp;let(k,q,N,o,s,e,l,i,m,p,x,r,n,v,c,T):=M.cls Xi;show my (lb F.init.plain F.initEntry (wpAny_check_init_subT F T c he rfl ?_));have a:=bW (h:=h) { cls:=.type "tuple",data:=.seq rest.toArray } he
 wp_walk
 show hq _ _ ⟨h.objs.size,?_⟩ λb u j hb=>?_
 .rw[jh _ a rfl];rfl
 .rw[g5 _ _ (iQ j)];show bW _ hb
def Ew(K:bY)(t:TA):TE:=λσ H Q=>t σ H λvs H2=>∃ e rest C S f od,vs=.ref e::rest/\rest.length<=sizeLine/\H2 e=some (ow e C od)/\nu K C S f/\Q .non (upd H2 e (ow e C od))
variable{pl:Sem Bool}
theorem FJ(G:xR X.K S)(hg:Gl X x)(hm:X.mg x=some (.ref S))(ha:PA X (e::es) t)(hdb:autoParam ((x == ("__debug__" : Str))=false) Au)
  (hst:autoParam (gy (e::es) X.env=(false,eval e X.env)::gy es X.env) Au) (hpl:autoParam ((iP pos (gy es X.env)).any (·.1)=false) Au)
  (ht:autoParam (eval (.Call (.Attribute (.Name x p) "__init__" apos) (e::es) [] pos) X.env=(do
   let ov <- eval (.Name x p) X.env
   standAt apos.atName
   let(f,first) <- holding [ov] (getMethod ov "__init__" pl)
   callWith pos f first (iP pos (gy (e::es) X.env)) (backToKw pos (lS [] X.env)))) Au) :
  PE X (.Call (.Attribute (.Name x p) "__init__" apos) (e::es) [] pos) (Ew X.K t):=by
 intro a s σ H Q I h;show mH (pl:=pl) (uu I hg hm ?_ hdb) ht;show W.method_cls I.kIn G.ga (W.cls_value I.kIn G.rd G.fi (by decide +kernel) ?_);show lA (jl (ha pos a _ σ H _ (I.tok _) h) λD i ζ=>?_) hst hpl;let(A,q,I2,r,b,rest,C,B,f,w,l,m,c,M,j):=ζ;subst l;cases r with
 | @cons _ u _ us' ru rr=>
 obtain rfl:u=cf b:=ru;let(v,hg):=(I2.hok b _ c).1;let(y,g,d,n,E):=i;show JJ M I2.kIn hg (by rw[<- rr.length];show m) λo t' z k=>?_;show(V.non,_,I2.write (t':=t') (e:=b) (by rw[c];show trivial) (.inl rfl) k (let⟨_,z⟩:=z;⟨_,z⟩) (AZ z),rfl,j)
end
section
open PySem.W PySem.Builtin PySem.Builtin.ObjectAttr
variable{d:Drawn}{os:OsState}{x C a0:Addr}{name:Str}{K:bY}{g:Array GenState}{t:Nat}{f:Addr}{ox:Obj}{Q:Unit->b8->Prop}
theorem Ma{M:Model}{nameV:bV}(Mx:nu K C S f)(X:K.In h)(hx:h.get? x=some ox)(hc:ox.cls=.ref C)(hq:Q () ⟨h,g,d,t,os⟩) :
  gu M A (checkBuiltinCall "object.__setattr__" ⟨[.ref x,nameV,v],[]⟩) Q E ⟨h,g,d,t,os⟩:=by
 have a:=PySem.F.store_ValueError;let(k,q,N,o,s,i,l,j,m,p,y,r,n,u,e,T):=Mx.cls X;have c:(cf C::.ref S::tP).contains (.type "object")=true:=by rw[List.contains_cons,T.hasType (X:="object") (b:=true) ⋯,Bool.or_true]
 have w:=a.args (.ref x) nameV v;simp only[checkBuiltinCall,a.kind,a.split];show bO ?_
 .unfold isInstance;repeat (first | (with_reducible show je hx ?_;rw[hc]) | (with_reducible show wpAny_isSubtype_exc e ?_;rw[c]) | wp_step)
  show hq
theorem L9(M:nu K C S f)(X:K.In h)(sa:findIn K (.ref C) "__setattr__"=some (some (.builtin "object.__setattr__")))(na:findIn K (.ref C) name=some none)
  (hx:h.get? x=some { cls:=.ref C,dict:=none,data:=.fields #[.ref a0, .none, .none, .none, .bool false, .none] })
  (hq:∀ h' t' dx,h.objs.size<=dx->h'.get? x=some { cls:=.ref C,dict:=some dx,data:=.fields #[.ref a0, .none, .none, .none, .bool false, .none] }->h'.Ns1 dx (λy=>if y=name then some v else none) ->
   (∀ b u,b≠x->h.get? b=some u->h'.get? b=some u)->Q () ⟨h',g,d,t',os⟩):gu (gx prog w) A (setAttr (.ref x) name v) Q E ⟨h,g,d,t,os⟩:=by
 have m:=PySem.F.store_ValueError;let(W,q,N,bs,sn,O,Y,P,dd,k0,k1,k2,k3,k5,I,T):=M.cls X;have Z:=m.slot.bind (.ref x);have L1:=looks_findIn (M:=gx prog w) X sa;have L2:=looks_findIn (M:=gx prog w) X na;unfold setAttr callSpecial? specialOf;repeat (any_goals (first | assumption | (with_reducible show je hx ?_) | lk | wp_step))
 show wpAny_run (lb m.slot.plain m.entry (Ma M X hx rfl ?_));have J:Looks (gx prog w) h (typeOf (.ref x)) (.ref C):=(Looks.ld hx).andThen .now;show gu _ _ (Builtin.«object.__setattr__» ⟨[.ref x, .str name t,v],[]⟩) _ _ _;rw[osa_eq,refuse_eq];show bO (bO (J.at (bO (wpAny_mroOf_exc I ?_))));rw[refuseLoop_ref,refuseLoop_ref,m.passes];show gw (bO (J.at (bO (L2.at (bO (gw (a:=none) ?_))))));show gu _ _ (storeInOwnDict (.ref x) (.ref C) (.str name t) name v false) _ _ _;obtain⟨o,j⟩:∃ o:Obj,o={ cls:=.ref C,dict:=none,data:=.fields #[.ref a0, .none, .none, .none, .bool false, .none] }:=⟨_,rfl⟩;have V:o.cls=.ref C:=by rw[j]
 have p:o.dict=none:=by rw[j]
 have G:∀ c,o.data≠.cls c:=λc=>by rw[j];intro z;cases z
 rw[<- j]at hx;repeat (first | (with_reducible show je hx ?_;rw[V]) | with_reducible show je I ?_ | wp_step)
 rw[p,if_neg (by simp[typeHasDict])];split
 .rename_i i;cases i
 split
 .rename_i c i;show absurd i (G c)
 .have hx₁ : (h.push { cls:=.type "dict",data:=.dict #[] }).get? x=some o:=bW _ hx;have l:x≠h.objs.size:=cq (b9 hx);show bO (wpAny_alloc' ?_);show bO (wpAny_update' hx₁ ?_);show gw ?_;have D:((h.push { cls:=.type "dict",data:=.dict #[] }).update x λo=>{ cls:=o.cls,dict:=some h.objs.size,data:=o.data,slots:=o.slots }).get? h.objs.size
    = some { cls:=.type "dict",data:=.dict #[] } :=
   (Heap.get?_update_ne _ _ _ _ l.symm).trans (Heap.get?_push_at rfl rfl)
  have B:((h.push { cls:=.type "dict",data:=.dict #[] }).update x λo=>{ cls:=o.cls,dict:=some h.objs.size,data:=o.data,slots:=o.slots }).Ns h.objs.size (λ_=>none) :=
   ⟨_, #[],_,D,rfl,λe U=>absurd U (by simp),λ_=>rfl⟩
  show gu _ _ (storeInDict h.objs.size (.str name t) name v) _ _ _;unfold storeInDict newKeyGuard;show bO (gw (bO (wpAny_nsSet1 (Heap.Ns1.of_empty B) λh' k hs=>?_)));let(oD,R,L,n,H,s):=k.count (Within.cons name v Within.nil);show bO (wpAny_lookBehind n (by rw[H];show pastItsLine_dict (g0 s (by rw[i6,List.length_nil,sizeLine_eq];ac_nf))) ?_)
  wp_walk
  show hq h' _ h.objs.size (cB _) ?_ k λb ob r hb=>?_
  .show(hs.2 x l).trans ((jh _ hx₁ ?_).trans (by rw[j]));rw[j];rfl
  .show(hs.2 b (cq (b9 hb))).trans ((Heap.get?_update_ne _ _ _ _ r).trans (bW _ hb))
structure qw(K:bY)(D:Addr)(name:Str):Prop where
 hd:lF K D=true
 ga:iL K (.ref D) "__getattribute__"=some (some (.builtin "BaseException.__getattribute__"))
 gh:iL K (.ref D) "__getattr__"=some none
 na:iL K (.ref D) name=some none
 mb:W.mroIn K D (.type "BaseException")=some true
theorem JI{expr:Bool}{Q:bV->b8->Prop}(X:K.In s.heap)(c:qw K C name)(J:W.InstAt s.heap x ox C (some od))(hl:lookIn name od=some (some v))(hv:handedIn v=true)(q:Q v { s with toks:=s.toks+1 }) :
  gu (gx prog w) A (getAttr (.ref x) name expr) Q E s:=by
 let(p,n,o,g,r):=s;have j:=J.type (M:=gx prog w);have f:=looks_findIn (M:=gx prog w) X c.ga;have e:=looks_findIn (M:=gx prog w) X c.gh;have k:=looks_find (M:=gx prog w) X J (findObj_own c.hd c.na rfl hl);have l:=looks_mroIn (M:=gx prog w) X c.mb;have d:bindSpecial (.builtin "BaseException.__getattribute__") (.ref x)=pure (.builtin "BaseException.__getattribute__",[.ref x]):=by kernel_rfl
 have a:(expr&&onTheHeap (jo "BaseException.__getattribute__"))=false:=by cases expr <;> rfl
 unfold getAttr getAttrBy;show bO (wpAny_mkText (kc (bO (j.at (bO (f.at ?_))))));have i:(onTheHeap (cf C)&&jo "BaseException.__getattribute__" == jo "object.__getattribute__")=false:=Bool.and_eq_false_iff.mpr (.inr (by decide +kernel));show gu _ _ (if(onTheHeap (cf C)&&jo "BaseException.__getattribute__" == jo "object.__getattribute__")=true then _ else getAttrByItsOwn _ _ _ _ _ _) _ _ _;rw[if_neg (by rw[i];decide)];unfold getAttrByItsOwn hookBefore;show bO ?_;rw[if_pos (show onTheHeap (cf C)=true from rfl)];show e.at ?_;show bO (wpAny_attempt (kc ?_));unfold callGetattribute boundAndCalled;rw[a,if_neg ⋯,d];show bO (gw ?_);show my (lb (by decide +kernel) PySem.F.entry_bexc_ga ?_);have b:builtinKind "BaseException.__getattribute__"=some .slot:=by decide +kernel
 have h:splitId "BaseException.__getattribute__"=some ("BaseException","__getattribute__"):=by decide +kernel
 have m:=PySem.F.args_bexc_ga (.ref x) (.str name g)
 (simp only[checkBuiltinCall,b,h];show bO ?_)
 unfold isInstance;repeat (first | lk | wp_step)
 show gu _ _ (handedOut v) _ _ _;show W.handed_on hv q
end
section
variable{value:Expr}{pos':Pos}{tv:TE}{f:Str}
structure ro(K:bY)(C:Addr)(f:Str):Prop where
 sa:iL K (.ref C) "__setattr__"=some (some (.builtin "object.__setattr__"))
 na:iL K (.ref C) f=some none
def tZ(K:bY)(ta tv:TE)(f:Str):TS:=λD σ H=>tv σ H λy H1=>ta σ H1 λx H2=>∃ e C S g,x=.ref e/\H2 e=some (ow e C none)/\nu K C S g/\ro K C f /\
 ∀ dx,H2 dx=none->dx≠e->D.nx σ (upd (upd H2 e (ow e C (some dx))) dx (.xd [(f,y)]))
theorem Fu(ha:PE X o ta)(hv:PE X value tv)(hs:swapsWith value (some (.Attribute o f pos')) pos.line X.env=pure false):PS X (.Assign [.Attribute o f pos'] value pos) (tZ X.K ta tv f):=by
 intro m s σ H D I h;show plainObj_wpAny_Assign_Attribute (jl (hv m s σ H _ I h) λu O ζ=>?_) hs;let(y,Q,I1,G,q):=ζ;show jl (ha m O σ Q _ I1 q) λV J ζ=>?_;let(x,T,I2,Z,e,C,S,g,ex,i,M,c,L):=ζ;subst ex;obtain rfl:V=cf e:=Z;let(U,R):=(I2.hok e _ i).1;let(W,gg,d,tk,os):=J;show L9 M I2.kIn c.sa c.na R λh' t' A w z ns k=>?_;have l:T A=none:=I2.hok.fresh w;have ne:A≠e:=λq=>by rw[q,i]at l;cases l
 have P:W.get? A=none:=i3 w;show(σ,_,I2.un (t':=t') ⟨λb j z n Y _=>?_,λb j z n Y _=>?_,λb j z n _=>?_,λb j z _=>?_,λb N z=>?_,λb j v z=>?_,λb p z=>⟨#[],?_⟩⟩ λa j t=>?_,L A l ne)
 .show k b j (λy=>by rw[y,i]at n;cases n) z
 .show(_,k b j (λy=>by rw[y,i]at n;cases n) z)
 .rw[kk (λy=>by rw[y,P]at z;cases z),kk (λy=>by rw[y,i]at n;cases n)];show n
 .by_cases y:b=e
  .show(_,by rw[y];assumption)
  .show(j,k b j y z)
 .rw[kk (rn z l),kk (λy=>by rw[y,i]at z;cases z)];show z
 .rw[kk (rn z l),kk (λy=>by rw[y,i]at z;cases z)];show z
 .rw[kk (rn z l),kk (λy=>by rw[y,i]at z;cases z),z];simp
 .by_cases F:a=A
  .subst F;rw[md]at t;cases t;show(_,ns,λB=>?_);show RelO (kj B [(f,y)]) (if B=f then some u else none);by_cases q:B=f
   .subst q;simp[kj,RelO];show G
   .have : (B == f)=false:=by simpa using q
    simp[kj,this,q,RelO]
  .rw[kk F]at t;by_cases E:a=e
   .subst E;rw[md]at t;cases t;show AZ ⟨U,z⟩
   .rw[kk E]at t;show(I2.hok a j t).stay (λb v hb z2=>k b v ?_ z2) (λb r=>?_) (λb N r=>?_)
    .rcases hb with rfl | hb
     .show E
     .showλy=>by rw[y,i]at hb;cases hb
    .rw[kk (rn r l),kk (λy=>by rw[y,i]at r;cases r)];show r
    .rw[kk (rn r l),kk (λy=>by rw[y,i]at r;cases r)];show r
def rG(K:bY)(ta:TE)(f:Str):TE:=λσ H Q=>ta σ H λx H1=>∃ e C dx fs v,x=.ref e/\H1 e=some (p6 e C (some dx))/\qw K C f/\H1 dx=some (.xd fs)/\fs.lookup f=some v/\Q v H1
theorem Jh(he:PE X e ta)(hb:jb e f X.env (eval e X.env)=eval e X.env):PE X (.Attribute e f pos) (rG X.K ta f):=by
 intro a s σ H Q I h;show FD hb (jl (he a s σ H _ I h) λu F ζ=>?_);let(x,j,I1,A,g,C,z,E,v,m,t,c,D,l,q):=ζ;subst m;obtain rfl:u=cf g:=A;let(L,J,hx,y,k,i):=(I1.hok g _ t).1;let(B,n,r):=I1.hok z _ D;let(G,b,p):=Bv n;let(u,w,d):=RelO.some_of (v:=v) (o:=B f) (by rw[<- l];show r f);show JI I1.kIn c ⟨hx,y,by unfold W.notCls;rw[k],by rw[i];show b⟩ (by rw[p,w]) (Gc d) ?_;show(v,j,I1.tok _,d,q)
end
structure rj(P:gN)(w:ik)(K:bY)(mg:Str->Option bV)(base:Heap)(k:Nat)(x:Str)(C S:Addr)(ps:List Str)(sp:Sp):Prop where
 ex:∃(f:Addr)(fd:iC),lJ P w K mg base (kU P w) k f fd ps sp/\mg x=some (.ref C)/\nu K C S f/\Binds K fd ps []
section
variable{k':Nat}{mn:Str}{C:Addr}{Cs:Addr->Prop}{ps:List Str}{sp:Sp}{E:XK}{es:List Expr}{k:Nat}{f:Str}{p:Pos}{t:TA}{K:bY}
theorem rj.ev(G:rj X.prog X.w X.K X.mg X.base k x C S ps sp)(hr:ku k' X.A)(hk:k+1<=k')(hg:Gl X x)(hx:qb (kU X.prog X.w) X E)(ha:PA X (e::es) t)
  (hdb:autoParam ((x == ("__debug__" : Str))=false) Au) (he:autoParam (gy (e::es) X.env=(false,eval e X.env)::gy es X.env) Au) (hpl:autoParam ((iP pos (gy es X.env)).any (·.1)=false) Au) :
  PE X (.Call (.Name x p) (e::es) [] pos) (yU C sp E t):=by
 let(f,b,F,a,M,hb):=G.ex;show LC M F (hr.mono hk) hg a hb hx ha hdb he hpl
theorem km.tr0{pl:Sem Bool}(G:km X.prog X.w X.K X.mg X.base k mn Cs ps sp)(hr:ku k' X.A)(hk:k<=k')(ho:PE X.nox o ta)
  (ht:autoParam (eval (.Call (.Attribute o mn apos) [] [] pos) X.env=(do
   let ov <- eval o X.env
   standAt apos.atName
   let(f,first) <- holding [ov] (getMethod ov mn pl)
   callWith pos f first (iP pos (gy [] X.env)) (backToKw pos (lS [] X.env)))) Au) :
  Ak X (.Call (.Attribute o mn apos) [] [] pos) (rC Cs mn sp ta tNil):=by
 let(f,r,F,d,m,hb):=G.ex;intro b s σ H Q E I h;have z:=ho b s σ H _ (I.wish _) h;show mH (pl:=pl) (gJ z (λu p ζ=>?_) λ_ _ y=>y.elim) ht;let(x,e,I1,i,a,C,t,n,j,g,c,l,q):=ζ;subst j;obtain rfl:u=cf a:=i;show zw I1.unwish g (d C c).1 (d C c).2 l ?_;show W.callWith_K0 (first:=[.ref a]) I1.unwish.kIn m (Ff (us:=[.ref a]) (vs:=[.ref a]) (ds:=[]) (dvs:=[]) F (hr.mono hk) hb .nil I1.unwish (.cons rfl .nil) (show sp ([.ref a]++[]) e Q E from q))
theorem Bb(hK:X.K=K)(he:PE X e ta)(hb:jb e f X.env (eval e X.env)=eval e X.env):PE X (.Attribute e f pos) (rG K ta f):=by
 subst hK;show Jh he hb
end
section
variable{H0:Hp}{E:XK}{En:Ends}{C:Addr}{sp:Sp}{tv:TE}{mn:Str}{Cs:Addr->Prop}{K:bY}{t:TA}{f:Str}
end
section
variable{st:Nat}{f : α->Str}{l:List α}
end
section
variable{a c:Addr}{x:V}{K:bY}
end
def Eh:V->List V->Hp->VK->Prop:=λx vs H Q=>∃ z y,x=.str z/\vs=[.str y]/\(y.length == 0)=false/\z.length<=sizeLine/\(Txt.split z y).length<=sizeLine/\∀ p,H p=none->Q (.ref p) (upd H p (.lst ((Txt.split z y).map V.str)))
theorem O6:∀(ss:List Str)(k:Nat),Vals (ss.map V.str) (strsFrom k ss):=λss=>by
 induction ss with
 | nil=>intro k;show .nil
 | cons z ss ih=>intro k;show .cons ⟨_,rfl⟩ (ih _)
theorem LQ:xT X "str.split" Eh:=λg s σ H x w v A Q I n l h=>by
 let(z,y,rfl,rfl,j,p,i,q):=h;let(t,rfl):=n;let(u,rfl,t',rfl):=vals1 l;have m:H s.heap.objs.size=none:=I.hok.fresh (cB _);have a:∀(c:List bV)(k:Nat),Vals ((Txt.split z y).map V.str) c->EP X g σ Q (.ref s.heap.objs.size) { s with heap:=s.heap.push { cls:=.type "list",data:=.seq c.toArray },toks:=k }:=λc k r=>by
  show(.ref s.heap.objs.size,upd H s.heap.objs.size (.lst _),I.laid (t':=k) (o:=.lst ((Txt.split z y).map V.str)) (λb u e=>bW _ e) (cB _) ?_,rfl,q _ m);show(by rw[iz];show i,c,0,r,ck _ rfl)
 unfold Txt.split at a i;by_cases d:(decide (z.length<y.length)||decide (Builtin.Str.strKind z<Builtin.Str.strKind y))=true
 .rw[if_pos d]at a;show lg F.slot_str_split (nv _ _ _) F.entry_str_split (F.args_str_split_2 _ _) (meets_str_split_cannot_occur z y t t' d) ?_;show a [.str z t] _ (.cons ⟨_,rfl⟩ .nil)
 .rw[if_neg d]at a i;have d:=Bool.eq_false_iff.mpr d;by_cases f:(jR z y 0 z.length (z.length+1)).isEmpty=true
  .rw[if_pos f]at a;show lg F.slot_str_split (nv _ _ _) F.entry_str_split (F.args_str_split_2 _ _) (meets_str_split_not_found z y t t' d j f) ?_;show a [.str z t] _ (.cons ⟨_,rfl⟩ .nil)
  .rw[if_neg f]at a i;have f:=Bool.eq_false_iff.mpr f;show lg F.slot_str_split (nv _ _ _) F.entry_str_split (F.args_str_split_2 _ _) (meets_str_split_sep z y t t' d j f p i) ?_;show a _ _ (O6 _ _)
def tm(K:bY)(b:Addr):Option Obj:=match K.lookup b with
 | some o=>(match o.data with | .freed=>none | _=>some o)
 | none=>none
def hK(K:bY):Heap:={ objs:=((gO ((K.map (·.1)).foldl max 0+1)).map λi=>(K.lookup i).getD { cls:=.none,data:=.freed }).toArray }
theorem LZ:∀{l:List Nat}{m:Nat},m<=l.foldl max m/\∀ b∈l,b<=l.foldl max m:=λ{l}=>by
 induction l with
 | nil=>intro m;show(cB _,λb hb=>by cases hb)
 | cons a l ih=>
  intro m;have:=ih (m:=max m a);show(g0 (Nat.le_max_left ..) this.1,λb hb=>?_);rcases gW.mp hb with rfl | hb
  .show g0 (Nat.le_max_right ..) this.1
  .show this.2 b hb
variable{b:Addr}
theorem ue{K:bY}:(hK K).objs[b]?=if b<(K.map (·.1)).foldl max 0+1 then some ((K.lookup b).getD { cls:=.none,data:=.freed })else none:=by
 unfold hK;rw[List.getElem?_toArray,gG];by_cases c:b<(K.map (·.1)).foldl max 0+1
 .rw[if_pos c,List.getElem?_range c];rfl
 .rw[if_neg c,iH (by rw[List.length_range];show Nat.le_of_not_lt c)];rfl
variable{o:Obj}
theorem E7{K:bY}(h:(hK K).get? b=some o):K.lookup b=some o:=by
 unfold Heap.get? at h;rw[ue]at h;by_cases c:b<(K.map (·.1)).foldl max 0+1
 .rw[if_pos c]at h;cases e:K.lookup b with
  | none=>rw[e]at h;simp at h
  | some o'=>
   rw[e]at h;simp only[Option.getD_some]at h;split at h
   .cases h
   .show h
 .rw[if_neg c]at h;simp at h
theorem NF:∀{K:List (Addr × Obj)},K.lookup b=some o->(b,o)∈K:=λ{K}=>by
 induction K with
 | nil=>intro h;cases h
 | cons p K ih=>
  intro h;rw[ko]at h;split at h
  .rename_i e;cases h;have:=eq_of_beq e;subst this;show i8 ..
  .show ia _ (ih h)
theorem KI{K:bY}(h:tm K b=some o):(hK K).get? b=some o:=by
 unfold tm at h;split at h
 .rename_i c e;have a:b<(K.map (·.1)).foldl max 0+1:=Nat.lt_succ_of_le (LZ.2 b (List.mem_map.mpr ⟨(b,c),NF e,rfl⟩));unfold Heap.get?;rw[ue,if_pos a,e];split at h
  .cases h
  .cases h;rename_i d;simp only[Option.getD_some];split
   .rename_i z;cases z;show absurd rfl d
   .rfl
 .cases h
def pT(D:List (Str × List Str)):List (Str × KTD.Dat):=D.map λp=>(p.1, .tup (p.2.map PyData.str))
def pX(K:bY)(a:Addr)(D:List (Str × List Str)):Bool:=KTD.tabLook (KTD.datLooks (tm K)) (tm K) a (pT D)
variable{a:Addr}
theorem GA{K:bY}{D:List (Str × List Str)}(d:pX K a D=true)(kin:K.In h):KTD.Here (hK K) h a (pT D):=⟨KTD.text_of_look (λ_ _ e=>KI e) d,λb o e=>kin b o (E7 e)⟩
theorem NI{K:bY}:∀{ss:List Str}{vs:List bV},KTD.Flats vs (ss.map PyData.str)->Vals (ss.map V.str) vs:=λ{ss}=>by
 induction ss with
 | nil=>intro vs h;cases h;show .nil
 | cons z ss ih=>
  intro vs h;cases h with
  | cons f r=>
   show .cons ?_ (ih r);have:=f {};cases this;show(_,rfl)
theorem Oc{k:Str}:∀{D:List (Str × List Str)}{d:KTD.Dat},jc k (pT D)=some d->∃ ss,jc k D=some ss/\d=.tup (ss.map PyData.str):=λ{D}=>by
 induction D with
 | nil=>intro d h;simp[pT,jc]at h
 | cons p D ih=>
  intro d h;unfold pT at h;rw[hV,jc]at h;rw[jc];by_cases c:k=p.1
  .rw[if_pos (decide_eq_true c)]at h ⊢;show(_,rfl,(gL h).symm)
  .rw[if_neg (λz=>c (of_decide_eq_true z))]at h ⊢;show ih h
theorem NK{k:Str}:∀{D:List (Str × List Str)},jc k (pT D)=none->jc k D=none:=λ{D}=>by
 induction D with
 | nil=>intro h;rfl
 | cons p D ih=>
  intro h;unfold pT at h;rw[hV,jc]at h;rw[jc];by_cases c:k=p.1
  .rw[if_pos (decide_eq_true c)]at h;cases h
  .rw[if_neg (λz=>c (of_decide_eq_true z))]at h ⊢;show ih h
theorem Od{k:Str}:∀{D:List (Str × List Str)}{ss:List Str},jc k D=some ss->∃ p∈D,p.2=ss:=λ{D}=>by
 induction D with
 | nil=>intro ss h;simp[jc]at h
 | cons p D ih=>
  intro ss h;rw[jc]at h;by_cases c:k=p.1
  .rw[if_pos (decide_eq_true c)]at h;show(p,by simp,gL h)
  .rw[if_neg (λz=>c (of_decide_eq_true z))]at h;let(q,b,a):=ih h;show(q,ia _ b,a)
def tT(K:bY)(D:List (Str × List Str))(td ty:TE):TE:=λσ H Q=>td σ H λx H1=>∃ a,x=.ref a/\pX K a D=true/\ty σ H1 λy H2=>∃ k,y=.str k/\(∀ ss b,jc k D=some ss->(∀ H,mQ K H b (ss.map V.str))->Q (.ref b) H2)/\(jc k D=none->Q .non H2)
section
variable{o:Expr}{ty:TE}{D:List (Str × List Str)}
theorem Jg(hl:∀ p∈D,p.2.length<=sizeLine)(ho:PE X o td)(he:PE X e ty)(m:M1 X o "get" apos e cpos):PE X (.Call (.Attribute o "get" apos) [e] [] cpos) (tT X.K D td ty):=by
 intro c s σ H Q I h;show me m.base m.few m.line iK iT PySem.F.type_dict_get (jl (ho c s σ H _ I h) λu E ζ=>?_);let(x,L,I1,S,a,U,d,G):=ζ;subst U;obtain rfl:u=cf a:=S;have f:∀{s:b8}{H:Hp},Inv X c σ H s->s.TypeIs (.ref a) "dict"/\∃ g,s.heap.get? a=some g/\g.dict=none:=λ{s H} I=>by
  let((_,g,Y,Z,j,l,_),B):=GA d I.kIn;show(⟨g,B _ _ j,l.1⟩,g,B _ _ j,l.2.1)
 show((f I1).1,λb q=>by cases q;show(f I1).2,?_);rw[m.trees];show ig rfl (jr (h9 (jl (he c E σ L _ I1 G) λiv W ⟨y,z,I2,C,k,P,V,N⟩=>iI ?_)));subst P;let(t,rfl):=C;show ka iT (f I2).1 ke (PySem.F.args_dict_get_2 _ _) (KTD.meets_get1 (h₀:=hK X.K) (D:=pT D)) ⟨GA d I2.kIn,λdd v r w=>?_,λr=>⟨.non,z,I2.tok _,rfl,N (NK r)⟩⟩;let(T,A,rfl):=Oc r;let(b,O,rfl,(g,j,l,n,R),J):=w;have i:=NI (K:=X.K) J;show(.ref b,z,I2.tok _,rfl,V T b A λH=>.inr ⟨g,O.toArray,n,E7 j,l,R,?_,by simpa using i⟩);have:=i.length;rw[iz]at this;rw[gF, <- this];let(p,M,rfl):=Od A;show hl p M
end
variable{j:Addr}{i:Nat}{x:bV}{Q:bV->b8->Prop}
theorem Iu{t:Addr}(hj:s.heap.IsTupleIter j t i)(ht:s.heap.IsTuple t its)(hx:its[i]?=some x)
  (hQ:∀ h',h'.IsTupleIter j t (i+1)->jC j s.heap h'->Q x { s with heap:=h' }):gu (gx prog w) A (iG (.ref j)) Q E s:=by
 let(o,b,e,a):=id hj;let(u,d,_,m,c):=ht;unfold iG;show bO (lQ (name:=j0 "__next__") hj.typeIs kX (lq kX hj.typeIs F.entry_tuple_iterator_next ?_ (F.args_tuple_iterator_next_1 _)));show gu _ _ (field (.ref j) 0 >>= _) _ _ s;show bO (ix b a (i:=0) (x:=.ref t) rfl ?_);show gu _ _ (if(cf t == gY)=true then _ else _) _ _ s;rw[if_neg (show¬(cf t == gY)=true fromλz=>gC z)];show gu _ _ (field (.ref j) 1 >>= _) _ _ s;show bO (ix b a (i:=1) (x:=.int i 0) rfl ?_);show gu _ _ (seqItems? (.ref t) >>= _) _ _ s;show bO (kn d c ?_);simp only[Int.toNat_natCast,hx];show bO (kZ b a (by simp) (gw ⟨x,rfl,gw (hQ _ ?_ (jC.update ..))⟩));show(_,jh _ b (lW (jL a _)),(Obj.cls_mapFields ..).trans e,by rw[jL a];simp[lL])
theorem Jq{t:Addr}(hh:A.handled=none)(hj:s.heap.IsTupleIter j t i)(ht:s.heap.IsTuple t its)(hx:its[i]?=none)
  (hE:∀ h' e,Heap.ExtBut j s.heap h'->(∃ o,h'.get? e=some o/\o.cls=.type "StopIteration")->E (.ref e) { s with heap:=h' }):gu (gx prog w) A (iG (.ref j)) Q E s:=by
 let(o,b,g,c):=id hj;let(u,f,_,m,d):=ht;unfold iG;show bO (lQ (name:=j0 "__next__") hj.typeIs kX (lq kX hj.typeIs F.entry_tuple_iterator_next ?_ (F.args_tuple_iterator_next_1 _)));show gu _ _ (field (.ref j) 0 >>= _) _ _ s;show bO (ix b c (i:=0) (x:=.ref t) rfl ?_);show gu _ _ (if(cf t == gY)=true then _ else _) _ _ s;rw[if_neg (show¬(cf t == gY)=true fromλz=>gC z)];show gu _ _ (field (.ref j) 1 >>= _) _ _ s;show bO (ix b c (i:=1) (x:=.int i 0) rfl ?_);show gu _ _ (seqItems? (.ref t) >>= _) _ _ s;show bO (kn f d ?_);simp only[Int.toNat_natCast,hx];show bO (wpAny_rule (bO (kZ b c (by simp) (bO ?_))));simp only[newExc,newTuple];show bO (kO ?_ (by size_fits));show bO (m:=firstArgMember _ _) (wpAny_of_eq (a:=gY) (by first | rfl | (simp only[firstArgMember];rfl)) ?_);show kO ?_ (by size_fits);simp only[raiseNew];show bO (wpAny_handled ?_);first | rw[show A.in1.handled=none from hh] | rw[hh]
 show bO (gw (wpAny_throw (hE _ _ (((jC.update ..).extBut.push _).push _) ⟨_,ck _ rfl,rfl⟩)))
variable{z c j1 j2:Addr}{xs ys:Array bV}{Q:Option bV->b8->Prop}
theorem MN{k:Nat}{y u:bV}(D:ZipApart z c d j1 j2 a b)
  (hz:IsZip s.heap z c d .none) (hc:mi s.heap c (.ref j1) (.ref j2)) (hd:mi s.heap d u v) (h1:s.heap.IsTupleIter j1 a k) (h2:s.heap.IsListIter j2 b k) (ha:s.heap.IsTuple a xs) (hb:s.heap.IsList b ys) (hx:xs[k]?=some x) (hy:ys[k]?=some y)
  (hQ:∀ h',IsZip h' z c d (lL s.heap.objs.size)->mi h' d x y->h'.IsTupleIter j1 a (k+1)->h'.IsListIter j2 b (k+1)->mi h' s.heap.objs.size x y->(∀ e o,e≠z->e≠d->e≠j1->e≠j2->s.heap.get? e=some o->h'.get? e=some o)->Q (some (.ref s.heap.objs.size)) { s with heap:=h' }) :
  gu (gx prog w) A (pyNext (.ref z)) Q E s:=by
 have N:s.TypeIs (.ref z) "zip":=⟨_,hz,rfl⟩;unfold pyNext;show bO (wpAny_attempt (lQ (name:=j0 "__next__") N F.slot_zip_next (lq F.slot_zip_next N F.entry_zip_next ?_ (F.args_zip_next_1 _))));show gu _ _ (field (cf z) 2 >>= _) _ _ s;show bO (ix hz rfl (i:=2) (x:=.bool false) rfl ?_);show gu _ _ (field (cf z) 3 >>= _) _ _ s;show bO (ix hz rfl (i:=3) (x:=.ref c) rfl ?_);show bO (kn hc rfl ?_);show bO (m:=jj (.ref z)) ?_;unfold jj;show bO (ix hz rfl (x:=.none) rfl (gw ?_));simp only[if_true];show bO (wpAny_rule (bO (ix hz rfl (x:=.ref d) rfl ?_)));show bO (lK hz (by simp) λg1 L g=>bO ?_);replace L:IsZip g1 z c d .ellipsis:=L;simp only[List.zipIdx_cons,List.zipIdx_nil,List.forIn_cons,List.forIn_nil];show bO (bO (wpAny_onRaise (bO (m:=iG (.ref j1)) ?_)));show Iu (h1.extBut g.extBut D.i1z) (ha.extBut g.extBut D.l1z) hx λg2 i2 j=>gw ?_;have T:mi g2 d u v:=j.extBut _ _ D.TOi1 (g.extBut _ _ D.TOz hd);show bO (kn T rfl (bO (wpAny_updateSeq_pair T λY J l=>bO (wpAny_letGo (gw ?_)))));replace J:mi Y d x v:=J;show bO (bO (wpAny_onRaise (bO (m:=iG (.ref j2)) ?_)));show wpAny_nextOf_list_item (((h2.extBut g.extBut D.i2z).extBut j.extBut D.i12.symm).extBut l.extBut D.TOi2.symm) (((hb.extBut g.extBut D.l2z).extBut j.extBut D.l2i1).extBut l.extBut D.l2TO) hy λg4 i4 n=>gw ?_;have S:mi g4 d x v:=n.extBut _ _ D.TOi2 J;show bO (kn S rfl (bO (wpAny_updateSeq_pair S λf B p=>bO (wpAny_letGo (gw (gw ?_))))));replace B:mi f d x y:=B;show bO (kn B rfl (bO (wpAny_newTuple ?_)));have r:f.objs.size=s.heap.objs.size:=by rw[p.1,n.1,l.1,j.1,g.1]
 have O:IsZip f z c d .ellipsis:=p.extBut _ _ D.TOz.symm (n.extBut _ _ D.i2z.symm (l.extBut _ _ D.TOz.symm (j.extBut _ _ D.i1z.symm L)));have k5:∀ e o,e≠z->e≠d->e≠j1->e≠j2->s.heap.get? e=some o->f.get? e=some o:=λe o h C M I q=>p.extBut _ _ C (n.extBut _ _ I (l.extBut _ _ C (j.extBut _ _ M (g.extBut _ _ h q))));have X:f.IsTupleIter j1 a (k+1):=((i2.extBut l.extBut D.TOi1.symm).extBut n.extBut D.i12).extBut p.extBut D.TOi1.symm;have Z:f.IsListIter j2 b (k+1):=i4.extBut p.extBut D.TOi2.symm;have U:z<f.objs.size:=b9 O;show bO (m:=Builtin.SmallTypes.ownedTupleHandOut (.ref z) (.ref f.objs.size)) ?_;unfold Builtin.SmallTypes.ownedTupleHandOut;have W:IsZip (f.push { cls:=.type "tuple",data:=.seq #[x,y] }) z c d .ellipsis:=bW _ O;show bO (lK W (by simp) λg7 K V=>?_);replace K:IsZip g7 z c d (lL f.objs.size):=K;show lK K (by simp) λH G R=>?_;replace G:IsZip H z c d (lL f.objs.size):=G;have t:∀ e o,e≠z->f.get? e=some o->H.get? e=some o:=λe o h q=>R.extBut _ _ h (V.extBut _ _ h (bW _ q));have P:mi H f.objs.size x y:=R.extBut _ _ (hB U) (V.extBut _ _ (hB U) (ck _ rfl));rw[r]at G P;show gw ⟨_,rfl,gw ?_⟩;rw[r];show hQ H G (t _ _ D.TOz B) (X.at λo q=>t _ o D.i1z q) (Z.at λo q=>t _ o D.i2z q) P λe o h C M I q=>t e o h (k5 e o h C M I q)
theorem L6{k:Nat}(hh:A.handled=none)(D:ZipApart z c d j1 j2 a b)
  (hz:IsZip s.heap z c d .none) (hc:mi s.heap c (.ref j1) (.ref j2)) (h1:s.heap.IsTupleIter j1 a k) (ha:s.heap.IsTuple a xs) (hx:xs[k]?=none)
  (hQ:∀ h',(∀ e o,e≠z->e≠j1->s.heap.get? e=some o->h'.get? e=some o)->Q none { s with heap:=h' }):gu (gx prog w) A (pyNext (.ref z)) Q E s:=by
 have n:s.TypeIs (.ref z) "zip":=⟨_,hz,rfl⟩;unfold pyNext;show bO (wpAny_attempt (lQ (name:=j0 "__next__") n F.slot_zip_next (lq F.slot_zip_next n F.entry_zip_next ?_ (F.args_zip_next_1 _))));show gu _ _ (field (cf z) 2 >>= _) _ _ s;show bO (ix hz rfl (i:=2) (x:=.bool false) rfl ?_);show gu _ _ (field (cf z) 3 >>= _) _ _ s;show bO (ix hz rfl (i:=3) (x:=.ref c) rfl ?_);show bO (kn hc rfl ?_);show bO (m:=jj (.ref z)) ?_;unfold jj;show bO (ix hz rfl (x:=.none) rfl (gw ?_));simp only[if_true];show bO (wpAny_rule (bO (ix hz rfl (x:=.ref d) rfl ?_)));show bO (lK hz (by simp) λH j g=>bO ?_);replace j:IsZip H z c d .ellipsis:=j;simp only[List.zipIdx_cons,List.zipIdx_nil,List.forIn_cons,List.forIn_nil];show bO (bO (wpAny_onRaise (bO (m:=iG (.ref j1)) ?_)));show Jq hh (h1.extBut g.extBut D.i1z) (ha.extBut g.extBut D.l1z) hx λy e p C=>?_;let(B,l,v):=C;have u:IsZip y z c d .ellipsis:=p _ _ D.i1z.symm j;have h:e≠z:=λq=>by subst q;rw[u]at l;cases l;simp at v
 show lK u (by simp) λI _ r=>?_;show bO (wpAny_isInstance (T:="StopIteration") (b:=true) ⟨B,r.extBut _ _ h l,v⟩ isSubtype_stop ?_);show gw (hQ _ λf o t G q=>r.extBut _ _ t (p _ _ G (g.extBut _ _ t q)))
abbrev wY(h:Heap)(a:Addr):Heap:=h.push { cls:=.type "tuple_iterator",data:=.fields #[.ref a, .int 0 0] }
abbrev yx(h:Heap)(a b:Addr):Heap:=(wY h a).push { cls:=.type "list_iterator",data:=.fields #[.ref b, .int 0 0] }
abbrev yw(h:Heap)(a b:Addr):Heap:=(yx h a b).push { cls:=.type "tuple",data:=.seq #[.ref h.objs.size, .ref (wY h a).objs.size] }
abbrev yv(h:Heap)(a b:Addr):Heap:=(yw h a b).push { cls:=.type "tuple",data:=.seq #[.none, .none] }
abbrev vJ(h:Heap)(a b:Addr):Heap:=(yv h a b).push { cls:=.type "zip",data:=.fields #[.none, .bool false, .bool false, .ref (yx h a b).objs.size, .ref (yw h a b).objs.size] }
theorem NB(a b:Addr)(xs ys:Array bV):Meets (Builtin.«zip.__new__» ⟨[.type "zip", .ref a, .ref b],[]⟩) (λ_ R s=>s.heap.IsTuple a xs/\s.heap.IsList b ys/\R (.ok (.ret (.ref (yv s.heap a b).objs.size))) { s with heap:=vJ s.heap a b }) :=
 .of_wp λj w A R s h=>by
  let(f,g,d,e,i):=s;let(l,hb,h):=h;have c:=sub_zip;have m:Heap.IsTuple (b8.heap ⟨f,g,d,e,i⟩) a xs:=l;have k:Heap.IsList (b8.heap ⟨wY f a,g,d,e,i⟩) b ys:=Heap.IsList.push hb _
  wp_walk using wpAny_pyIter_tuple m,wpAny_pyIter_list k
  show(_,rfl,h)
theorem NW{Q:bV->b8->Prop}(ha:s.heap.IsTuple a xs)(hb:s.heap.IsList b ys)
  (h:∀ h' n,n=s.heap.objs.size->IsZip h' (n+4) (n+2) (n+3) .none->mi h' (n+2) (.ref n) (.ref (n+1))->mi h' (n+3) .none .none->h'.IsTupleIter n a 0->h'.IsListIter (n+1) b 0->(∀ c o,s.heap.get? c=some o->h'.get? c=some o)->Q (.ref (n+4)) { s with heap:=h' }) :
  gu (gx prog w) A (call (.type "zip") [.ref a, .ref b]) Q E s:=by
 show callType_new F.called_zip ⋯ (F.typeCall_zip_2 _ _) (F.newCall_zip_2 _ _) (λe=>F.args_object_init_3 e _ _) F.entry_zip_new (NB a b xs ys) ⟨ha,hb,?_⟩;have i:(wY s.heap a).objs.size=s.heap.objs.size+1:=iD ..;have g:(yx s.heap a b).objs.size=s.heap.objs.size+2:=by rw[iD,i]
 have j:(yw s.heap a b).objs.size=s.heap.objs.size+3:=by rw[iD,g]
 have k:(yv s.heap a b).objs.size=s.heap.objs.size+4:=by rw[iD,j]
 have d:∀{c:Addr}{o:Obj}{h:Heap}{p:Obj},h.get? c=some o->(h.push p).get? c=some o:=λx=>bW _ x;have f:(vJ s.heap a b).get? (yv s.heap a b).objs.size=some _:=ck _ rfl;have l:(vJ s.heap a b).get? (yw s.heap a b).objs.size=some _:=d (ck _ rfl);have m:(vJ s.heap a b).get? (yx s.heap a b).objs.size=some _:=d (d (ck _ rfl));have q:(vJ s.heap a b).get? (wY s.heap a).objs.size=some _:=d (d (d (ck _ rfl)));have r:(vJ s.heap a b).get? s.heap.objs.size=some _:=d (d (d (d (ck _ rfl))));show _/\_;rw[g,j,k]at f;rw[i,g]at m;rw[j]at l;rw[i]at q;rw[k];show(⟨_,f,rfl⟩,h _ _ rfl f m l ⟨_,r,rfl,rfl⟩ ⟨_,q,rfl,rfl⟩ λc o x=>d (d (d (d (d x)))))
def BY(K:bY)(a b:Addr):It :=
  ⟨λi H=>∃ xs ys x y,mQ K H a xs/\jM K H b ys/\xs[i]?=some x/\ys[i]?=some y,
   λi H v H'=>∃ p x y,(∀ xs,mQ K H a xs->xs[i]?=some x)/\(∀ ys,jM K H b ys->ys[i]?=some y)/\H p=none/\v=.ref p/\H'=upd H p (.tup [x,y]),
   λi H=>∃ xs,mQ K H a xs/\xs.length<=i⟩
theorem MP{K:bY}(D:ZipApart z c d j1 j2 a b) :
  Turn P w K (.Tuple elts x1 tp) (BY K a b) [z,c,d,j1,j2] z (λi h=>IsZip h z c d .none/\mi h c (.ref j1) (.ref j2)/\(∃ u v,mi h d u v)/\h.IsTupleIter j1 a i/\h.IsListIter j2 b i) where
 mem:=by simp
 obj:=λi h l e f=>by
  let(r,m,(u,v,F),(o1,e1,_,d1),o2,e2,_,d2):=l;simp only[gW,iJ,or_false]at f;rcases f with rfl | rfl | rfl | rfl | rfl
  .show(_,r,λv z=>by cases z)
  .show(_,m,λv z=>by cases z)
  .show(_,F,λv z=>by cases z)
  .show(o1,e1,λv z=>by rw[d1]at z;cases z)
  .show(o2,e2,λv z=>by rw[d2]at z;cases z)
 keep:=λi h U l k=>by
  let(r,m,(u,v,F),G,L):=l;show(k z (by simp) _ r,k c (by simp) _ m,⟨u,v,k d (by simp) _ F⟩,G.at λo e=>k j1 (by simp) o e,L.at λo e=>k j2 (by simp) o e)
 item:=by
  intro X hP hw hK J i B s σ H E I O l Y;subst hP hw hK;let(r,m,(u,v,F),G,L):=l;let(xs,ys,x,y,N,sy,hx,hy):=Y;let(C,rx,R,zx):=I.tuple N;let(a8,ry,py,zy):=I.list sy;let(T,S,a6):=rx.get hx;let(V,Z,a0):=ry.get hy;show MN D r m F G L (show s.heap.IsTuple a C.toArray from R) py.isList (x:=T) (y:=V) (by simpa using S) (by simpa using Z) λU a1 a2 a3 a4 a5 M=>?_;show(_,rfl,wpAny_letOwnedTupleGo_zip (s:={ s with heap:=U }) a1 λg a7 j=>?_);have t:∀{e o},s.heap.get? e=some o->e≠s.heap.objs.size:=λe=>cq (b9 e);have nz:s.heap.objs.size≠z:=λq=>t r q.symm;have I1:Inv X B σ H { s with heap:=g,toks:=s.toks }:=I.turnedL (ch:=[z,c,d,j1,j2]) (λe o f q=>by
   simp only[gW,iJ,or_false,not_or]at f;show j.extBut _ _ f.1 (M e o f.1 f.2.2.1 f.2.2.2.1 f.2.2.2.2 q)) O
  have fr:H s.heap.objs.size=none:=I.hok.fresh (cB _);have hT:g.get? s.heap.objs.size=some { cls:=.type "tuple",data:=.seq #[T,V] }:=j.extBut _ _ nz a5;have I2:=I1.track (a:=s.heap.objs.size) (o:=.tup [x,y]) fr (i3 I.sz) (hB I.lt) (λn c e q=>by
   let(v,o,ho,_):=I.cell n c e;show t ho q) (λp hp q=>t (I.pin p hp).1 q) ⟨by show 2<=sizeLine;decide,[T,V], .cons a6 (.cons a0 .nil),⟨_,hT,rfl,_,rfl⟩⟩
  show(.ref s.heap.objs.size,_,I2,rfl,⟨_,x,y,λzs q=>by rw[I.tuple_inj q N];show hx,λzs q=>by rw[I.list_inj q sy];show hy,fr,rfl,rfl⟩,?_,λe f=>?_)
  .show(a7,j.extBut _ _ D.TIz (M _ _ D.TIz D.TITO D.TIi1 D.TIi2 m),⟨_,_,j.extBut _ _ D.TOz a2⟩,a3.extBut j.extBut D.i1z,a4.extBut j.extBut D.i2z)
  .rw[kk (show e≠s.heap.objs.size by
    simp only[gW,iJ,or_false]at f;rcases f with rfl | rfl | rfl | rfl | rfl
    .show t r
    .show t m
    .show t F
    .let(o,q,_):=G;show t q
    .let(o,q,_):=L;show t q)]
   show(O e f).1
 done:=by
  intro X hP hw hK J i B s σ H E I O l Y;subst hP hw hK;let(r,m,(u,v,F),G,L):=l;let(xs,N,f):=Y;let(C,rx,R,zx):=I.tuple N;have lx:=rx.length;show L6 (I.ok.hd J) D r m G (show s.heap.IsTuple a C.toArray from R) (by simp;ac_nf) λU M=>⟨rfl,?_⟩;show I.turnedL (t':=s.toks) (ch:=[z,c,d,j1,j2]) (λe o f q=>by
   simp only[gW,iJ,or_false,not_or]at f;show M e o f.1 f.2.2.2.1 q) O
 self:=λA i s Q E l q=>wpAny_pyIter_zip l.1 q
def ub(K:bY)(ta:TA):TI:=λσ H R=>ta σ H λvs H1=>∃ a b,vs=[.ref a, .ref b]/\(∃ xs,mQ K H1 a xs)/\(∃ ys,jM K H1 b ys)/\R (BY K a b) H1
variable{ta:TA}
theorem JX{a b:Expr}{p:Pos}(hg:Gl X "zip")(hm:X.mg "zip"=none)(hv:gI "zip"=some (.type "zip"))(ha:PA X [a,b] ta)
  (he:autoParam (gy [a,b] X.env=(false,eval a X.env)::gy [b] X.env) Au) (hpl:autoParam ((iP pos (gy [b] X.env)).any (·.1)=false) Au) :
  PI X (.Tuple elts x1 tp) (.Call (.Name "zip" p) [a,b] [] pos) (ub X.K ta):=by
 intro f s σ H R I h;show ic (se I hg hm hv (ie (jl (ha pos f s σ H _ I h) λW d ζ=>?_) he hpl));let(V,B,I1,E,z):=ζ;let(i,k,e,(Q,F),(P,y),q):=z;subst e;let(u,v,rfl,M,G):=vals2 E;cases(show u=cf i from M);cases(show v=cf k from G);let(j,Y,m,T):=I1.tuple F;let(N,O,r,U):=I1.list y;have o:i<d.heap.objs.size:=by let(_,e,_):=m;show b9 e
 have t:k<d.heap.objs.size:=by let(_,e,_):=r.isList;show b9 e
 show NW (show d.heap.IsTuple i j.toArray from m) r.isList λS n x l L J D A C=>wpAny_pyIter_zip l ?_;rw[<- x]at o t;show(n+4,[n+4,n+2,n+3,n,n+1],_,_,B,rfl,I1.kept (t':=d.toks) C,MP (za _ i k o t),⟨l,L,⟨_,_,J⟩,D,A⟩,λc w=>?_,q);have g:d.heap.objs.size<=c:=by
  rw[<- x];simp only[gW,iJ,or_false]at w;rcases w with rfl | rfl | rfl | rfl | rfl
  .show jJ _ _
  .show jJ _ _
  .show jJ _ _
  .show cB _
  .show jJ _ _
 show I1.fpOk g (I1.hok.fresh g)
def t6(K:bY):List V->Hp->VK->Prop:=λxs H Q=>∃ l ys,xs=[.ref l]/\jM K H l ys/\∀ p,H p=none->Q (.ref p) (upd H p (.tup ys))
theorem BH:ky X (.type "tuple") (t6 X.K):=λc s σ H n p Q I r q=>by
 let(l,f,rfl,i,q):=q;let(u,rfl,k):=vals1 r;cases(show u=cf l from k);let(a,d,j,m):=I.list i;have t:=d.length;show call_tuple_list j.isList (λg h=>?_) (by rw[gF];ac_nf);have I1:=I.kept (t':=s.toks) h;show(.ref g.objs.size,_,I1.laid (t':=s.toks) (o:=.tup f) (λb u e=>bW _ e) (cB _) ⟨m,a,d,⟨_,ck _ rfl,rfl,_,rfl⟩⟩,rfl,q _ (I1.hok.fresh (cB _)))
def rIntT:List V->Hp->VK->Prop:=λxs H Q=>match xs with
 | [.bl k]=>Q (.int (if k=true then 1 else 0)) H
 | [.str z]=>∃ n,PySem.intText? z=some n/\z.length<=640/\Q (.int n) H
 | _=>False
theorem N0:ky X (.type "int") rIntT:=λa s σ H f b Q I r q=>by
 unfold rIntT at q;split at q
 .show N2 a s σ H _ b Q I r (.inr ⟨_,rfl,q⟩)
 .let(n,e,c,d):=q;show N1 a s σ H _ b Q I r ⟨_,n,rfl,e,c,d⟩
 .show q.elim
def rFmtU:V->Hp->VK->Prop:=λx H Q=>match x with
 | .int i=>i.natAbs.log2<1920/\Q (.str (toString i)) H
 | .str z=>z.length<=sizeLine/\Q (.str z) H
 | _=>False
theorem vw{value:Expr}(h:PE X value te):PE X (.FormattedValue value (-1) none pos) (yA rFmtU te):=λb s σ H Q I q=>by
 show wpAny_FormattedValue_plain (jl (h b s σ H _ I q) λu e ζ=>?_);let(x,c,I1,d,a):=ζ;replace a:rFmtU x c Q:=a;unfold rFmtU at a;split at a
 .let(t,rfl):=d;show wpAny_formatField_int a.1 ⟨.str _,c,I1.tok _,⟨_,rfl⟩,a.2⟩
 .let(t,rfl):=d;show wpAny_formatField_str (hx:=a.1) ⟨.str _,c,I1,⟨_,rfl⟩,a.2⟩ ⟨.str _,c,I1.tok _,⟨_,rfl⟩,a.2⟩
 .show a.elim
section
variable{tb:TS}{Q:VK}{K:bY}{g:TG}{D:Ends}{k:Nat}{cs:List (Nat × Str)}
end
section
variable{ss:List uh}{P:u9}{fs:List Str}
def cs(l:List uh):Int × Int:=l.foldl (λa s=>Af a s.cost) (0,1)
end
theorem O7:Slot "list_reverseiterator" "__length_hint__" "list_reverseiterator.__length_hint__" :=
 .of (owner:="list_reverseiterator") (n:="__length_hint__") (by rw[typeLookup_type,builtinLookup_eq_fast];kernel_rfl) (by decide +kernel) (by decide +kernel) (by decide +kernel)
  (by first | show .inl (by decide +kernel) | show .inr (by decide +kernel)) (by rw[isSubtype_type];kernel_rfl)
theorem Nk:typeLookup (.type "list_reverseiterator") "__len__"=pure none:=by rw[typeLookup_type,builtinLookup_eq_fast];kernel_rfl
variable{l:Addr}
theorem Mt(hh:A.handled=none)(hit:s.heap.IsRevIter I l ((its.size:Int)-1))(hl:s.heap.IsList l its)(hlI:l≠I)(hn:its.size<=sizeLine)(S:Addr)(hSI:S≠I)(hSl:S≠l)(res:bV)(c₀ : Nat)(hS:s.heap.get? S=some { cls:=.type "list",data:=.seq #[] c₀ })
  (hR:∀ h' tk acc' c',(∀ b o,b≠S->b≠I->s.heap.get? b=some o->h'.get? b=some o)->h'.get? S=some { cls:=.type "list",dict:=none,data:=.seq acc' c',slots:=#[] }->ItemsOf (λi v=>its[its.size-1-i]?=some v) acc' its.size->R (.ok (.ret res)) { s with heap:=h',toks:=tk }) :
  gu (gx prog w) A.in1 (js (.ref S) (.ref I) res)
   (λfin s'=>match fin with | .done f=>R (.ok f) s' | .again c'=>c'.quiet=true/\kl (gx prog w) A c' R s') (λe s'=>R (.error e) s') s:=by
 have j:s.TypeIs (.ref I) "list_reverseiterator":=hit.typeIs;have r:Builtin.List.listSameRef (.ref S) (.ref I)=false:=by simp[Builtin.List.listSameRef,hSI]
 have W:=(Walks.listRev (prog:=prog) (w:=w) (A:=A.in1) hh I l hlI its);have n:S∉[I,l]:=by simp[hSI,hSl]
 unfold js;show bO (wpAny_typeOf j ?_);rw[if_neg (by rw[r];decide)];have p:0<=its.size/\s.heap.IsRevIter I l ((its.size:Int)-1-((0:Nat):Int))/\s.heap.IsList l its:=⟨kM _,by simpa using hit,hl⟩;show bO (W.self 0 _ _ _ p ?_);show bO (kc ?_);unfold Builtin.List.listLengthHint;show bO (mS j Nk ?_);show gu _ A.in1 (specialOf (cf I) (j0 "__length_hint__") >>= _) _ _ _;show bO (mS j O7.lookup ?_)
 (generalize d:("list_reverseiterator.__length_hint__" : String)=g;(fail_if_success (clear d g));wp_delta;rw[show splitId g=some ("list_reverseiterator","__length_hint__")from by subst d;decide +kernel];subst d)
 show bO (wpAny_isInstance (b:=true) j (by rw[isSubtype_type];kernel_rfl) ?_);show gu _ A.in1 (pure false) _ _ _;show gw ?_;rw[if_neg ⋯];show gw ⟨plainId_quiet PySem.F.plain_extend_loop _,codeAny_extend_loopS W.toS hn _ n _ its.size 0 _ _ _ rfl (kM _) p hS (ItemsOf.nil _) λs' acc' c' q m h=>?_⟩;rw[Moved.eq_with q];show hR s'.heap s'.toks acc' c' (λb o hb k e=>q.heap b o (λa=>?_) e) m h;rcases gW.mp a with e' | a
 .show hb e'
 .show k (i7.mp a)
theorem JU{Q:bV->b8->Prop}(hh:A.handled=none)(hit:s.heap.IsRevIter I l ((its.size:Int)-1))(hl:s.heap.IsList l its)(hlI:l≠I)(hn:its.size<=sizeLine)
  (hQ:∀ h' tk acc' c',(∀ b o,b≠I->s.heap.get? b=some o->h'.get? b=some o)->h'.get? s.heap.objs.size=some { cls:=.type "list",dict:=none,data:=.seq acc' c',slots:=#[] }->ItemsOf (λi v=>its[its.size-1-i]?=some v) acc' its.size->Q (.ref s.heap.objs.size) { s with heap:=h',toks:=tk }) :
  gu (gx prog w) A (call (.type "list") [.ref I]) Q E s:=by
 show callType_codes (Q₁:=λg s₁=>g=.ref s.heap.objs.size/\s₁={ s with heap:=s.heap.push { cls:=.type "list",data:=.seq #[] } }) PySem.F.called_list (PySem.F.typeCall_list_1 _) PySem.F.entry_list_init
  (code_list_new _ ⟨rfl,rfl⟩) λg s₁ h₁=>?_
 let(rfl,rfl):=h₁;have a:(s.heap.push { cls:=.type "list",data:=.seq #[] }).get? s.heap.objs.size=some { cls:=.type "list",data:=.seq #[] }:=ck _ rfl;let(t,n,_):=id hit;let(r,p,_):=id hl;have d:s.heap.objs.size≠I:=hB (b9 n);have j:s.heap.objs.size≠l:=hB (b9 p);show(⟨_,a,rfl⟩,PySem.F.args_list_init_2 _ _,?_);show gu _ _ (do let m <- Builtin.List.listItems (.ref s.heap.objs.size);Builtin.List.listUpdate (.ref s.heap.objs.size) (λ_=>#[]);letGo m.toList.reverse;js (.ref s.heap.objs.size) (.ref I) .none) _ _ _;show bO ?_;unfold Builtin.List.listItems;show bO (kn a rfl (gw ?_));show gu _ _ (updateSeq s.heap.objs.size (λ_=>#[]) >>= λ_=>letGo (#[]:Array bV).toList.reverse >>= λ_=>js (.ref s.heap.objs.size) (.ref I) .none) _ _ _;show bO (wpAny_updateSeq a rfl ?_);have a₂:=jh (Obj.mapSeq (λ_=>(#[]:Array bV))) a rfl;show bO (wpAny_letGo ?_);show Mt (A:=A.in1) hh (hit.at λo e=>(g5 _ _ d).trans (bW _ e)) (hl.at λo e=>(g5 _ _ j).trans (bW _ e)) hlI hn s.heap.objs.size d j .none _ a₂ λh' tk acc' c' q k c=>?_;show(rfl,hQ h' tk acc' c' (λb o hb e=>?_) k c);have f:b≠s.heap.objs.size:=cq (b9 e);show q b o f hb ((g5 _ _ (iQ f)).trans (bW _ e))
def tS(K:bY)(te:TE):TE:=λσ H Q=>te σ H λv H1=>∃ a xs,v=.ref a/\jM K H1 a xs/\∀ l,H1 l=none->Q (.ref l) (upd H1 l (.lst xs.reverse))
theorem Mb{xs:List V}{us:List bV}{acc:Array bV}(r:Vals xs us)(h:ItemsOf (λi v=>us.toArray[us.toArray.size-1-i]?=some v) acc us.toArray.size):Vals xs.reverse acc.toList:=by
 have e:acc.toList=us.reverse:=by
  show List.ext_getElem? λi=>?_;have hs:acc.toList.length=us.length:=by rw[jy,h.1];simp
  by_cases c:i<us.length
  .have:=h.2 i (acc.toList[i]'∅) (by rw[<- jK];show b7 ∅);rw[b7 ∅, <- this,List.getElem?_reverse c];simp
  .rw[iH ∅,iH (by rw[List.length_reverse];ac_nf)]
 rw[e];have key:∀(xs:List V)(us:List bV),Vals xs us->Vals xs.reverse us.reverse:=by
  intro xs us h;induction h with
  | nil=>show .nil
  | cons h _ ih=>
   rw[List.reverse_cons,List.reverse_cons];show ih.append (.cons h .nil)
 show key _ _ r
theorem J1{t:TE}{x y:Str}(hc:X.calm=true)(hx:x="list")(hy:y="reversed")
  (hg:Gl X x) (hm:X.mg x=none) (hv:gI x=some (.type "list")) (hg2:Gl X y) (hm2:X.mg y=none) (hv2:gI y=some (.type "reversed")) (ha:PE X e t)
  (he:autoParam (gy [e] X.env=(false,eval e X.env)::gy [] X.env) Au) :
  PE X (.Call (.Name x p1) [.Call (.Name y p2) [e] [] pos2] [] pos) (tS X.K t):=by
 intro i s σ H Q I h;have F:x≠"__name__":=by rw[hx];decide
 have M:y≠"__name__":=by rw[hy];decide
 have P:(x == ("__debug__" : Str))=false:=by rw[hx];decide
 have T:(y == ("__debug__" : Str))=false:=by rw[hy];decide
 show ic (se I hg hm hv ?_ F P);show ie ?_ rfl rfl;show gu _ _ (spliced ((false,eval (.Call (.Name y p2) [e] [] pos2) X.env)::iP pos (gy [] X.env))) _ _ s;show h9 ?_;show ic (se I hg2 hm2 hv2 ?_ M T);show ie ?_ he rfl;rw[he];show gu _ _ (spliced ((false,eval e X.env)::iP pos2 (gy [] X.env))) _ _ s;show h9 (jl (ha i s σ H _ I h) λu c ζ=>?_);let(v,W,I1,R,a,A,J,N,q):=ζ;show iI ?_;subst J;obtain rfl:u=cf a:=R;let(m,D,p,U):=I1.list N;have d:=p.isList;show call_reversed_list d (iI ?_);generalize f:c.heap.push _=l;have Y:l.objs.size=c.heap.objs.size+1:=by rw[<- f];show iD ..
 have E:∀ b o,c.heap.get? b=some o->l.get? b=some o:=λb o z=>by rw[<- f];show bW _ z
 have n:l.IsRevIter c.heap.objs.size a ((m.toArray.size:Int)-1):=⟨_,by rw[<- f];show ck _ rfl,rfl,rfl⟩;let(V,r,_):=id d;have Z:=D.length;show JU (s:={ c with heap:=l }) (I.ok.hd hc) n (d.at λo e=>E _ _ e) (cq (b9 r)) (by simp;ac_nf) λB L j G k S g=>?_;have O:∀ b o,c.heap.get? b=some o->B.get? b=some o:=λb o z=>k b o (cq (b9 z)) (E b o z);have C:c.heap.objs.size<=l.objs.size:=by ac_nf
 show(.ref _,_,I1.laid (t':=L) (o:=.lst A.reverse) O C (show jk X.prog X.w _ B _ (.lst A.reverse)from⟨by rw[List.length_reverse];show U,j.toList,G,Mb D g,by rw[kK];show S⟩),rfl,q _ (I1.hok.fresh C))
def xp(K:bY):V->Option Int->Option Int->Hp->VK->Prop:=λx lo hi H Q=>xq K x lo hi H Q\/rSlS x lo hi H Q
theorem sl_W:tD X (xp X.K):=tD.or JP Hy
end L2
namespace Rn
open L2 PySem
inductive CO where
 | lst (xs:List V) | tup (xs:List V) | kon (xs:List V) | dk (kvs:List (jz × V)) | fz (kvs:List (jz × V)) | dt (kvs:List (List jz × V)) | ins (C:Nat) (fs:List (Str × V))
 | exn (C:Nat) (od:Option Nat) | exo (C:Nat) (od:Option Nat) | xd (fs:List (Str × V)) | gone
abbrev CH:=List CO
noncomputable def kr{α : Type}(l:List α):Nat->Option α:=oH (motive:=λ_=>Nat->Option α) (λ_=>none) (λa _ ih n=>Nat.rec (motive:=λ_=>Option α) (some a) (λm _=>ih m) n) l
theorem jm{α : Type}(l:List α):∀ n:Nat,kr l n=l[n]?:=by
 induction l with
 | nil=>intro n;rfl
 | cons a l ih=>
  intro n;cases n with
  | zero=>rfl
  | succ n=>show(ih n).trans (List.getElem?_cons_succ).symm
noncomputable def snoc{α : Type}(l:List α)(a : α):List α:=oH [a] (λb _ ih=>b::ih) l
theorem jQ{α : Type}(l:List α)(a : α):snoc l a=l++[a]:=by
 induction l with
 | nil=>rfl
 | cons b l ih=>show congrArg (b::·) ih
noncomputable def len{α : Type}(l:List α):Nat:=oH 0 (λ_ _ n=>Nat.add n 1) l
theorem jN{α : Type}(l:List α):len l=l.length:=by
 induction l with
 | nil=>rfl
 | cons b l ih=>show congrArg (· + 1) ih
noncomputable def xM(l:List Nat):List Nat->Bool:=oH (motive:=λ_=>List Nat->Bool) (λm=>oH true (λ_ _ _=>false) m) (λa _ ih m=>oH (motive:=λ_=>Bool) false (λb m _=>g8 false (ih m) (cj a b)) m) l
theorem IW(l:List Nat):∀ m:List Nat,xM l m=decide (l=m):=by
 induction l with
 | nil=>intro m;cases m <;> simp[xM]
 | cons a l ih=>
  intro m;cases m with
  | nil=>simp[xM]
  | cons b m=>
   show(g8 (motive:=λ_=>Bool) false (xM l m) (cj a b):Bool)=_;rw[ih m];cases c:cj a b with
   | false=>simp[Nat.ne_of_beq_eq_false c]
   | true=>simp[bN c]
noncomputable def pY(a b:Str):Bool:=xM a.cps.toList b.cps.toList
theorem jH(a b:Str):pY a b=decide (a=b):=by
 unfold pY;rw[IW];obtain⟨⟨a⟩⟩:=a;obtain⟨⟨b⟩⟩:=b;simp
noncomputable def pw{α : Type}(k:Str)(l:List (Str × α)):Option α:=oH (motive:=λ_=>Option α) none (λp _ ih=>g8 ih (some p.2) (pY k p.1)) l
theorem jY{α : Type}(k:Str)(l:List (Str × α)):pw k l=l.lookup k:=by
 induction l with
 | nil=>rfl
 | cons p l ih=>
  show(g8 (motive:=λ_=>Option α) (pw k l) (some p.2) (pY k p.1):Option α)=_;rw[jH,ih,ko];by_cases c:k=p.1
  .simp[c]
  .rw[decide_eq_false c,show(k == p.1)=false from beq_eq_false_iff_ne.mpr c]
noncomputable def oo{α : Type}(l:List α):Nat->α->List α:=oH (motive:=λ_=>Nat->α->List α) (λ_ _=>[]) (λb l ih n a=>Nat.rec (motive:=λ_=>List α) (a::l) (λm _=>b::ih m a) n) l
theorem jT{α : Type}(l:List α):∀(n:Nat)(a : α),oo l n a=l.set n a:=by
 induction l with
 | nil=>intro n a;rfl
 | cons b l ih=>
  intro n a;cases n with
  | zero=>rfl
  | succ n=>show congrArg (b::·) (ih n a)
noncomputable def uJ{α : Type}(f:Str)(v : α)(l:List (Str × α)):List (Str × α):=oH (motive:=λ_=>List (Str × α)) [(f,v)] (λp r ih=>g8 (motive:=λ_=>List (Str × α)) (p::ih) ((p.1,v)::r) (pY p.1 f)) l
theorem jU(f:Str)(v:V)(l:List (Str × V)):uJ f v l=m3 f v l:=by
 induction l with
 | nil=>rfl
 | cons p l ih=>
  let(g,x):=p;show(g8 (motive:=λ_=>List (Str × V)) ((g,x)::uJ f v l) ((g,v)::l) (pY g f))=_;rw[jH,ih];show _=if g=f then(g,v)::l else(g,x)::m3 f v l
  by_cases c:g=f
  .rw[decide_eq_true c,if_pos c]
  .rw[decide_eq_false c,if_neg c]
noncomputable def qJ(a b:jz):Bool:=match a,b with
 | .inr a, .inr b=>pY a b
 | a,b=>decide (a=b)
theorem yP(a b:jz):qJ a b=decide (a=b):=by
 cases a <;> cases b <;> first | rfl | (simp only[qJ,jH];simp)
noncomputable def sR(l:List (jz × V))(k:jz):Option V:=oH (motive:=λ_=>Option V) none (λp _ ih=>g8 (motive:=λ_=>Option V) ih (some p.2) (qJ p.1 k)) l
theorem jS(l:List (jz × V))(k:jz):sR l k=lB l k:=by
 induction l with
 | nil=>rfl
 | cons p l ih=>
  show(g8 (motive:=λ_=>Option V) (sR l k) (some p.2) (qJ p.1 k))=_;rw[yP,ih];by_cases c:p.1=k
  .rw[decide_eq_true c,wz c]
  .rw[decide_eq_false c,wA c]
noncomputable def rS(l:List (jz × V))(k:jz)(v:V):List (jz × V):=oH (motive:=λ_=>List (jz × V)) (snoc l (k,v)) (λ_ _ _=>oH (motive:=λ_=>List (jz × V)) [] (λp _ ih=>(p.1,g8 (motive:=λ_=>V) p.2 v (qJ p.1 k))::ih) l) (oH (motive:=λ_=>List Unit) [] (λp _ ih=>g8 (motive:=λ_=>List Unit) ih [()] (qJ p.1 k)) l)
theorem jX(l:List (jz × V))(k:jz)(v:V):rS l k v=putK l k v:=by
 have m:∀ l:List (jz × V),(oH (motive:=λ_=>List (jz × V)) [] (λp _ b=>(p.1,g8 (motive:=λ_=>V) p.2 v (qJ p.1 k))::b) l:List (jz × V))=l.map (λd=>if d.1=k then(d.1,v)else d):=by
  intro l;induction l with
  | nil=>rfl
  | cons p l b=>
   rw[hV, <- b];show(p.1,(g8 (motive:=λ_=>V) p.2 v (qJ p.1 k)))::_=_;rw[yP];by_cases c:p.1=k
   .rw[decide_eq_true c,if_pos c]
   .rw[decide_eq_false c,if_neg c]
 have a:∀ l:List (jz × V),(oH (motive:=λ_=>List Unit) [] (λp _ b=>g8 (motive:=λ_=>List Unit) b [()] (qJ p.1 k)) l:List Unit)=if(l.any λd=>decide (d.1=k))=true then[()]else[]:=by
  intro l;induction l with
  | nil=>rfl
  | cons p l b=>
   show(g8 (motive:=λ_=>List Unit) (oH (motive:=λ_=>List Unit) [] (λp _ b=>g8 (motive:=λ_=>List Unit) b [()] (qJ p.1 k)) l:List Unit) [()] (qJ p.1 k))=_;rw[b,yP,lT];by_cases c:p.1=k
   .rw[decide_eq_true c];rfl
   .rw[decide_eq_false c];rfl
 unfold rS putK;rw[a,m,jQ];split <;> rfl
noncomputable def uS(a b:V):Bool:=match a,b with
 | .str a, .str b=>pY a b
 | a,b=>eqV a b
noncomputable def sZ(x:V)(l:List V):Bool:=oH (motive:=λ_=>Bool) false (λy _ ih=>g8 (motive:=λ_=>Bool) ih true (uS y x)) l
theorem KP(a b:V):uS a b=eqV a b:=by
 cases a <;> cases b <;> first | rfl | (rename_i a b;show pY a b=(a == b);rw[jH];by_cases c:a=b <;> simp[c])
theorem jV(x:V)(l:List V):sZ x l=vM x l:=by
 induction l with
 | nil=>rfl
 | cons y l ih=>
  show(g8 (motive:=λ_=>Bool) (sZ x l) true (uS y x))=_;rw[ih,KP];unfold vM;rw[lT];cases eqV y x <;> rfl
noncomputable def uT{δ : Type}(k:Str)(l:List (Str × δ)):Option δ:=oH (motive:=λ_=>Option δ) none (λp _ ih=>g8 (motive:=λ_=>Option δ) ih (some p.2) (pY p.1 k)) l
theorem jW{δ : Type}(k:Str)(l:List (Str × δ)):uT k l=PyProof.Rows.KTD.datumAt k l:=by
 induction l with
 | nil=>rfl
 | cons p l ih=>
  let(a,b):=p;show(g8 (motive:=λ_=>Option δ) (uT k l) (some b) (pY a k))=_;rw[ih,jH];rw[PyProof.Rows.KTD.datumAt];by_cases c:a=k
  .rw[decide_eq_true c,if_pos (decide_eq_true c.symm)]
  .rw[decide_eq_false c,if_neg (λz=>c (of_decide_eq_true z).symm)]
inductive Out(α : Type) where
 | ok (a : α) (h:CH) | exc (C:Nat) (od:Option Nat) (h:CH) | no
def Out.bind{α β : Type}:Out α->(α->CH->Out β)->Out β
 | .ok a h,k=>k a h
 | .exc C od h,_=>.exc C od h
 | .no,_=>.no
structure Run where
 K:bY
 cl:Nat->Addr
 cs:List Addr
 Pr:Hp
 D0:Addr->Prop
def RV(ι : List Addr)(v u:V):Prop:=match v with
 | .ref n=>∃ a,ι[n]?=some a/\u=.ref a
 | v=>u=v
def nG{α : Type}(ι : List Addr)(kvs ys:List (α × V)):Prop:=ys.map (·.1)=kvs.map (·.1)/\ju (RV ι) (kvs.map (·.2)) (ys.map (·.2))
def va(ι : List Addr)(od:Option Nat)(oa:Option Addr):Prop:=match od with
 | none=>oa=none
 | some n=>∃ a,ι[n]?=some a/\oa=some a
def LO(R:Run)(ι : List Addr)(H:Hp)(a:Addr):CO->Prop
 | .lst xs=>∃ ys,H a=some (.lst ys)/\ju (RV ι) xs ys
 | .tup xs=>∃ ys,H a=some (.tup ys)/\ju (RV ι) xs ys
 | .kon xs=>∃ ys,mQ R.K H a ys/\ju (RV ι) xs ys
 | .dk kvs=>∃ ys,H a=some (.dK ys)/\nG ι kvs ys
 | .fz kvs=>∃ o ys,H a=some (.frz o (.dK ys))/\nG ι kvs ys
 | .dt kvs=>∃ ys,H a=some (.dT ys)/\nG ι kvs ys
 | .ins C fs=>∃ dx ys,H a=some (.ins (R.cl C) dx ys)/\nG ι fs ys
 | .exn C od=>∃ oa,H a=some (ow a (R.cl C) oa)/\va ι od oa
 | .exo C od=>∃ oa,H a=some (p6 a (R.cl C) oa)/\va ι od oa
 | .xd fs=>∃ ys,H a=some (.xd ys)/\nG ι fs ys
 | .gone=>True
def CO.mut:CO->Bool
 | .tup _=>false
 | .kon _=>false
 | .fz _=>false
 | .gone=>false
 | _=>true
def CO.own:CO->Bool
 | .tup _=>false
 | .kon _=>false
 | .gone=>false
 | _=>true
theorem x2{o:CO}(h:o.mut=true):o.own=true:=by cases o <;> first | rfl | cases h
structure HR(R:Run)(ι : List Addr)(h:CH)(H:Hp):Prop where
 len : ι.length=h.length
 obj:∀(n:Nat) a o,ι[n]?=some a->h[n]?=some o->LO R ι H a o
 inj:∀(n m:Nat) a o o2,ι[n]?=some a->ι[m]?=some a->h[n]?=some o->h[m]?=some o2->o.own=true->o2.own=true->n=m
 pr:∀ b o,R.Pr b=some o->H b=some o
 sep:∀(n:Nat) a o,ι[n]?=some a->h[n]?=some o->o.mut=true->R.Pr a=none
 cst:R.cs <+: ι
 dm:∀ b,R.D0 b->∃ o,H b=some o
section
variable{R:Run}{ι ι':List Addr}{h h':CH}{H H':Hp}{a b:Addr}{o:CO}{v u:V}
theorem ou{α : Type}{xs ys:List α}{n:Nat}{a : α}(p:xs <+: ys)(h:xs[n]?=some a):ys[n]?=some a:=by
 let(r,rfl):=p;rw[gZ (cb.mp h).1];show h
theorem RV.mono(p : ι <+: ι')(h:RV ι v u):RV ι' v u:=by
 cases v with
 | ref n=>let(a,c,b):=h;show(a,ou p c,b)
 | _=>show h
theorem RVs.mono{xs ys:List V}(p : ι <+: ι')(h:ju (RV ι) xs ys):ju (RV ι') xs ys:=ju.mono (λ_ _ z=>z.mono p) h
theorem nG.mono{α : Type}{xs ys:List (α × V)}(p : ι <+: ι')(h:nG ι xs ys):nG ι' xs ys:=⟨h.1,RVs.mono p h.2⟩
theorem va.mono{od:Option Nat}{oa:Option Addr}(p : ι <+: ι')(h:va ι od oa):va ι' od oa:=by
 cases od with
 | none=>show h
 | some n=>let(a,c,b):=h;show(a,ou p c,b)
theorem LO.mono(p : ι <+: ι')(h:LO R ι H a o):LO R ι' H a o:=by
 cases o with
 | lst xs=>let(d,c,b):=h;show(d,c,RVs.mono p b)
 | tup xs=>let(d,c,b):=h;show(d,c,RVs.mono p b)
 | kon xs=>let(d,c,b):=h;show(d,c,RVs.mono p b)
 | dk xs=>let(d,c,b):=h;show(d,c,b.mono p)
 | fz xs=>let(o,d,c,b):=h;show(o,d,c,b.mono p)
 | dt xs=>let(d,c,b):=h;show(d,c,b.mono p)
 | ins C xs=>let(f,d,c,b):=h;show(f,d,c,b.mono p)
 | exn C od=>let(e,c,b):=h;show(e,c,b.mono p)
 | exo C od=>let(e,c,b):=h;show(e,c,b.mono p)
 | xd xs=>let(d,c,b):=h;show(d,c,b.mono p)
 | gone=>trivial
theorem LO.congr(e:H' a=H a)(h:LO R ι H a o):LO R ι H' a o:=by
 cases o with
 | kon xs=>
  let(d,b,c):=h;show(d,?_,c);rcases b with(b | ⟨o,b⟩) | b
  .show .inl (.inl (e.trans b))
  .show .inl (.inr ⟨o,e.trans b⟩)
  .show .inr b
 | gone=>trivial
 | fz xs=>let(o,d,b,c):=h;show(o,d,e.trans b,c)
 | ins C xs=>let(o,d,b,c):=h;show(o,d,e.trans b,c)
 | _=>let(d,b,c):=h;show(d,e.trans b,c)
theorem LO.same(e:tE H H')(h:LO R ι H a o):LO R ι H' a o:=by
 cases o with
 | kon xs=>let(c,d,b):=h;show(c,d.same e,b)
 | gone=>trivial
 | fz xs=>let(o,c,d,b):=h;show(o,c,e _ _ d,b)
 | ins C xs=>let(o,c,d,b):=h;show(o,c,e _ _ d,b)
 | _=>let(c,d,b):=h;show(c,e _ _ d,b)
theorem LO.some(h:LO R ι H a o)(m:o.own=true):∃ u,H a=some u:=by
 cases o with
 | tup xs=>cases m
 | kon xs=>cases m
 | gone=>cases m
 | fz xs=>let(_,_,b,_):=h;show(_,b)
 | ins C xs=>let(_,_,b,_):=h;show(_,b)
 | _=>let(_,b,_):=h;show(_,b)
theorem yR{O:HO}{p b:Addr}(h:∃ o,H b=some o):∃ o,upd H p O b=some o:=by
 by_cases c:b=p
 .subst c;show(O,md)
 .rw[kk c];show h
theorem HR.grow{p:Addr}{O:HO}(r:HR R ι h H)(hp:H p=none):HR R ι h (upd H p O):=by
 have S:tE H (upd H p O):=λb u q=>by rw[kk (rn q hp)];show q
 show(r.len,λn a o d c=>(r.obj n a o d c).same S,r.inj,λb o q=>S _ _ (r.pr b o q),r.sep,r.cst,λb q=>yR (r.dm b q))
theorem HR.new{p:Addr}{O:HO}(r:HR R ι h H)(hp:H p=none)(hO:LO R (ι++[p]) (upd H p O) p o):HR R (ι++[p]) (h++[o]) (upd H p O):=by
 have S:tE H (upd H p O):=λb u q=>by rw[kk (rn q hp)];show q
 have i:∀(n:Nat) a d,(ι++[p])[n]?=some a->(h++[o])[n]?=some d->(ι[n]?=some a/\h[n]?=some d)\/(n=ι.length/\a=p/\d=o):=λn a d g f=>by
  have t:=r.len;by_cases c:n<ι.length
  .rw[gZ c]at g;rw[gZ ∅]at f;show .inl ⟨g,f⟩
  .have x:=(cb.mp g).1;have e:n=ι.length:=by simp at x;ac_nf
   subst e;rw[gU ∅]at g f;simp at g;rw[t]at f;simp at f;show .inr ⟨rfl,g.symm,f.symm⟩
 show(by simp[r.len],λn a d g f=>?_,λn m a d l g f s k w v=>?_,λb u q=>S _ _ (r.pr b u q),λn a d g f s=>?_,r.cst.trans ⟨[p],rfl⟩,λb q=>yR (r.dm b q))
 .rcases i n a d g f with⟨k1,k2⟩ | ⟨_,rfl,rfl⟩
  .show((r.obj n a d k1 k2).same S).mono ⟨[p],rfl⟩
  .show hO
 .rcases i n a d g s with⟨k1,k2⟩ | ⟨e1,e2,e3⟩
  .rcases i m a l f k with⟨j1,j2⟩ | ⟨_,e2,_⟩
   .show r.inj n m a d l k1 j1 k2 j2 w v
   .let(u,j):=(r.obj n a d k1 k2).some w;rw[e2,hp]at j;cases j
  .rcases i m a l f k with⟨j1,j2⟩ | ⟨e4,_,_⟩
   .let(u,j):=(r.obj m a l j1 j2).some v;rw[e2,hp]at j;cases j
   .rw[e1,e4]
 .rcases i n a d g f with⟨k1,k2⟩ | ⟨_,rfl,_⟩
  .show r.sep n a d k1 k2 s
  .cases e:R.Pr a with
   | none=>rfl
   | some u=>rw[r.pr a u e]at hp;cases hp
theorem LO.noT(h:LO R ι H a o)(m:o.mut=true){xs:List V}(q:mQ R.K H a xs)(H':Hp):mQ R.K H' a xs:=by
 rcases q with(q | ⟨w,q⟩) | q
 .exfalso;cases o <;> first | (cases m;done) | (let(_,b,_):=h;rw[q]at b;cases b) | (let(_,_,b,_):=h;rw[q]at b;cases b)
 .exfalso;cases o <;> first | (cases m;done) | (let(_,b,_):=h;rw[q]at b;cases b) | (let(_,_,b,_):=h;rw[q]at b;cases b)
 .show .inr q
theorem LO.noT2(h:LO R ι H a o)(m:o.mut=true){xs:List V}(q:H a=Option.some (HO.tup xs)):False:=by
 cases o <;> first | (cases m;done) | (let(_,b,_):=h;rw[q]at b;cases b) | (let(_,_,b,_):=h;rw[q]at b;cases b)
def CO.seqT:CO->Option (List V)
 | .tup xs=>Option.some xs
 | .kon xs=>Option.some xs
 | _=>none
theorem LO.sqT{xs:List V}(h:LO R ι H a o)(e:o.seqT=Option.some xs):∃ ys,mQ R.K H a ys/\ju (RV ι) xs ys:=by
 cases o with
 | tup zs=>cases e;let(ys,b,c):=h;show(ys,mQ.of b,c)
 | kon zs=>cases e;show h
 | _=>cases e
theorem HR.put{n:Nat}{o0:CO}{O:HO}(r:HR R ι h H)(ha : ι[n]?=some a)(h0:h[n]?=some o0)(m:o0.mut=true)(hO:LO R ι (upd H a O) a o):HR R ι (h.set n o) (upd H a O):=by
 have F:n<h.length:=(cb.mp h0).1;have i:∀(k:Nat) d,(h.set n o)[k]?=some d->(k=n/\d=o)\/(k≠n/\h[k]?=some d):=λk d q=>by
  by_cases c:k=n
  .subst c;rw[ij F]at q;show .inl ⟨rfl,(gL q).symm⟩
  .rw[hU (λz=>c z.symm)]at q;show .inr ⟨c,q⟩
 have C:=r.sep n a o0 ha h0 m;show(by rw[jO];show r.len,λk b d f g=>?_,λk j b d p f g t s B A=>?_,λb u q=>?_,λk b d f g t=>?_,r.cst,λb q=>yR (r.dm b q))
 .rcases i k d g with⟨e1,e2⟩ | ⟨c,g⟩
  .subst e1 e2;rw[ha]at f;cases f;show hO
  .have l:=r.obj k b d f g;by_cases e:b=a
   .subst e;cases mo:d.own with
    | true=>show absurd (r.inj k n b d o0 f ha g h0 mo (x2 m)) c
    | false=>
     cases d with
     | kon xs=>let(y,w,v):=l;show(y,(r.obj n b o0 ha h0).noT m w _,v)
     | tup xs=>let(y,w,v):=l;show((r.obj n b o0 ha h0).noT2 m w).elim
     | gone=>trivial
     | _=>cases mo
   .show l.congr (kk e)
 .have x:∀(k j:Nat) b (d p:CO),ι[k]?=some b->ι[j]?=some b->k≠n->h[k]?=some d->d.own=true->j=n->k=j:=λk j b d p w v I G E D=>by
   subst D;rw[ha]at v;cases v;show r.inj k j a d o0 w ha G h0 E (x2 m)
  rcases i k d t with⟨e1,e2⟩ | ⟨c1,t⟩
  .rcases i j p s with⟨e3,_⟩ | ⟨c2,s⟩
   .rw[e1,e3]
   .show(x j k b p d g f c2 s A e1).symm
  .rcases i j p s with⟨e3,_⟩ | ⟨c2,s⟩
   .show x k j b d p f g c1 t B e3
   .show r.inj k j b d p f g t s B A
 .have:=r.pr b u q;rw[kk (λz=>by rw[z,C]at q;cases q)];show this
 .rcases i k d g with⟨e1,_⟩ | ⟨_,g⟩
  .subst e1;rw[ha]at f;cases f;show C
  .show r.sep k b d f g t
theorem HR.gone{n:Nat}{o0:CO}(r:HR R ι h H)(ha : ι[n]?=some a)(h0:h[n]?=some o0)(m:o0.mut=true)(nd:¬ R.D0 a):HR R ι (h.set n .gone) (sS H a):=by
 have B:n<h.length:=(cb.mp h0).1;have g:∀(k:Nat) d,(h.set n .gone)[k]?=some d->(k=n/\d=.gone)\/(k≠n/\h[k]?=some d):=λk d q=>by
  by_cases c:k=n
  .subst c;rw[ij B]at q;show .inl ⟨rfl,(gL q).symm⟩
  .rw[hU (λz=>c z.symm)]at q;show .inr ⟨c,q⟩
 have A:=r.sep n a o0 ha h0 m;show(by rw[jO];show r.len,λk b d o f=>?_,λk j b d x o f i s y w=>?_,λb u q=>?_,λk b d o f i=>?_,r.cst,λb q=>?_)
 .rcases g k d f with⟨e1,e2⟩ | ⟨c,f⟩
  .subst e2;trivial
  .have l:=r.obj k b d o f;by_cases e:b=a
   .subst e;cases mo:d.own with
    | true=>show absurd (r.inj k n b d o0 o ha f h0 mo (x2 m)) c
    | false=>
     cases d with
     | kon xs=>let(v,p,t):=l;show(v,(r.obj n b o0 ha h0).noT m p _,t)
     | tup xs=>let(v,p,t):=l;show((r.obj n b o0 ha h0).noT2 m p).elim
     | gone=>trivial
     | _=>cases mo
   .show l.congr (sD e)
 .rcases g k d i with⟨e1,e2⟩ | ⟨c1,i⟩
  .subst e2;cases y
  .rcases g j x s with⟨e3,e4⟩ | ⟨c2,s⟩
   .subst e4;cases w
   .show r.inj k j b d x o f i s y w
 .rw[sD (λz=>by rw[z,A]at q;cases q)];show r.pr b u q
 .rcases g k d f with⟨e1,e2⟩ | ⟨_,f⟩
  .subst e2;cases i
  .show r.sep k b d o f i
 .rw[sD (λz=>nd (by rw[<- z];show q))];show r.dm b q
theorem HR.less{P P':Hp}(r:HR { R with Pr:=P' } ι h H)(hP:∀ b o,P b=some o->P' b=some o):HR { R with Pr:=P } ι h H:=⟨r.len,r.obj,r.inj,λb o q=>r.pr b o (hP b o q),λn a o f c d=>by
 have:=r.sep n a o f c d;cases e:P a with
 | none=>show e
 | some u=>have:=hP a u e;simp_all,r.cst,r.dm⟩
theorem HR.up(r:HR R ι h H)(D:Addr->Prop)(hD:∀ b,D b->∃ o,H b=some o):HR { R with D0:=D } ι h H:=⟨r.len,r.obj,r.inj,r.pr,r.sep,r.cst,hD⟩
theorem HR.freeze{n:Nat}{kvs:List (jz × V)}{ys:List (jz × V)}{od:Obj}(r:HR R ι h H)(ha : ι[n]?=some a)(h0:h[n]?=some (.dk kvs))(hy:H a=some (.dK ys)):HR { R with Pr:=upd R.Pr a (.frz od (.dK ys)) } ι (h.set n (.fz kvs)) (upd H a (.frz od (.dK ys))):=by
 have lk:nG ι kvs ys:=by
  let(l,f,d):=r.obj n a _ ha h0;rw[hy]at f;cases f;show d
 have j:n<h.length:=(cb.mp h0).1;have e:=r.put (o:=.fz kvs) (O:=.frz od (.dK ys)) ha h0 rfl ⟨od,ys,md,lk⟩;show(e.len,λk b o f d=>?_,e.inj,λb o q=>?_,λk b o f d i=>?_,e.cst,e.dm)
 .have:=e.obj k b o f d;cases o <;> show this
 .by_cases c:b=a
  .subst c;have q:upd R.Pr b (.frz od (.dK ys)) b=some o:=q;rw[md]at q ⊢;show q
  .have q:upd R.Pr a (.frz od (.dK ys)) b=some o:=q;rw[kk c]at q;show e.pr b o q
 .show upd R.Pr a _ b=none;by_cases c:b=a
  .subst c;by_cases g:k=n
   .subst g;rw[ij j]at d;cases d;cases i
   .rw[hU (λz=>g z.symm)]at d;show absurd (r.inj k n b o _ f ha d h0 (x2 i) rfl) g
  .rw[kk c];show e.sep k b o f d i
theorem HR.thaw{n:Nat}{P:Hp}{kvs:List (jz × V)}{ys:List (jz × V)}{od:Obj}(r:HR { R with Pr:=upd P a (.frz od (.dK ys)) } ι h H)(ha : ι[n]?=some a)(h0:h[n]?=some (.fz kvs))(pa:P a=none):H a=some (.frz od (.dK ys))/\HR { R with Pr:=P } ι (h.set n (.dk kvs)) (upd H a (.dK ys)):=by
 have t:H a=some (.frz od (.dK ys)):=r.pr a _ md;have lk:nG ι kvs ys:=by
  let(w,x,g,i):=r.obj n a _ ha h0;rw[t]at g;cases g;show i
 have I:n<h.length:=(cb.mp h0).1;have p:∀(k:Nat) d,(h.set n (.dk kvs))[k]?=some d->(k=n/\d=.dk kvs)\/(k≠n/\h[k]?=some d):=λk d q=>by
  by_cases c:k=n
  .subst c;rw[ij I]at q;show .inl ⟨rfl,(gL q).symm⟩
  .rw[hU (λz=>c z.symm)]at q;show .inr ⟨c,q⟩
 show(t,by rw[jO];show r.len,λk b d g i=>?_,λk j b d C g i y K G B=>?_,λb u q=>?_,λk b d g i y=>?_,r.cst,λb q=>yR (r.dm b q))
 .rcases p k d i with⟨e1,e2⟩ | ⟨c,i⟩
  .subst e1 e2;rw[ha]at g;cases g;show(ys,md,lk)
  .have l:=r.obj k b d g i;by_cases e:b=a
   .subst e;cases mo:d.own with
    | true=>show absurd (r.inj k n b d _ g ha i h0 mo rfl) c
    | false=>
     cases d with
     | kon xs=>
      let(x,f,v):=l;show(x,?_,v);rcases f with(f | ⟨w,f⟩) | f
      .rw[t]at f;cases f
      .rw[t]at f;cases f
      .show .inr f
     | tup xs=>let(x,f,v):=l;rw[t]at f;cases f
     | gone=>trivial
     | _=>cases mo
   .have:=l.congr (H':=upd H a (.dK ys)) (kk e);cases d <;> show this
 .have s:∀(k:Nat)(d:CO),(h.set n (.dk kvs))[k]?=some d->d.own=true->∃ o,h[k]?=some o/\o.own=true:=λk d q m=>by
   rcases p k d q with⟨e1,_⟩ | ⟨_,q⟩
   .subst e1;show(_,h0,rfl)
   .show(_,q,m)
  let(f,J,F):=s k d y G;let(v,D,E):=s j C K B;show r.inj k j b f v g i J D F E
 .have q:P b=some u:=q;have A:b≠a:=λz=>by rw[z,pa]at q;cases q
  rw[kk A];show r.pr b u (by show upd P a _ b=some u;rw[kk A];show q)
 .show P b=none;rcases p k d i with⟨e1,_⟩ | ⟨_,i⟩
  .subst e1;rw[ha]at g;cases g;show pa
  .have z:=r.sep k b d g i y;have z:upd P a (.frz od (.dK ys)) b=none:=z;by_cases e:b=a
   .subst e;show pa
   .rw[kk e]at z;show z
end
end Rn
namespace Rn
open L2 PySem
noncomputable section
def FR(ι : List Addr)(φ σ : L2.St):Prop:=φ.length=σ.length/\∀(i:Nat) v,φ[i]?=some (some v)->∃ u,σ[i]?=some (some u)/\RV ι v u
def post{α β : Type}(R:Run)(E:XK)(L:List Addr->α->β->Prop)(ι : List Addr)(Q : β->Hp->Prop):Out α->Prop
 | .ok v h=>∀ ι' u H,ι <+: ι'->HR R ι' h H->L ι' v u->Q u H
 | .exc C od h=>∀ ι' oa H,ι <+: ι'->HR R ι' h H->va ι' od oa->E (.ref (R.cl C)) oa H
 | .no=>False
def Sm{α β : Type}(R:Run)(E:XK)(L:List Addr->α->β->Prop)(t:L2.St->Hp->(β->Hp->Prop)->Prop)(f:L2.St->CH->Out α):Prop :=
 ∀ ι φ h σ H Q,FR ι φ σ->HR R ι h H->post R E L ι Q (f φ h)->t σ H Q
abbrev LE:List Addr->V->V->Prop:=RV
abbrev LA:List Addr->List V->List V->Prop:=λι=>ju (RV ι)
abbrev LB:List Addr->Bool->Bool->Prop:=λ_ a b=>b=a
section
variable{R:Run}{E:XK}{ι ι':List Addr}{φ σ : L2.St}{h h':CH}{H H':Hp}{α β γ δ : Type}
theorem FR.mono(p : ι <+: ι')(f:FR ι φ σ):FR ι' φ σ:=⟨f.1,λi v q=>by
 let(u,b,a):=f.2 i v q;show(u,b,a.mono p)⟩
theorem post.mono{L:List Addr->α->β->Prop}{Q : β->Hp->Prop}{o:Out α}(p : ι <+: ι')(q:post R E L ι Q o):post R E L ι' Q o:=by
 cases o with
 | ok v h=>showλι2 u H a=>q ι2 u H (p.trans a)
 | exc C od h=>showλι2 b H a=>q ι2 b H (p.trans a)
 | no=>show q
theorem post.bind{L:List Addr->α->β->Prop}{L':List Addr->γ->δ->Prop}{Q1 : β->Hp->Prop}{Q : δ->Hp->Prop}{o:Out α}{k : α->CH->Out γ}(p:post R E L' ι Q (o.bind k))
  (c:∀ v h ι1 u H1,ι <+: ι1->HR R ι1 h H1->L ι1 v u->post R E L' ι1 Q (k v h)->Q1 u H1):post R E L ι Q1 o:=by
 cases o with
 | ok v h=>showλι1 u H1 a r l=>c v h ι1 u H1 a r l (post.mono a p)
 | exc C od h=>show p
 | no=>show p.elim
theorem post.ok{L:List Addr->α->β->Prop}{Q : β->Hp->Prop}{v : α}{u : β}(p:post R E L ι Q (.ok v h))(r:HR R ι h H)(l:L ι v u):Q u H:=p ι u H (iS _) r l
def S2(R:Run)(E:XK)(r:R2)(g:V->V->CH->Out V):Prop:=∀ ι h H x y x' y' Q,HR R ι h H->RV ι x x'->RV ι y y'->post R E LE ι Q (g x y h)->r x' y' H Q
def S1(R:Run)(E:XK)(r:V->Hp->VK->Prop)(g:V->CH->Out V):Prop:=∀ ι h H x x' Q,HR R ι h H->RV ι x x'->post R E LE ι Q (g x h)->r x' H Q
def SL(R:Run)(E:XK)(r:List V->Hp->VK->Prop)(g:List V->CH->Out V):Prop:=∀ ι h H xs xs' Q,HR R ι h H->LA ι xs xs'->post R E LE ι Q (g xs h)->r xs' H Q
def i5(K:bY)(cl:Nat->Addr)(cs:List Addr)(F:List V->CH->Out V):Sp:=λvs H Q E=>∃ Pr D0 ι us h,LA ι us vs/\HR ⟨K,cl,cs,Pr,D0⟩ ι h H/\post ⟨K,cl,cs,Pr,D0⟩ E LE ι Q (F us h)
def w4(i:Nat):L2.St->CH->Out V:=λφ h=>match φ[i]? with
 | some (some v)=>.ok v h
 | _=>.no
theorem bX{i:Nat}:Sm R E LE (lH i) (w4 i):=λι φ h σ H Q f r p=>by
 unfold w4 at p;try simp only[jm,jY,jS,jH,jN,jQ,jT,jU,jX,jV,jW]at p
 split at p
 .rename_i v e;let(u,b,a):=f.2 i v e;show xP σ[i]? H Q;rw[b];show p.ok r a
 .show p.elim
def V.free:V->Bool
 | .ref _=>false
 | _=>true
theorem RV.free{v:V}(h:V.free v=true):RV ι v v:=by
 cases v with
 | ref n=>cases h
 | _=>rfl
theorem sC{v:V}(hv:V.free v=true):Sm R E LE (tC v) (λ_ h=>.ok v h):=λι φ h σ H Q f r p=>p.ok r (RV.free hv)
theorem kh{r:R2}{ta tb:TE}{fa fb:L2.St->CH->Out V}{g:V->V->CH->Out V}(hr:S2 R E r g)(ha:Sm R E LE ta fa)(hb:Sm R E LE tb fb) :
  Sm R E LE (om r ta tb) (λφ h=>(fa φ h).bind λx h1=>(fb φ h1).bind λy h2=>g x y h2):=λι φ h σ H Q f r p=>
 ha ι φ h σ H _ f r (p.bind λx h1 ι1 u d k e m c=>hb ι1 φ h1 σ d _ (f.mono k) e (c.bind λy h2 ι2 w i l a j b=>hr ι2 h2 i x y u w Q a (m.mono l) j b))
theorem ra{r:V->Hp->VK->Prop}{ta:TE}{fa:L2.St->CH->Out V}{g:V->CH->Out V}(hr:S1 R E r g)(ha:Sm R E LE ta fa) :
  Sm R E LE (yA r ta) (λφ h=>(fa φ h).bind g):=λι φ h σ H Q f r p=>
 ha ι φ h σ H _ f r (p.bind λx c ι1 u a i b e d=>hr ι1 c a x u Q b e d)
theorem sNil:Sm R E LA tNil (λ_ h=>.ok [] h):=λι φ h σ H Q f r p=>p.ok r rfl
theorem b6{ta:TE}{tA:TA}{fa:L2.St->CH->Out V}{fA:L2.St->CH->Out (List V)}(ha:Sm R E LE ta fa)(hA:Sm R E LA tA fA) :
  Sm R E LA (kG ta tA) (λφ h=>(fa φ h).bind λx h1=>(fA φ h1).bind λxs h2=>.ok (x::xs) h2):=λι φ h σ H Q f r p=>
 ha ι φ h σ H _ f r (p.bind λx h1 ι1 u d j g l c=>hA ι1 φ h1 σ d _ (f.mono j) g (c.bind λxs h2 ι2 e m k a i b=>b.ok a ⟨u,e,rfl,l.mono k,i⟩))
def small{α : Type}(xs:List α):Bool:=iO xs.length 1000
theorem wB{α β : Type}{xs:List α}{ys:List β}(h:small xs=true)(e:ys.length=xs.length):ys.length<=sizeLine:=by
 have : xs.length<=1000:=cm h;have : (1000:Nat)<=sizeLine:=by decide
 ac_nf
def nk(o:CO):CH->Out V:=λh=>.ok (.ref (len h)) (snoc h o)
theorem p3{p:Addr}{O:HO}{o:CO}{Q:VK}(q:post R E LE ι Q (nk o h))(r:HR R ι h H)(hp:H p=none)(hO:LO R (ι++[p]) (upd H p O) p o):Q (.ref p) (upd H p O):=by
 unfold nk at q;rw[jN,jQ]at q;show q (ι++[p]) (.ref p) _ ⟨[p],rfl⟩ (r.new hp hO) ⟨p,by rw[<- r.len,gU (cB _)];simp,rfl⟩
theorem ip{tA:TA}{fA:L2.St->CH->Out (List V)}(hA:Sm R E LA tA fA):Sm R E LE (sT tA) (λφ h=>(fA φ h).bind λxs h1=>if small xs then nk (.tup xs) h1 else .no):=λι φ h σ H Q f r p=>
 hA ι φ h σ H _ f r (p.bind λxs h1 ι1 e j i d b a=>by
  cases c:small xs with
  | false=>rw[c]at a;show a.elim
  | true=>
   rw[c]at a;show(wB c b.length,λp g=>p3 a d g ⟨e,md,RVs.mono ⟨[p],rfl⟩ b⟩))
theorem jd{tA:TA}{fA:L2.St->CH->Out (List V)}(hA:Sm R E LA tA fA):Sm R E LE (uE tA) (λφ h=>(fA φ h).bind λxs h1=>if small xs then nk (.lst xs) h1 else .no):=λι φ h σ H Q f r p=>
 hA ι φ h σ H _ f r (p.bind λxs h1 ι1 e j i d b a=>by
  cases c:small xs with
  | false=>rw[c]at a;show a.elim
  | true=>
   rw[c]at a;show(wB c b.length,λp g=>p3 a d g ⟨e,md,RVs.mono ⟨[p],rfl⟩ b⟩))
theorem lV{r:List V->Hp->VK->Prop}{tA:TA}{fA:L2.St->CH->Out (List V)}{g:List V->CH->Out V}(hr:SL R E r g)(hA:Sm R E LA tA fA) :
  Sm R E LE (sU r tA) (λφ h=>(fA φ h).bind g):=λι φ h σ H Q f r p=>
 hA ι φ h σ H _ f r (p.bind λx c ι1 u a i b e d=>hr ι1 c a x u Q b e d)
theorem wq{dvs:List V}(h:dvs.all V.free=true):LA ι dvs dvs:=by
 induction dvs with
 | nil=>rfl
 | cons a l ih=>
  rw[m2,cn]at h;show(a,l,rfl,RV.free h.1,ih h.2)
theorem xm{dvs:List V}{F:List V->CH->Out V}{tA:TA}{fA:L2.St->CH->Out (List V)}(hd:dvs.all V.free=true)(hA:Sm R E LA tA fA) :
  Sm R E LE (nX (i5 R.K R.cl R.cs F) dvs E tA) (λφ h=>(fA φ h).bind λvs h1=>F (vs++dvs) h1):=λι φ h σ H Q f r p=>
 hA ι φ h σ H _ f r (p.bind λx h1 ι1 u e d a c b=>⟨R.Pr,R.D0,ι1,x++dvs,h1,ju.append c (wq hd),a,b⟩)
def vN(v:V)(h:CH):Out Bool:=match v with
 | .bl b=>.ok b h
 | _=>.no
theorem ET{v u:V}{Q:Bool->Hp->Prop}(l:RV ι v u)(r:HR R ι h H)(q:post R E LB ι Q (vN v h)):lj u λk=>Q k H:=by
 cases v with
 | bl b=>cases l;show q.ok r rfl
 | _=>show q.elim
theorem rL{ta:TE}{fa:L2.St->CH->Out V}(ha:Sm R E LE ta fa):Sm R E LB (n9 ta) (λφ h=>(fa φ h).bind vN):=λι φ h σ H Q f r p=>
 ha ι φ h σ H _ f r (p.bind λx g ι1 u e d a c b=>ET c a b)
theorem sB{ta:TE}{fa:L2.St->CH->Out V}(ha:Sm R E LE ta fa):Sm R E LB (tB ta) (λφ h=>(fa φ h).bind vN):=λι φ h σ H Q f r p=>
 ha ι φ h σ H _ f r (p.bind λx g ι1 u e d a c b=>ET c a b)
theorem rf{a b:TT}{fa fb:L2.St->CH->Out Bool}(ha:Sm R E LB a fa)(hb:Sm R E LB b fb):Sm R E LB (q5 a b) (λφ h=>(fa φ h).bind λc h1=>if c then fb φ h1 else .ok false h1):=λι φ h σ H Q f r p=>
 ha ι φ h σ H _ f r (p.bind λc h1 ι1 u i g d j e=>by
  subst j;cases u with
  | true=>show hb ι1 φ h1 σ i _ (f.mono g) d e
  | false=>show e.ok d rfl)
theorem pj{a b:TT}{fa fb:L2.St->CH->Out Bool}(ha:Sm R E LB a fa)(hb:Sm R E LB b fb):Sm R E LB (zX a b) (λφ h=>(fa φ h).bind λc h1=>if c then .ok true h1 else fb φ h1):=λι φ h σ H Q f r p=>
 ha ι φ h σ H _ f r (p.bind λc h1 ι1 u i g d j e=>by
  subst j;cases u with
  | false=>show hb ι1 φ h1 σ i _ (f.mono g) d e
  | true=>show e.ok d rfl)
theorem mw{a:TT}{fa:L2.St->CH->Out Bool}(ha:Sm R E LB a fa):Sm R E LB (qZ a) (λφ h=>(fa φ h).bind λc h1=>.ok (!c) h1):=λι φ h σ H Q f r p=>
 ha ι φ h σ H _ f r (p.bind λc h1 ι1 u i g b e d=>by subst e;show d.ok b rfl)
theorem nq{ta tb:TE}{fa fb:L2.St->CH->Out V}(ha:Sm R E LE ta fa)(hb:Sm R E LE tb fb):Sm R E LE (rH ta tb) (λφ h=>(fa φ h).bind λx h1=>(vN x h1).bind λc h1=>if c then fb φ h1 else .ok (.bl false) h1):=λι φ h σ H Q f r p=>
 ha ι φ h σ H _ f r (p.bind λx h1 ι1 u e d b g a=>by
  cases x with
  | bl c=>
   cases g;cases c with
   | true=>show hb ι1 φ h1 σ e _ (f.mono d) b a
   | false=>show a.ok b rfl
  | _=>show a.elim)
theorem uI{ta tb:TE}{fa fb:L2.St->CH->Out V}(ha:Sm R E LE ta fa)(hb:Sm R E LE tb fb):Sm R E LE (uD ta tb) (λφ h=>(fa φ h).bind λx h1=>(vN x h1).bind λc h1=>if c then .ok (.bl true) h1 else fb φ h1):=λι φ h σ H Q f r p=>
 ha ι φ h σ H _ f r (p.bind λx h1 ι1 u e d b g a=>by
  cases x with
  | bl c=>
   cases g;cases c with
   | false=>show hb ι1 φ h1 σ e _ (f.mono d) b a
   | true=>show a.ok b rfl
  | _=>show a.elim)
theorem rN{ta:TE}{fa:L2.St->CH->Out V}(ha:Sm R E LE ta fa):Sm R E LE (rE ta) (λφ h=>(fa φ h).bind λx h1=>(vN x h1).bind λc h1=>.ok (.bl (!c)) h1):=λι φ h σ H Q f r p=>
 ha ι φ h σ H _ f r (p.bind λx h1 ι1 u g e b d a=>by
  cases x with
  | bl c=>cases d;show a.ok b rfl
  | _=>show a.elim)
theorem sv{c:TT}{ta tb:TE}{fc:L2.St->CH->Out Bool}{fa fb:L2.St->CH->Out V}(hc:Sm R E LB c fc)(ha:Sm R E LE ta fa)(hb:Sm R E LE tb fb):Sm R E LE (yB c ta tb) (λφ h=>(fc φ h).bind λk h1=>if k then fa φ h1 else fb φ h1):=λι φ h σ H Q f r p=>
 hc ι φ h σ H _ f r (p.bind λk h1 ι1 u b a d g e=>by
  subst g;cases u with
  | true=>show ha ι1 φ h1 σ b _ (f.mono a) d e
  | false=>show hb ι1 φ h1 σ b _ (f.mono a) d e)
theorem iB{Cs:Addr->Prop}{mn:Str}{ta:TE}{tA:TA}{fa:L2.St->CH->Out V}{fA:L2.St->CH->Out (List V)}(F:List V->CH->Out V)(cls:Nat->Bool)(hcl:∀ C,cls C=true->Cs (R.cl C))(ha:Sm R E LE ta fa)(hA:Sm R E LA tA fA) :
  Sm R E LE (xU Cs mn (i5 R.K R.cl R.cs F) E ta tA) (λφ h=>(fa φ h).bind λx h1=>match x with
   | .ref n=>match kr h1 n with
    | some (.ins C fs)=>if cls C&&(pw mn fs).isNone then(fA φ h1).bind λvs h2=>F (x::vs) h2 else .no
    | _=>.no
   | _=>.no):=λι φ h σ H Q f r p=>
 ha ι φ h σ H _ f r (p.bind λx h1 ι1 u s A j k d=>by
  cases x with
  | ref n=>
   let(a,B,rfl):=id k;dsimp only at d;try simp only[jm,jY,jS,jH,jN,jQ,jT,jU,jX,jV,jW]at d
   split at d
   .rename_i C fs e;split at d
    .rename_i c;rw[cn]at c;let(I,b,hx,o,_):=j.obj n a _ B e;have w:b.lookup mn=none:=by
      have key:∀(i b:List (Str × V)),b.map (·.1)=i.map (·.1)->(i.lookup mn).isNone=true->b.lookup mn=none:=by
       intro i;induction i with
       | nil=>intro b e _;cases b with
        | nil=>rfl
        | cons=>cases e
       | cons q i ih=>
        intro b e g;cases b with
        | nil=>cases e
        | cons y b=>
         rw[hV,hV]at e;let(z,v):=List.cons.inj e;rw[ko]at g ⊢;rw[z];cases hb:mn == q.1 with
         | true=>rw[hb]at g;cases g
         | false=>rw[hb]at g;show ih b v g
      show key fs b o c.2
     show(a,_,I,b,rfl,hx,hcl C c.1,w,hA ι1 φ h1 σ s _ (f.mono A) j (d.bind λvs h2 ι2 D J G l t m=>⟨R.Pr,R.D0,ι2, .ref n::vs,h2,⟨.ref a,D,rfl,k.mono G,t⟩,l,m⟩))
    .show d.elim
   .show d.elim
  | _=>show d.elim)
end
end
end Rn
namespace Rn
open L2 PySem
noncomputable section
section
variable{R:Run}{E:XK}{ι ι':List Addr}{φ σ : L2.St}{h h':CH}{H H':Hp}
theorem nZ{n:Nat}{xs:List V}{a:Addr}(r:HR R ι h H)(hn : ι[n]?=some a)(e:h[n]?=some (.lst xs)):∃ ys,H a=some (.lst ys)/\LA ι xs ys:=r.obj n a _ hn e
theorem rz{n:Nat}{xs:List V}{a:Addr}(r:HR R ι h H)(hn : ι[n]?=some a)(e:(h[n]?).bind CO.seqT=some xs):∃ ys,mQ R.K H a ys/\LA ι xs ys:=by
 cases c:h[n]? with
 | none=>rw[c]at e;cases e
 | some o=>rw[c]at e;show(r.obj n a o hn c).sqT e
theorem nM{xs ys:List V}{i:Nat}{x:V}(l:LA ι xs ys)(e:xs[i]?=some x):∃ y,ys[i]?=some y/\RV ι x y:=ju.get l e
def xb(x y:V)(h:CH):Out V:=match x,y with
 | .int i, .int j=>.ok (.int (i+j)) h
 | .str i, .str j=>if iO (i.length+j.length) 10000 then .ok (.str (i++j)) h else .no
 | .ref a, .ref b=>match kr h a,kr h b with
  | some (.lst xs),some (.lst ys)=>if iO (xs.length+ys.length) 1000 then nk (.lst (xs++ys)) h else .no
  | _,_=>.no
 | _,_=>.no
theorem nW:S2 R E (pk R.K) xb:=λι h H x y A w Q r b a p=>by
 unfold xb at p;try simp only[jm,jY,jS,jH,jN,jQ,jT,jU,jX,jV,jW]at p
 split at p
 .cases b;cases a;show p.ok r rfl
 .cases b;cases a;split at p
  .rename_i c;show(?_,p.ok r rfl);have:=cm c;have : (10000:Nat)<=sizeLine:=by decide
   ac_nf
  .show p.elim
 .let(k,s,rfl):=b;let(i,j,rfl):=a;split at p
  .rename_i v u n l;split at p
   .rename_i c;let(g,t,f):=nZ r s n;let(d,o,e):=nZ r j l;have B:=f.length;have z:=e.length;have:=cm c;have : (1000:Nat)<=sizeLine:=by decide
    show .inl ⟨k,i,g,d,rfl,rfl,t,o,∅,λq m=>p3 p r m ⟨g++d,md,RVs.mono ⟨[q],rfl⟩ (ju.append f e)⟩⟩
   .show p.elim
  .show p.elim
 .show p.elim
def bits(i:Int):Bool:=iO (Nat.log2 i.natAbs) 2000
def qX(ok:Int->Int->Bool)(g:Int->Int->V)(x y:V)(h:CH):Out V:=match x,y with
 | .int i, .int j=>if ok i j then .ok (g i j) h else .no
 | _,_=>.no
theorem AH{i:Int}(h:bits i=true):Mth.Sz 2001 i:=by
 have a:=cm h;unfold Mth.Sz;show gv Nat.lt_log2_self (Nat.pow_le_pow_right ⋯ ∅)
theorem zR{ok:Int->Int->Bool}{g:Int->Int->V}{r:R2}(hg:∀ i j,V.free (g i j)=true)(hr:∀ i j (H:Hp) (Q:VK),ok i j=true->Q (g i j) H->r (.int i) (.int j) H Q):S2 R E r (qX ok g):=λι h H x y d e Q r a b p=>by
 unfold qX at p;try simp only[jm,jY,jS,jH,jN,jQ,jT,jU,jX,jV,jW]at p
 split at p
 .cases a;cases b;split at p
  .rename_i c;show hr _ _ H Q c (p.ok r (RV.free (hg _ _)))
  .show p.elim
 .show p.elim
theorem qA:S2 R E vb (qX (λ_ j=>bits j&&!(j == 0)) λi j=>.int (i.fdiv j)):=zR (λ_ _=>rfl) λi j H Q c q=>by
 rw[cn,kF,beq_eq_false_iff_ne]at c;show(ug (n:=2001) c.2 (AH c.1),q)
theorem Hj:S2 R E rModU (qX (λ_ j=>!(j == 0)) λi j=>.int (i.fmod j)):=zR (λ_ _=>rfl) λi j H Q c q=>by
 rw[kF,beq_eq_false_iff_ne]at c;show(c,q)
theorem qz{p:Int->Int->Bool}:S2 R E (oz p) (qX (λ_ _=>true) λi j=>.bl (p i j)):=zR (λ_ _=>rfl) λi j H Q c q=>q
theorem Qp{g:Int->Int->V}(hg:∀ i j,V.free (g i j)=true):S2 R E (rR g) (qX (λ_ _=>true) g):=zR hg λi j H Q c q=>⟨i,j,rfl,rfl,q⟩
theorem wW{g:Int->V}(hg:∀ i,V.free (g i)=true):S1 R E (rU g) (λx h=>match x with | .int i=>.ok (g i) h | _=>.no):=λι h H x b Q r a p=>by
 cases x with
 | int i=>cases a;show(i,rfl,p.ok r (RV.free (hg i)))
 | _=>show p.elim
def w6(x y:V)(h:CH):Out V:=match x,y with
 | .int i, .int j=>if bits i&&bits j then .ok (.int (i*j)) h else .no
 | .str z, .int n=>if decide (0<=n)&&decide (n<1000)&&iO z.length 1000 then .ok (.str ⟨((gB n.toNat z.cps.toList).flatten).toArray⟩) h else .no
 | _,_=>.no
theorem rp:S2 R E rMul0 w6:=λι h H x y f g Q r a d p=>by
 unfold w6 at p;try simp only[jm,jY,jS,jH,jN,jQ,jT,jU,jX,jV,jW]at p
 split at p
 .cases a;cases d;split at p
  .rename_i c;rw[cn]at c;show mI _ _/\_;show(xw (AH c.1) (AH c.2),p.ok r rfl)
  .show p.elim
 .cases a;cases d;split at p
  .rename_i z n c;rw[cn,cn,decide_eq_true_eq,decide_eq_true_eq]at c;show(c.1.1,c.1.2,cm c.2,λb e=>?_);have : b=⟨((gB n.toNat z.cps.toList).flatten).toArray⟩:=by
    cases b with
    | mk cps=>
     congr 1
     rw[<- e]
   rw[this];show p.ok r rfl
  .show p.elim
 .show p.elim
theorem FK{x x':V}(l:RV ι x x'):decide (x'=.non)=decide (x=.non):=by
 cases x with
 | ref n=>let(a,_,rfl):=l;rfl
 | _=>cases l;rfl
theorem qy:S2 R E rIsN (λx y h=>match y with | .non=>.ok (.bl (decide (x=.non))) h | _=>.no):=λι h H x y d c Q r a b p=>by
 cases y with
 | non=>cases b;show(rfl,by rw[FK a];show p.ok r rfl)
 | _=>show p.elim
theorem wX:S2 R E rNotN (λx y h=>match y with | .non=>.ok (.bl (!decide (x=.non))) h | _=>.no):=λι h H x y d c Q r a b p=>by
 cases y with
 | non=>cases b;show(rfl,by rw[FK a];show p.ok r rfl)
 | _=>show p.elim
def DZ(x y:V)(h:CH):Out V:=match x,y with
 | .ref n, .int i=>match kr h n with
  | some (.lst xs)=>match qo xs i with
   | some v=>.ok v h
   | none=>.no
  | some o=>match o.seqT with
   | some xs=>match qo xs i with
    | some v=>.ok v h
    | none=>.no
   | none=>.no
  | none=>.no
 | .str z, .int i=>match qo z.cps.toList i with
  | some c=>if iO z.length 10000 then .ok (.str ⟨#[c]⟩) h else .no
  | none=>.no
 | _,_=>.no
theorem wj{xs ys:List V}{i:Int}{x:V}(l:LA ι xs ys)(e:qo xs i=some x):∃ y,qo ys i=some y/\RV ι x y:=by
 unfold qo at e ⊢;try simp only[jm,jY,jS,jH,jN,jQ,jT,jU,jX,jV,jW]at e ⊢
 rw[l.length];cases c:uP xs.length i with
 | none=>rw[c]at e;cases e
 | some j=>rw[c]at e;show nM l e
theorem s_ix:S2 R E (qi R.K) DZ:=λι h H x y t s Q r m k p=>by
 unfold DZ at p;try simp only[jm,jY,jS,jH,jN,jQ,jT,jU,jX,jV,jW]at p
 split at p
 .let(a,l,rfl):=m;cases k;split at p
  .rename_i xs e;split at p
   .rename_i v b;let(i,j,g):=nZ r l e;let(w,d,f):=wj g b;show(i,w, .inl (jM.of j),d,p.ok r f)
   .show p.elim
  .rename_i o _ e;split at p
   .rename_i xs q;split at p
    .rename_i v b;let(i,j,g):=rz (xs:=xs) r l (by rw[e];show q);let(w,d,f):=wj g b;show(i,w, .inr j,d,p.ok r f)
    .show p.elim
   .show p.elim
  .show p.elim
 .cases m;cases k;split at p
  .rename_i c n;split at p
   .rename_i hb;have:=cm hb;have : (10000:Nat)<=sizeLine:=by decide
    show(c,∅,n,p.ok r rfl)
   .show p.elim
  .show p.elim
 .show p.elim
def w8(xs:List V)(h:CH):Out V:=match xs with
 | [.ref n]=>match kr h n with
  | some (.lst ys)=>.ok (.int ys.length) h
  | some o=>match o.seqT with
   | some ys=>.ok (.int ys.length) h
   | none=>.no
  | none=>.no
 | [.str z]=>if iO z.length 10000 then .ok (.int z.length) h else .no
 | _=>.no
theorem ny{ys:List V}(l:LA ι [] ys):ys=[]:=l
theorem mO{x:V}{xs ys:List V}(l:LA ι (x::xs) ys):∃ y zs,ys=y::zs/\RV ι x y/\LA ι xs zs:=l
theorem qV:SL R E (rP R.K) w8:=λι h H xs n Q r l p=>by
 unfold w8 at p;try simp only[jm,jY,jS,jH,jN,jQ,jT,jU,jX,jV,jW]at p
 split at p
 .let(u,m,rfl,f,b):=mO l;cases ny b;let(a,j,rfl):=f;split at p
  .rename_i i e;let(d,g,c):=nZ r j e;show(d, .inl (jM.of g),by rw[c.length];show p.ok r rfl)
  .rename_i o _ e;split at p
   .rename_i i k;let(d,g,c):=rz (xs:=i) r j (by rw[e];show k);show(d, .inr g,by rw[c.length];show p.ok r rfl)
   .show p.elim
  .show p.elim
 .let(u,m,rfl,f,b):=mO l;cases ny b;cases f;split at p
  .rename_i hb;have:=cm hb;have : (10000:Nat)<=sizeLine:=by decide
   show(∅,p.ok r rfl)
  .show p.elim
 .show p.elim
theorem Hi:SL R E rAbs (λxs h=>match xs with | [.int i]=>.ok (.int (if i<0 then -i else i)) h | _=>.no):=λι h H xs b Q r l p=>by
 dsimp only at p;try simp only[jm,jY,jS,jH,jN,jQ,jT,jU,jX,jV,jW]at p
 split at p
 .let(u,d,rfl,c,a):=mO l;cases ny a;cases c;show p.ok r rfl
 .show p.elim
end
end
end Rn
namespace Rn
open L2 PySem
noncomputable section
inductive jE where
 | nx (φ : L2.St) (h:CH) | rt (v:V) (h:CH) | bk (φ : L2.St) (h:CH) | ct (φ : L2.St) (h:CH) | exc (C:Nat) (od:Option Nat) (h:CH) | no
def Out.bindS{α : Type}:Out α->(α->CH->jE)->jE
 | .ok a h,k=>k a h
 | .exc C od h,_=>.exc C od h
 | .no,_=>.no
def i9(R:Run)(E:XK)(D:Ends)(ι : List Addr):jE->Prop
 | .nx φ h=>∀ ι' σ H,ι <+: ι'->HR R ι' h H->FR ι' φ σ->D.nx σ H
 | .bk φ h=>∀ ι' σ H,ι <+: ι'->HR R ι' h H->FR ι' φ σ->D.bk σ H
 | .ct φ h=>∀ ι' σ H,ι <+: ι'->HR R ι' h H->FR ι' φ σ->D.ct σ H
 | .rt v h=>∀ ι' u H,ι <+: ι'->HR R ι' h H->RV ι' v u->D.rt u H
 | .exc C od h=>∀ ι' oa H,ι <+: ι'->HR R ι' h H->va ι' od oa->E (.ref (R.cl C)) oa H
 | .no=>False
def nI(R:Run)(E:XK)(t:TS)(f:L2.St->CH->jE):Prop:=∀ ι φ h σ H D,FR ι φ σ->HR R ι h H->i9 R E D ι (f φ h)->t D σ H
section
variable{R:Run}{E:XK}{ι ι':List Addr}{φ σ : L2.St}{h h':CH}{H H':Hp}{α β : Type}{D:Ends}
theorem i9.mono{o:jE}(p : ι <+: ι')(q:i9 R E D ι o):i9 R E D ι' o:=by
 cases o with
 | no=>show q
 | _=>showλι2 u H a=>q ι2 u H (p.trans a)
theorem i9.bind{L:List Addr->α->β->Prop}{Q1 : β->Hp->Prop}{o:Out α}{k : α->CH->jE}(p:i9 R E D ι (o.bindS k))
  (c:∀ v h ι1 u H1,ι <+: ι1->HR R ι1 h H1->L ι1 v u->i9 R E D ι1 (k v h)->Q1 u H1):post R E L ι Q1 o:=by
 cases o with
 | ok v h=>showλι1 u H1 a r l=>c v h ι1 u H1 a r l (i9.mono a p)
 | exc C od h=>show p
 | no=>show p.elim
theorem i9.nx(p:i9 R E D ι (.nx φ h))(r:HR R ι h H)(f:FR ι φ σ):D.nx σ H:=p ι σ H (iS _) r f
theorem i9.rt{v u:V}(p:i9 R E D ι (.rt v h))(r:HR R ι h H)(f:RV ι v u):D.rt u H:=p ι u H (iS _) r f
theorem sNext:nI R E tNext (λφ h=>.nx φ h):=λι φ h σ H D f r p=>p.nx r f
def qB(a b:L2.St->CH->jE):L2.St->CH->jE:=λφ h=>match a φ h with
 | .nx φ1 h1=>b φ1 h1
 | o=>o
theorem iy{t u:TS}{fa fb:L2.St->CH->jE}(ha:nI R E t fa)(hb:nI R E u fb):nI R E (lY t u) (qB fa fb):=λι φ h σ H D f r p=>by
 show ha ι φ h σ H { D with nx:=u D } f r ?_;unfold qB at p;try simp only[jm,jY,jS,jH,jN,jQ,jT,jU,jX,jV,jW]at p
 cases e:fa φ h with
 | nx φ1 h1=>
  rw[e]at p;showλι1 σ1 b a c d=>hb ι1 φ1 h1 σ1 b D d c (i9.mono a p)
 | _=>rw[e]at p;show p
theorem ma{te:TE}{fe:L2.St->CH->Out V}(he:Sm R E LE te fe):nI R E (qE te) (λφ h=>(fe φ h).bindS λ_ h1=>.nx φ h1):=λι φ h σ H D f r p=>
 he ι φ h σ H _ f r (p.bind λx h1 ι1 u d a b e c=>c.nx b (f.mono a))
theorem g6{te:TE}{fe:L2.St->CH->Out V}(he:Sm R E LE te fe):nI R E (o4 te) (λφ h=>(fe φ h).bindS λv h1=>.rt v h1):=λι φ h σ H D f r p=>
 he ι φ h σ H _ f r (p.bind λx h1 ι1 u e d a c b=>b.rt a c)
theorem l0{c:TT}{t u:TS}{fc:L2.St->CH->Out Bool}{fa fb:L2.St->CH->jE}(hc:Sm R E LB c fc)(ha:nI R E t fa)(hb:nI R E u fb):nI R E (o5 c t u) (λφ h=>(fc φ h).bindS λk h1=>if k then fa φ h1 else fb φ h1):=λι φ h σ H D f r p=>
 hc ι φ h σ H _ f r (p.bind λk h1 ι1 u b a d g e=>by
  subst g;cases u with
  | true=>show ha ι1 φ h1 σ b _ (f.mono a) d e
  | false=>show hb ι1 φ h1 σ b _ (f.mono a) d e)
def rq(R:Run)(E:XK)(g:TG)(f:V->L2.St->CH->Out L2.St):Prop:=∀ ι h H v u φ σ Q,HR R ι h H->RV ι v u->FR ι φ σ->post R E FR ι Q (f v φ h)->g u σ H Q
def tu(R:Run)(E:XK)(g:rk)(f:List V->L2.St->CH->Out L2.St):Prop:=∀ ι h H v u φ σ Q,HR R ι h H->LA ι v u->FR ι φ σ->post R E FR ι Q (f v φ h)->g u σ H Q
theorem FR.set{v u:V}(f:FR ι φ σ)(l:RV ι v u)(i:Nat):FR ι (φ.set i (some v)) (σ.set i (some u)):=⟨by rw[jO,jO];show f.1,λj w q=>by
 by_cases c:j=i
 .subst c;have a:=(cb.mp q).1;rw[jO]at a;rw[ij a]at q;cases q;show(u,by rw[ij (by rw[<- f.1];show a)],l)
 .rw[hU (λz=>c z.symm)]at q ⊢;show f.2 j w q⟩
theorem FR.unset(f:FR ι φ σ)(i:Nat)(o:Option V):FR ι (φ.set i none) (σ.set i o):=⟨by rw[jO,jO];show f.1,λj w q=>by
 by_cases c:j=i
 .subst c;have a:=(cb.mp q).1;rw[jO]at a;rw[ij a]at q;cases q
 .rw[hU (λz=>c z.symm)]at q ⊢;show f.2 j w q⟩
theorem kg{i:Nat}:rq R E (nN i) (λv φ h=>.ok (φ.set i (some v)) h):=λι h H v u φ σ Q r l f p=>p.ok r (f.set l i)
theorem gsNil:tu R E gNil (λvs φ h=>match vs with | []=>.ok φ h | _=>.no):=λι h H v u φ σ Q r l f p=>by
 cases v with
 | nil=>cases ny l;show(rfl,p.ok r f)
 | cons=>show p.elim
theorem qN{g:TG}{gs:rk}{fg:V->L2.St->CH->Out L2.St}{fs:List V->L2.St->CH->Out L2.St}(hg:rq R E g fg)(hs:tu R E gs fs):tu R E (qI g gs) (λvs φ h=>match vs with | v::r=>(fg v φ h).bind λφ1 h1=>fs r φ1 h1 | []=>.no):=λι h H v u φ σ Q r l f p=>by
 cases v with
 | nil=>show p.elim
 | cons x xs=>
  let(y,a,rfl,k,i):=mO l;show(y,a,rfl,hg ι h H x y φ σ _ r k f (post.bind p λφ1 h1 ι1 σ1 d j e c b=>hs ι1 h1 d xs a φ1 σ1 Q e (RVs.mono j i) c b))
theorem oS{n:Nat}{gs:rk}{fs:List V->L2.St->CH->Out L2.St}(hs:tu R E gs fs):rq R E (uR R.K n gs) (λv φ h=>match v with
  | .ref k=>match(kr h k).bind CO.seqT with
   | some xs=>if cj xs.length n then fs xs φ h else .no
   | none=>.no
  | _=>.no):=λι h H v u φ σ Q r l f p=>by
 cases v with
 | ref k=>
  let(a,g,rfl):=l;dsimp only at p;try simp only[jm,jY,jS,jH,jN,jQ,jT,jU,jX,jV,jW]at p
  split at p
  .rename_i xs e;split at p
   .rename_i c;let(d,i,b):=rz r g e;show(a,d,rfl,i,by rw[b.length];show bN c,hs ι h H xs d φ σ Q r b f p)
   .show p.elim
  .show p.elim
 | _=>show p.elim
theorem nK{te:TE}{g:TG}{fe:L2.St->CH->Out V}{fg:V->L2.St->CH->Out L2.St}(he:Sm R E LE te fe)(hg:rq R E g fg):nI R E (oQ te g) (λφ h=>(fe φ h).bindS λv h1=>(fg v φ h1).bindS λφ2 h2=>.nx φ2 h2):=λι φ h σ H D f r p=>
 he ι φ h σ H _ f r (p.bind λx h1 ι1 u d i e k c=>hg ι1 h1 d x u φ σ _ e k (f.mono i) (c.bind λφ2 h2 ι2 σ2 l m a j b=>b.nx a j))
def oN(fb:L2.St->CH->jE)(ih:L2.St->CH->jE):L2.St->CH->jE:=λφ h=>match fb φ h with
 | .nx φ1 h1=>ih φ1 h1
 | .ct φ1 h1=>ih φ1 h1
 | .bk φ1 h1=>.nx φ1 h1
 | o=>o
def Ap(fc:L2.St->CH->Out Bool)(fb:L2.St->CH->jE)(n:Nat):L2.St->CH->jE :=
 Nat.rec (motive:=λ_=>L2.St->CH->jE) (λ_ _=>.no) (λ_ ih φ h=>(fc φ h).bindS λk h1=>if k then oN fb ih φ h1 else .nx φ h1) n
theorem E9{tb:TS}{fb ih:L2.St->CH->jE}(hb:nI R E tb fb)(f:FR ι φ σ)(r:HR R ι h H)(p:i9 R E D ι (oN fb ih φ h)) :
  tb { D with nx:=λσ' H'=>∃ ι' φ' h',ι <+: ι'/\FR ι' φ' σ'/\HR R ι' h' H'/\i9 R E D ι' (ih φ' h'),ct:=λσ' H'=>∃ ι' φ' h',ι <+: ι'/\FR ι' φ' σ'/\HR R ι' h' H'/\i9 R E D ι' (ih φ' h'),bk:=D.nx } σ H:=by
 show hb ι φ h σ H _ f r ?_;unfold oN at p;try simp only[jm,jY,jS,jH,jN,jQ,jT,jU,jX,jV,jW]at p
 cases e:fb φ h with
 | nx φ1 h1=>rw[e]at p;showλι1 σ1 d a b c=>⟨ι1,φ1,h1,a,c,b,i9.mono a p⟩
 | ct φ1 h1=>rw[e]at p;showλι1 σ1 d a b c=>⟨ι1,φ1,h1,a,c,b,i9.mono a p⟩
 | bk φ1 h1=>rw[e]at p;show p
 | _=>rw[e]at p;show p
theorem vQ{c:TT}{tb:TS}{fc:L2.St->CH->Out Bool}{fb:L2.St->CH->jE}(n:Nat)(hc:Sm R E LB c fc)(hb:nI R E tb fb):nI R E (EG c tb) (Ap fc fb n):=λι φ h σ H D f r p=>by
 show(λm σ H=>∃ ι φ h,FR ι φ σ/\HR R ι h H/\i9 R E D ι (Ap fc fb m φ h),⟨n,ι,φ,h,f,r,p⟩,?_);intro m σ H z_;let(ι,φ,h,f,r,p):=z_;cases m with
 | zero=>show p.elim
 | succ m=>
  show hc ι φ h σ H _ f r (i9.bind (k:=λk a=>if k then oN fb (Ap fc fb m) φ a else .nx φ a) p λk a ι1 u s e d o b=>?_);subst o;cases u with
  | true=>show(_,λσ' q ⟨ι',φ',g,_,l,i,j⟩=>⟨m,jI m,ι',φ',g,l,i,j⟩,E9 hb (f.mono e) d b)
  | false=>show b.nx d (f.mono e)
inductive pA where
 | stop | item (v:V) (h:CH) | no
def oJ(R:Run)(ι0:List Addr)(J:It)(nx:Nat->CH->pA):Prop:=∀ i ι h H,ι0 <+: ι->HR R ι h H->match nx i h with
 | .stop=>J.stop i H
 | .item v h'=>J.go i H/\∀ x H',J.yld i H x H'->∃ ι',ι <+: ι'/\HR R ι' h' H'/\RV ι' v x
 | .no=>True
def qY(nx:Nat->CH->pA)(fg:V->L2.St->CH->Out L2.St)(fb:L2.St->CH->jE)(n:Nat):Nat->L2.St->CH->jE :=
 Nat.rec (motive:=λ_=>Nat->L2.St->CH->jE) (λ_ _ _=>.no) (λ_ ih i φ h=>match nx i h with
  | .stop=>.nx φ h
  | .item v h1=>(fg v φ h1).bindS λφ2 h2=>oN fb (ih (i+1)) φ2 h2
  | .no=>.no) n
theorem tY{J:It}{g:TG}{tb:TS}{nx:Nat->CH->pA}{fg:V->L2.St->CH->Out L2.St}{fb:L2.St->CH->jE}(n:Nat)(hJ:oJ R ι J nx)(hg:rq R E g fg)(hb:nI R E tb fb)(f:FR ι φ σ)(r:HR R ι h H)(p:i9 R E D ι (qY nx fg fb n 0 φ h)):B2 J g tb D σ H:=by
 show(λi m σ H=>∃ ι' φ h,ι <+: ι'/\FR ι' φ σ/\HR R ι' h H/\i9 R E D ι' (qY nx fg fb m i φ h),⟨n,ι,φ,h,iS _,f,r,p⟩,?_);intro i m σ H z_;let(ι1,φ,h,u,f,r,p):=z_;cases m with
 | zero=>show p.elim
 | succ m=>
  have q:i9 R E D ι1 (match nx i h with
   | .stop=>.nx φ h
   | .item v h1=>(fg v φ h1).bindS λφ2 L=>oN fb (qY nx fg fb m (i+1)) φ2 L
   | .no=>.no):=p
  have d:=hJ i ι1 h H u r;cases e:nx i h with
  | stop=>rw[e]at q d;show .inl ⟨d,q.nx r f⟩
  | no=>rw[e]at q;show q.elim
  | item v h1=>
   rw[e]at q d;show .inr ⟨d.1,λσ' c=>∃ ι' φ' k,ι1 <+: ι'/\FR ι' φ' σ'/\HR R ι' k c/\i9 R E D ι' (qY nx fg fb m (i+1) φ' k),λσ' c ⟨ι',φ',k,b,I,C,G⟩=>⟨m,jI m,ι',φ',k,u.trans b,I,C,G⟩,λx c y=>?_⟩;let(ι2,b,A,B):=d.2 x c y;show hg ι2 h1 c v x φ σ _ A B (f.mono b) (i9.bind (i9.mono b q) λφ3 w ι3 σ3 K s z t a=>?_);have:=E9 hb t z a;show hb ι3 φ3 w σ3 K _ t z ?_;unfold oN at a;try simp only[jm,jY,jS,jH,jN,jQ,jT,jU,jX,jV,jW]at a
   cases e3:fb φ3 w with
   | nx φ4 h4=>rw[e3]at a;showλι4 σ4 F j l o=>⟨ι4,φ4,h4,b.trans (s.trans j),o,l,i9.mono j a⟩
   | ct φ4 h4=>rw[e3]at a;showλι4 σ4 F j l o=>⟨ι4,φ4,h4,b.trans (s.trans j),o,l,i9.mono j a⟩
   | bk φ4 h4=>rw[e3]at a;show a
   | _=>rw[e3]at a;show a
theorem vf{α : Type}{xs:List α}{i:Nat}(h:xs[i]?=none):xs.length<=i:=by
 rcases Nat.lt_or_ge i xs.length with c | c
 .rw[b7 c]at h;cases h
 .show c
end
end
end Rn
namespace Rn
open L2 PySem
noncomputable section
abbrev LI(R:Run):List Addr->(Nat->CH->pA)->It->Prop:=λι nx J=>oJ R ι J nx
section
variable{R:Run}{E:XK}{ι ι':List Addr}{φ σ : L2.St}{h h':CH}{H H':Hp}{D:Ends}
def z8(n:Nat)(i:Nat)(h:CH):pA:=match kr h n with
 | some (.lst xs)=>match xs[i]? with
  | some v=>.item v h
  | none=>.stop
 | _=>.no
def z5(n:Nat)(i:Nat)(h:CH):pA:=match(kr h n).bind CO.seqT with
 | some xs=>match xs[i]? with
  | some v=>.item v h
  | none=>.stop
 | none=>.no
theorem IU{n:Nat}{a:Addr}(ea : ι[n]?=some a):oJ R ι (wU R.K a) (z8 n):=λi ι1 h H p r=>by
 unfold z8;simp only[jm];cases e:h[n]? with
 | none=>trivial
 | some o=>
  cases o with
  | lst xs=>
   let(b,d,f):=nZ r (ou p ea) e;dsimp only;cases c:xs[i]? with
   | none=>show(b,jM.of d,by rw[f.length];show vf c)
   | some v=>
    let(u,g,j):=nM f c;show(⟨b,u,jM.of d,g⟩,λx l ⟨k,y⟩=>by
     have:=y b (jM.of d);rw[g]at this;cases this;show(ι1,iS _,k ▸ r,j))
  | _=>trivial
theorem IQ{n:Nat}{a:Addr}(ea : ι[n]?=some a):oJ R ι (wR R.K a) (z5 n):=λi ι1 h H p r=>by
 unfold z5;simp only[jm];cases e:(h[n]?).bind CO.seqT with
 | none=>trivial
 | some xs=>
  let(b,d,f):=rz r (ou p ea) e;dsimp only;cases c:xs[i]? with
  | none=>show(b,d,by rw[f.length];show vf c)
  | some v=>
   let(u,g,j):=nM f c;show(⟨b,u,d,g⟩,λx l ⟨k,y⟩=>by
    have:=y b d;rw[g]at this;cases this;show(ι1,iS _,k ▸ r,j))
def zU(fe:L2.St->CH->Out V):L2.St->CH->Out (Nat->CH->pA):=λφ h=>(fe φ h).bind λv h1=>match v with
 | .ref n=>match kr h1 n with
  | some (.lst _)=>.ok (z8 n) h1
  | some o=>match o.seqT with
   | some _=>.ok (z5 n) h1
   | none=>.no
  | none=>.no
 | _=>.no
theorem mY{te:TE}{fe:L2.St->CH->Out V}(he:Sm R E LE te fe):Sm R E (LI R) (ti R.K te) (zU fe):=λι φ h σ H Q f r p=>
 he ι φ h σ H _ f r (post.bind p λv q ι1 u l m c k b=>by
  cases v with
  | ref n=>
   let(a,d,rfl):=k;dsimp only at b;try simp only[jm,jY,jS,jH,jN,jQ,jT,jU,jX,jV,jW]at b
   split at b
   .rename_i xs e;let(g,i,_):=nZ c d e;show(a,rfl, .inl ⟨⟨g,jM.of i⟩,b.ok c (IU d)⟩)
   .rename_i o _ e;split at b
    .rename_i xs j;let(g,i,_):=rz (xs:=xs) c d (by rw[e];show j);show(a,rfl, .inr ⟨⟨g,i⟩,b.ok c (IQ d)⟩)
    .show b.elim
   .show b.elim
  | _=>show b.elim)
def z7(lo:Int)(n:Nat)(i:Nat)(h:CH):pA:=if mK i n then .item (.int (lo+i)) h else .stop
theorem IS{lo:Int}{n:Nat}:oJ R ι (so lo n) (z7 lo n):=λi ι1 h H p r=>by
 unfold z7;try simp only[jm]
 cases c:mK i n with
 | true=>
  have:=cm c;show(this,λx d ⟨b,a⟩=>⟨ι1,iS _,b ▸ r,a⟩)
 | false=>
  show n<=i;rcases Nat.lt_or_ge i n with z | z
  .have : mK i n=true:=Nat.ble_eq_true_of_le z;rw[c]at this;cases this
  .show z
theorem KG{ta:TA}{fa:L2.St->CH->Out (List V)}(ha:Sm R E LA ta fa):Sm R E (LI R) (qH ta) (λφ h=>(fa φ h).bind λvs h1=>match vs with
  | [.int j]=>if decide (0<=j)&&decide (j<1000000)then .ok (z7 0 j.toNat) h1 else .no
  | _=>.no):=λι φ h σ H Q f r p=>
 ha ι φ h σ H _ f r (post.bind p λvs h1 ι1 m i l d g a=>by
  split at a
  .rename_i j;let(u,k,rfl,e,b):=mO g;cases ny b;cases e;split at a
   .rename_i c;rw[cn,decide_eq_true_eq,decide_eq_true_eq]at c;show(j,rfl,∅,∅,a.ok d IS)
   .show a.elim
  .show a.elim)
def z6(z:Str)(i:Nat)(h:CH):pA:=match z.cps[i]? with
 | some c=>.item (.str ⟨#[c]⟩) h
 | none=>if cj i z.cps.size then .stop else .no
theorem IR{z:Str}:oJ R ι (zP z) (z6 z):=λi ι1 h H p r=>by
 unfold z6;try simp only[jm]
 cases c:z.cps[i]? with
 | some k=>
  have d:i<z.cps.size:=(iu.mp c).1;show(d,λx j ⟨f,g,a,b⟩=>⟨ι1,iS _,f ▸ r,by rw[c]at a;cases a;show b⟩)
 | none=>
  dsimp only;cases e:cj i z.cps.size with
  | true=>show bN e
  | false=>trivial
theorem Fi{te:TE}{fe:L2.St->CH->Out V}(he:Sm R E LE te fe):Sm R E (LI R) (xH te) (λφ h=>(fe φ h).bind λv h1=>match v with
  | .str z=>.ok (z6 z) h1
  | _=>.no):=λι φ h σ H Q f r p=>
 he ι φ h σ H _ f r (post.bind p λv h1 ι1 u e d b c a=>by
  cases v with
  | str z=>cases c;show(z,rfl,a.ok b IR)
  | _=>show a.elim)
theorem kH{wi:TI}{g:TG}{tb:TS}{fi:L2.St->CH->Out (Nat->CH->pA)}{fg:V->L2.St->CH->Out L2.St}{fb:L2.St->CH->jE}(n:Nat)(hi:Sm R E (LI R) wi fi)(hg:rq R E g fg)(hb:nI R E tb fb) :
  nI R E (pU wi g tb) (λφ h=>(fi φ h).bindS λnx h1=>qY nx fg fb n 0 φ h1):=λι φ h σ H D f r p=>
 hi ι φ h σ H _ f r (i9.bind p λnx h1 ι1 J e a b d c=>tY n d hg hb (f.mono a) b c)
def oy(nx:Nat->CH->pA)(fg:V->L2.St->CH->Out L2.St)(ft:L2.St->CH->Out Bool)(fe:L2.St->CH->Out V)(φ : L2.St)(n:Nat):Nat->List V->CH->Out V :=
 Nat.rec (motive:=λ_=>Nat->List V->CH->Out V) (λ_ _ _=>.no) (λ_ ih i ys h=>if small ys then match nx i h with
  | .stop=>nk (.lst ys) h
  | .item v h1=>(fg v φ h1).bind λφ2 h2=>(ft φ2 h2).bind λb h3=>if b then(fe φ2 h3).bind λy h4=>ih (i+1) (ys++[y]) h4 else ih (i+1) ys h3
  | .no=>.no
  else .no) n
theorem y0{J:It}{k:Nat}{cs:List (Nat × Str)}{g:TG}{tt:TT}{te:TE}{nx:Nat->CH->pA}{fg:V->L2.St->CH->Out L2.St}{ft:L2.St->CH->Out Bool}{fe:L2.St->CH->Out V}{φ':L2.St}{Q:VK}(n:Nat)(hJ:oJ R ι J nx)(hg:rq R E g fg)(ht:Sm R E LB tt ft)(he:Sm R E LE te fe)
  (f:FR ι φ' (gB k none++n8 cs σ)) (r:HR R ι h H) (p:post R E LE ι Q (oy nx fg ft fe φ' n 0 [] h)):JH J k cs g tt te σ Q H:=by
 show(λi m A H=>∃ ι' c h,ι <+: ι'/\LA ι' c A/\HR R ι' h H/\post R E LE ι' Q (oy nx fg ft fe φ' m i c h),⟨n,ι,[],h,iS _,rfl,r,p⟩,?_);intro i m A H z_;let(ι1,c,h,s,u,r,p):=z_;cases m with
 | zero=>show p.elim
 | succ m=>
  have q:post R E LE ι1 Q (if small c then match nx i h with
   | .stop=>nk (.lst c) h
   | .item v h1=>(fg v φ' h1).bind λφ2 X=>(ft φ2 X).bind λb t=>if b then(fe φ2 t).bind λy z=>oy nx fg ft fe φ' m (i+1) (c++[y]) z else oy nx fg ft fe φ' m (i+1) c t
   | .no=>.no
   else .no):=p
  cases sm:small c with
  | false=>rw[sm]at q;show q.elim
  | true=>
   rw[sm,if_pos rfl]at q;show(wB sm u.length,?_);have j:=hJ i ι1 h H s r;cases e:nx i h with
   | no=>rw[e]at q;show q.elim
   | stop=>
    rw[e]at q j;show .inl ⟨j,λa Y=>p3 q r Y ⟨A,md,RVs.mono ⟨[a],rfl⟩ u⟩⟩
   | item v h1=>
    rw[e]at q j;show .inr ⟨j.1,λx G y=>?_⟩;let(ι2,d,I,M):=j.2 x G y;show hg ι2 h1 G v x φ' _ _ I M (f.mono (s.trans d)) (post.bind (post.mono d q) λφ3 t ι3 σ3 T o U D Z=>?_);show ht ι3 φ3 t σ3 T _ D U (post.bind Z λb z ι4 K N l F P C=>?_);subst P;cases K with
    | true=>show he ι4 φ3 z σ3 N _ (D.mono l) F (post.bind C λw W ι5 w' H6 B S L O=>⟨m,jI m,ι5,c++[w],W,s.trans (d.trans (o.trans (l.trans B))),ju.append (RVs.mono (d.trans (o.trans (l.trans B))) u) (ju.one L),S,O⟩)
    | false=>show(m,jI m,ι4,c,z,s.trans (d.trans (o.trans l)),RVs.mono (d.trans (o.trans l)) u,F,C)
def oO(k:Nat)(cs:List (Nat × Str))(φ : L2.St):L2.St:=gB k none++n8 cs φ
theorem FR.caps{k:Nat}{cs:List (Nat × Str)}(f:FR ι φ σ):FR ι (oO k cs φ) (gB k none++n8 cs σ):=by
 have key:∀ cs:List (Nat × Str),FR ι (n8 cs φ) (n8 cs σ):=λcs=>⟨by simp[n8],λi v q=>by
  unfold n8 at q ⊢;try simp only[jm,jY,jS,jH,jN,jQ,jT,jU,jX,jV,jW]at q ⊢
  rw[gG]at q ⊢;cases c:cs[i]? with
  | none=>rw[c]at q;cases q
  | some p=>
   rw[c]at q;have q:(φ[p.1]?).join=some v:=by simpa using q
   cases e : φ[p.1]? with
   | none=>rw[e]at q;cases q
   | some o=>
    rw[e]at q;have q:o=some v:=q;subst q;let(u,b,a):=f.2 p.1 v e;show(u,by simp[b],a)⟩
 show(by simp[oO,n8],λi v q=>?_);unfold oO at q;try simp only[jm,jY,jS,jH,jN,jQ,jT,jU,jX,jV,jW]at q
 by_cases c:i<k
 .rw[gZ (by simpa using c),jv,if_pos c]at q;cases q
 .rw[gU (by simpa using c)]at q ⊢;rw[List.length_replicate]at q ⊢;show(key cs).2 _ v q
theorem HF{wi:TI}{k:Nat}{cs:List (Nat × Str)}{g:TG}{tt:TT}{te:TE}{fi:L2.St->CH->Out (Nat->CH->pA)}{fg:V->L2.St->CH->Out L2.St}{ft:L2.St->CH->Out Bool}{fe:L2.St->CH->Out V}(n:Nat)(hi:Sm R E (LI R) wi fi)(hg:rq R E g fg)(ht:Sm R E LB tt ft)(he:Sm R E LE te fe) :
  Sm R E LE (ve k cs wi g tt te) (λφ h=>(fi φ h).bind λnx h1=>oy nx fg ft fe (oO k cs φ) n 0 [] h1):=λι φ h σ H Q f r p=>
 hi ι φ h σ H _ f r (post.bind p λnx h1 ι1 J e a b d c=>y0 n d hg ht he (f.mono a).caps b c)
theorem sTrue:Sm R E LB (λ_ H Q=>Q true H) (λ_ h=>.ok true h):=λι φ h σ H Q f r p=>p.ok r rfl
theorem mV{wi:TI}{k:Nat}{cs:List (Nat × Str)}{g:TG}{te:TE}{fi:L2.St->CH->Out (Nat->CH->pA)}{fg:V->L2.St->CH->Out L2.St}{fe:L2.St->CH->Out V}(n:Nat)(hi:Sm R E (LI R) wi fi)(hg:rq R E g fg)(he:Sm R E LE te fe) :
  Sm R E LE (qF k cs wi g te) (λφ h=>(fi φ h).bind λnx h1=>oy nx fg (λ_ h=>.ok true h) fe (oO k cs φ) n 0 [] h1):=λι φ h σ H Q f r p=>
 hi ι φ h σ H _ f r (post.bind p λnx h1 ι1 J e a b d c=>by
  have:=y0 (k:=k) (cs:=cs) (σ:=σ) n d hg sTrue he (f.mono a).caps b c;show this)
def uL(n m:Nat)(i:Nat)(h:CH):pA:=match(kr h n).bind CO.seqT with
 | some xs=>match kr h m with
  | some (.lst ys)=>match xs[i]? with
   | none=>.stop
   | some x=>match ys[i]? with
    | none=>.no
    | some y=>.item (.ref h.length) (h++[.tup [x,y]])
  | _=>.no
 | none=>.no
theorem xD{n m:Nat}{a b:Addr}(ea : ι[n]?=some a)(eb : ι[m]?=some b):oJ R ι (BY R.K a b) (uL n m):=λi ι1 h H p r=>by
 unfold uL;simp only[jm];cases e:(h[n]?).bind CO.seqT with
 | none=>trivial
 | some xs=>
   cases e2:h[m]? with
   | none=>trivial
   | some o2=>
    cases o2 with
    | lst ys=>
     let(d,f,s):=rz r (ou p ea) e;let(g,o,C):=nZ r (ou p eb) e2;dsimp only;cases c:xs[i]? with
     | none=>show(d,f,by rw[s.length];show vf c)
     | some x=>
      let(u,k,F):=nM s c;dsimp only;cases c2:ys[i]? with
      | none=>show trivial
      | some y=>
       let(w,l,G):=nM C c2;show(⟨d,g,u,w,f,jM.of o,k,l⟩,λv I ⟨q,L,J,B,z,E,A,D⟩=>by
        have j:=B d f;have t:=z g (jM.of o);rw[k]at j;rw[l]at t;cases j;cases t;subst A D;show(ι1++[q],⟨[q],rfl⟩,r.new E ⟨[u,w],md,⟨u,[w],rfl,F.mono ⟨[q],rfl⟩,w,[],rfl,G.mono ⟨[q],rfl⟩,rfl⟩⟩,q,by rw[<- r.len,gU (cB _)];simp,rfl))
    | _=>trivial
def uM(n m:Nat)(i:Nat)(h:CH):pA:=match kr h n with
 | some (.lst xs)=>match kr h m with
  | some (.lst ys)=>match xs[i]? with
   | none=>.stop
   | some x=>match ys[i]? with
    | none=>.stop
    | some y=>.item (.ref h.length) (h++[.tup [x,y]])
  | _=>.no
 | _=>.no
theorem xE{n m:Nat}{a b:Addr}(ea : ι[n]?=some a)(eb : ι[m]?=some b):oJ R ι (BX R.K a b) (uM n m):=λi ι1 h H p r=>by
 unfold uM;simp only[jm];cases e:h[n]? with
 | none=>trivial
 | some o=>
  cases o with
  | lst xs=>
   cases e2:h[m]? with
   | none=>trivial
   | some o2=>
    cases o2 with
    | lst ys=>
     let(g,j,z):=nZ r (ou p ea) e;let(d,f,k):=nZ r (ou p eb) e2;dsimp only;cases c:xs[i]? with
     | none=>show(g,d,jM.of j,jM.of f, .inl (by rw[z.length];show vf c))
     | some x=>
      let(u,s,G):=nM z c;dsimp only;cases c2:ys[i]? with
      | none=>show(g,d,jM.of j,jM.of f, .inr (by rw[k.length];show vf c2))
      | some y=>
       let(w,t,I):=nM k c2;show(⟨g,d,u,w,(jM.of j),jM.of f,s,t⟩,λv J ⟨q,M,L,D,B,F,C,E⟩=>by
        have l:=D g (jM.of j);have A:=B d (jM.of f);rw[s]at l;rw[t]at A;cases l;cases A;subst C E;show(ι1++[q],⟨[q],rfl⟩,r.new F ⟨[u,w],md,⟨u,[w],rfl,G.mono ⟨[q],rfl⟩,w,[],rfl,I.mono ⟨[q],rfl⟩,rfl⟩⟩,q,by rw[<- r.len,gU (cB _)];simp,rfl))
    | _=>trivial
  | _=>trivial
def wZ(fa:L2.St->CH->Out (List V))(t:Bool):L2.St->CH->Out (Nat->CH->pA):=λφ h=>(fa φ h).bind λvs h1=>match vs with
 | [.ref n, .ref m]=>match kr h1 m with
  | some (.lst _)=>if t then match(kr h1 n).bind CO.seqT with
    | some _=>.ok (uL n m) h1
    | none=>.no
   else match kr h1 n with
    | some (.lst _)=>.ok (uM n m) h1
    | _=>.no
  | _=>.no
 | _=>.no
theorem MV{ta:TA}{fa:L2.St->CH->Out (List V)}(ha:Sm R E LA ta fa):Sm R E (LI R) (ub R.K ta) (wZ fa true):=λι φ h σ H Q f r p=>
 ha ι φ h σ H _ f r (post.bind p λA B ι1 k y z d v c=>by
  split at c
  .let(u,q,rfl,o,l):=mO v;let(w,q,rfl,s,m):=mO l;cases ny m;let(a,j,rfl):=o;let(b,e,rfl):=s;split at c
   .rename_i g;rw[if_pos rfl]at c;split at c
    .rename_i i;rw[jm]at i g;let(k,x,_):=rz d j i;let(n,t,_):=nZ d e g;show(a,b,rfl,⟨k,x⟩,⟨n,jM.of t⟩,c.ok d (xD j e))
    .show c.elim
   .show c.elim
  .show c.elim)
theorem Ll{ta:TA}{fa:L2.St->CH->Out (List V)}(ha:Sm R E LA ta fa):Sm R E (LI R) (xG R.K ta) (wZ fa false):=λι φ h σ H Q f r p=>
 ha ι φ h σ H _ f r (post.bind p λA B ι1 k y z d v c=>by
  split at c
  .let(u,q,rfl,o,l):=mO v;let(w,q,rfl,s,m):=mO l;cases ny m;let(a,j,rfl):=o;let(b,e,rfl):=s;split at c
   .rename_i g;rw[if_neg (by simp)]at c;split at c
    .rename_i i;rw[jm]at i g;let(k,x,_):=nZ d j i;let(n,t,_):=nZ d e g;show(a,b,rfl,⟨k,jM.of x⟩,⟨n,jM.of t⟩,c.ok d (xE j e))
    .show c.elim
   .show c.elim
  .show c.elim)
def z9(n l:Nat)(i:Nat)(h:CH):pA:=if mK i l then match kr h n with
  | some (.lst xs)=>match xs[l-1-i]? with
   | some v=>.item v h
   | none=>.no
  | _=>.no
 else if cj i l then .stop else .no
theorem IT{n l:Nat}{a:Addr}(ea : ι[n]?=some a):oJ R ι (B1 R.K a l) (z9 n l):=λi ι1 h H p r=>by
 unfold z9;simp only[jm];cases c:mK i l with
 | true=>
  have k:i<l:=cm c;rw[if_pos rfl];cases e:h[n]? with
  | none=>trivial
  | some o=>
   cases o with
   | lst xs=>
    let(b,d,j):=nZ r (ou p ea) e;dsimp only;cases c2:xs[l-1-i]? with
    | none=>trivial
    | some v=>
     let(u,f,g):=nM j c2;show(⟨k,b,u,jM.of d,f⟩,λx q ⟨m,y⟩=>by
      have:=y b (jM.of d);rw[f]at this;cases this;show(ι1,iS _,m ▸ r,g))
   | _=>trivial
 | false=>
  rw[if_neg (by simp)];cases e:cj i l with
  | true=>show bN e
  | false=>trivial
theorem MW{te:TE}{fe:L2.St->CH->Out V}(he:Sm R E LE te fe):Sm R E (LI R) (rZ R.K te) (λφ h=>(fe φ h).bind λv h1=>match v with
  | .ref n=>match kr h1 n with
   | some (.lst xs)=>.ok (z9 n xs.length) h1
   | _=>.no
  | _=>.no):=λι φ h σ H Q f r p=>
 he ι φ h σ H _ f r (post.bind p λv h1 ι1 u l m c j b=>by
  cases v with
  | ref n=>
   let(a,d,rfl):=j;dsimp only at b;try simp only[jm,jY,jS,jH,jN,jQ,jT,jU,jX,jV,jW]at b
   split at b
   .rename_i xs e;let(i,k,g):=nZ c d e;show(a,i,rfl,jM.of k,by rw[g.length];show b.ok c (IT d))
   .show b.elim
  | _=>show b.elim)
end
end
end Rn
namespace Rn
open L2 PySem
noncomputable section
section
variable{R:Run}{E:XK}{ι ι':List Addr}{φ σ : L2.St}{h h':CH}{H H':Hp}{D:Ends}{κ : Type}
theorem wm{k : κ}{v:V}{xs ys:List (κ × V)}(l:nG ι ((k,v)::xs) ys):∃ u zs,ys=(k,u)::zs/\RV ι v u/\nG ι xs zs:=by
 let(a,e):=l;cases ys with
 | nil=>cases a
 | cons y zs=>
  rw[hV,hV]at a;let(i,g):=List.cons.inj a;let(u,r,b,h,f):=e;rw[hV]at b;let(c,d):=List.cons.inj b;show(u,zs,?_,h,g,by rw[d];show f);rw[<- c];have : y.1=k:=i;rw[<- this]
theorem vg{ys:List (κ × V)}(l:nG ι [] ys):ys=[]:=by
 cases ys with
 | nil=>rfl
 | cons=>cases l.1
theorem sE{k : κ}{v u:V}{xs zs:List (κ × V)}(l1:RV ι v u)(l:nG ι xs zs):nG ι ((k,v)::xs) ((k,u)::zs):=⟨by rw[hV,hV,l.1],⟨u,zs.map (·.2),rfl,l1,l.2⟩⟩
theorem wa{xs ys:List (κ × V)}(l:nG ι xs ys):ys.length=xs.length:=by
 have:=congrArg List.length l.1;simpa using this
theorem Jy{xs ys xs' ys':List (κ × V)}(l:nG ι xs ys)(l':nG ι xs' ys'):nG ι (xs++xs') (ys++ys'):=⟨by rw[List.map_append,List.map_append,l.1,l'.1],by rw[List.map_append,List.map_append];show ju.append l.2 l'.2⟩
variable[DecidableEq κ]
theorem x3{k : κ}:∀{xs ys:List (κ × V)},nG ι xs ys->(lB xs k=none/\lB ys k=none)\/∃ v u,lB xs k=some v/\lB ys k=some u/\RV ι v u:=by
 intro xs;induction xs with
 | nil=>intro ys l;cases vg l;show .inl ⟨rfl,rfl⟩
 | cons p xs ih=>
  let(a,v):=p;intro ys l;let(u,e,rfl,d,b):=wm l;by_cases c:a=k
  .show .inr ⟨v,u,wz c,wz c,d⟩
  .rw[wA (p:=(a,v)) c,wA (p:=(a,u)) c];show ih b
theorem y9{k : κ}{v u:V}{xs ys:List (κ × V)}(l:nG ι xs ys)(lv:RV ι v u):nG ι (putK xs k v) (putK ys k u):=by
 have b:(xs.any λa=>decide (a.1=k))=(ys.any λa=>decide (a.1=k)):=by
  rw[zh,zh];rcases x3 (k:=k) l with⟨e1,e2⟩ | ⟨_,_,e1,e2,_⟩ <;> rw[e1,e2] <;> rfl
 unfold putK;rw[b];split
 .have key:∀{xs ys:List (κ × V)},nG ι xs ys->nG ι (xs.map λa=>if a.1=k then(a.1,v)else a) (ys.map λa=>if a.1=k then(a.1,u)else a):=by
   intro xs;induction xs with
   | nil=>intro ys l;cases vg l;show(rfl,rfl)
   | cons p xs ih=>
    let(e,w):=p;intro ys l;let(h,g,rfl,f,d):=wm l;rw[hV,hV];by_cases c:e=k
    .rw[if_pos c,if_pos c];show sE lv (ih d)
    .rw[if_neg c,if_neg c];show sE f (ih d)
  show key l
 .show Jy l (sE lv ⟨rfl,rfl⟩)
theorem LY{k : κ}:∀{xs ys:List (κ × V)},nG ι xs ys->nG ι (og xs k) (og ys k):=by
 intro xs;induction xs with
 | nil=>intro ys l;cases vg l;show(rfl,rfl)
 | cons p xs ih=>
  let(b,w):=p;intro ys l;let(f,e,rfl,d,a):=wm l;unfold og;by_cases c:b=k
  .rw[List.filter_cons_of_neg (by simp[c]),List.filter_cons_of_neg (by simp[c])];show ih a
  .rw[List.filter_cons_of_pos (by simp[c]),List.filter_cons_of_pos (by simp[c])];show sE d (ih a)
end
section
variable{R:Run}{E:XK}{ι ι':List Addr}{φ σ : L2.St}{h h':CH}{H H':Hp}{D:Ends}
def keyOf:V->Option jz
 | .bl b=>some (.inl b)
 | .str z=>some (.inr z)
 | _=>none
theorem vx{y y':V}{k:jz}(l:RV ι y y')(e:keyOf y=some k):y'=kV k:=by
 cases y with
 | bl b=>cases e;show l
 | str z=>cases e;show l
 | _=>cases e
def keysOf:List V->Option (List jz)
 | []=>some []
 | v::vs=>match keyOf v,keysOf vs with
  | some k,some ks=>some (k::ks)
  | _,_=>none
theorem F9:∀{ys ys':List V}{ks:List jz},LA ι ys ys'->keysOf ys=some ks->ys'=ks.map kV:=by
 intro ys;induction ys with
 | nil=>intro ys' ks l e;cases ny l;cases e;rfl
 | cons y ys ih=>
  intro ys' ks l e;let(u,g,rfl,d,a):=mO l;unfold keysOf at e;try simp only[jm,jY,jS,jH,jN,jQ,jT,jU,jX,jV,jW]at e
  split at e
  .rename_i k b f c;cases e;rw[hV,vx d f,ih a c]
  .cases e
def oV(x y:V)(h:CH):Option (Option V):=match x with
 | .ref n=>match kr h n with
  | some (.dk kvs)=>(keyOf y).map λk=>sR kvs k
  | some (.fz kvs)=>(keyOf y).map λk=>sR kvs k
  | some (.dt kvs)=>match y with
   | .ref m=>match kr h m with
    | some (.tup ks)=>(keysOf ks).map λk=>lB kvs k
    | _=>none
   | _=>none
  | _=>none
 | _=>none
def RO(ι : List Addr)(o o':Option V):Prop:=match o with
 | none=>o'=none
 | some v=>∃ u,o'=some u/\RV ι v u
theorem ya{x y x' y':V}{o:Option V}(r:HR R ι h H)(lx:RV ι x x')(ly:RV ι y y')(e:oV x y h=some o):∃ a o',x'=.ref a/\vG H a/\m7 H a y' o'/\RO ι o o':=by
 have s:∀{κ : Type}[DecidableEq κ]{k : κ}{xs c:List (κ × V)},nG ι xs c->RO ι (lB xs k) (lB c k):=λ{κ} _ {k xs c} l=>by
  rcases x3 (k:=k) l with⟨g,d⟩ | ⟨v,u,g,d,l⟩
  .rw[g,d];rfl
  .rw[g,d];show(u,rfl,l)
 unfold oV at e;try simp only[jm,jY,jS,jH,jN,jQ,jT,jU,jX,jV,jW]at e
 cases x with
 | ref n=>
  let(a,w,rfl):=lx;dsimp only at e;try simp only[jm,jY,jS,jH,jN,jQ,jT,jU,jX,jV,jW]at e
  split at e
  .rename_i q j;let(c,i,p):=r.obj n a _ w j;let(k,g,d):=gK.mp e;subst d;rw[vx ly g];show(a,_,rfl, .inl ⟨c, .inl i⟩,m7.k i,s p)
  .rename_i q j;let(C,c,i,p):=r.obj n a _ w j;let(k,g,d):=gK.mp e;subst d;rw[vx ly g];show(a,_,rfl, .inl ⟨c, .inr ⟨C,i⟩⟩,m7.f i,s p)
  .rename_i q j;let(c,i,p):=r.obj n a _ w j;cases y with
   | ref m=>
    let(b,A,rfl):=ly;dsimp only at e;try simp only[jm,jY,jS,jH,jN,jQ,jT,jU,jX,jV,jW]at e
    split at e
    .rename_i F D;let(E,z,B):=r.obj m b _ A D;let(k,g,d):=gK.mp e;subst d;rw[F9 B g]at z;show(a,_,rfl, .inr ⟨c, .inl i⟩,m7.t i z,s p)
    .cases e
   | _=>cases e
  .cases e
 | _=>cases e
theorem kf{td ty:TE}{fd fy:L2.St->CH->Out V}(hd:Sm R E LE td fd)(hy:Sm R E LE ty fy):Sm R E LE (tW td ty) (λφ h=>(fd φ h).bind λx h1=>(fy φ h1).bind λy h2=>match oV x y h2 with
  | some (some v)=>.ok v h2
  | _=>.no):=λι φ h σ H Q f r p=>
 hd ι φ h σ H _ f r (post.bind p λx h1 ι1 u i n j s d=>hy ι1 φ h1 σ i _ (f.mono n) j (post.bind d λy h2 ι2 w z q c k b=>by
  split at b
  .rename_i v e;let(a,A,t,_,o,l,m,g):=ya c (s.mono q) k e;subst m;show(a,l,t,o,b.ok c g)
  .show b.elim))
theorem pV{td ty:TE}{fd fy:L2.St->CH->Out V}(hy:Sm R E LE ty fy)(hd:Sm R E LE td fd):Sm R E LE (xc ty td) (λφ h=>(fy φ h).bind λy h1=>(fd φ h1).bind λx h2=>match oV x y h2 with
  | some o=>.ok (.bl o.isSome) h2
  | none=>.no):=λι φ h σ H Q f r p=>
 hy ι φ h σ H _ f r (post.bind p λx h1 ι1 u j n k t i=>hd ι1 φ h1 σ j _ (f.mono n) k (post.bind i λy h2 ι2 w A s d l b=>by
  split at b
  .rename_i o e;let(a,c,z,_,q,g):=ya d l (t.mono s) e;show(a,c,z,q,?_);have : c.isSome=o.isSome:=by
    cases o with
    | none=>have : c=none:=g;rw[this]
    | some v=>let(B,m,_):=g;rw[m];rfl
   rw[this];show b.ok d rfl
  .show b.elim))
theorem tI{td ty:TE}{fd fy:L2.St->CH->Out V}(hy:Sm R E LE ty fy)(hd:Sm R E LE td fd):Sm R E LE (Fb ty td) (λφ h=>(fy φ h).bind λy h1=>(fd φ h1).bind λx h2=>match oV x y h2 with
  | some o=>.ok (.bl (!o.isSome)) h2
  | none=>.no):=λι φ h σ H Q f r p=>
 hy ι φ h σ H _ f r (post.bind p λx h1 ι1 u j n k t i=>hd ι1 φ h1 σ j _ (f.mono n) k (post.bind i λy h2 ι2 w A s d l b=>by
  split at b
  .rename_i o e;let(a,c,z,_,q,g):=ya d l (t.mono s) e;show(a,c,z,q,?_);have : c.isSome=o.isSome:=by
    cases o with
    | none=>have : c=none:=g;rw[this]
    | some v=>let(B,m,_):=g;rw[m];rfl
   rw[this];show b.ok d rfl
  .show b.elim))
theorem Fg{o o':Option V}{z z':V}(l:RO ι o o')(lz:RV ι z z'):RV ι (o.getD z) (o'.getD z'):=by
 cases o with
 | none=>have : o'=none:=l;rw[this];show lz
 | some v=>let(c,a,b):=l;rw[a];show b
def o6(x:V)(h:CH):Bool:=match x with
 | .ref n=>match kr h n with
  | some (.dk _)=>true
  | some (.fz _)=>true
  | some (.dt _)=>true
  | _=>false
 | _=>false
theorem zb{x x':V}(r:HR R ι h H)(lx:RV ι x x')(e:o6 x h=true):∃ a,x'=.ref a/\vG H a:=by
 unfold o6 at e;try simp only[jm,jY,jS,jH,jN,jQ,jT,jU,jX,jV,jW]at e
 cases x with
 | ref n=>
  let(a,g,rfl):=lx;dsimp only at e;try simp only[jm,jY,jS,jH,jN,jQ,jT,jU,jX,jV,jW]at e
  split at e
  .rename_i d b;let(c,f,_):=r.obj n a _ g b;show(a,rfl, .inl ⟨c, .inl f⟩)
  .rename_i d b;let(i,c,f,_):=r.obj n a _ g b;show(a,rfl, .inl ⟨c, .inr ⟨i,f⟩⟩)
  .rename_i d b;let(c,f,_):=r.obj n a _ g b;show(a,rfl, .inr ⟨c, .inl f⟩)
  .cases e
 | _=>cases e
theorem EB{td ty:TE}{fd fy:L2.St->CH->Out V}(hd:Sm R E LE td fd)(hy:Sm R E LE ty fy):Sm R E LE (Eu td ty) (λφ h=>(fd φ h).bind λx h1=>if o6 x h1 then(fy φ h1).bind λy h2=>match oV x y h2 with
  | some o=>.ok (o.getD .non) h2
  | none=>.no else .no):=λι φ h σ H Q f r p=>
 hd ι φ h σ H _ f r (post.bind p λx h1 ι1 u l n i j b=>by
  cases c:o6 x h1 with
  | false=>rw[c]at b;show b.elim
  | true=>
   rw[c,if_pos rfl]at b;let(a,rfl,t):=zb i j c;show(a,rfl,t,hy ι1 φ h1 σ l _ (f.mono n) i (post.bind b λy h2 ι2 w A s g m d=>by
    split at d
    .rename_i o e;let(B,v,z,_,q,k):=ya g (j.mono s) m e;cases z;show(v,q,d.ok g (Fg k rfl))
    .show d.elim)))
theorem HE{td ty tz:TE}{fd fy fz:L2.St->CH->Out V}(hd:Sm R E LE td fd)(hy:Sm R E LE ty fy)(hz:Sm R E LE tz fz):Sm R E LE (Et td ty tz) (λφ h=>(fd φ h).bind λx h1=>if o6 x h1 then(fy φ h1).bind λy h2=>(fz φ h2).bind λz h3=>match oV x y h3 with
  | some o=>.ok (o.getD z) h3
  | none=>.no else .no):=λι φ h σ H Q f r p=>
 hd ι φ h σ H _ f r (post.bind p λx h1 ι1 u t j i m b=>by
  cases c:o6 x h1 with
  | false=>rw[c]at b;show b.elim
  | true=>
   rw[c,if_pos rfl]at b;let(a,rfl,D):=zb i m c;show(a,rfl,D,hy ι1 φ h1 σ t _ (f.mono j) i (post.bind b λy h2 ι2 w v k n A q=>hz ι2 φ h2 σ v _ (f.mono (j.trans k)) n (post.bind q λz h3 ι3 J K g l s d=>by
    split at d
    .rename_i o e;let(I,F,G,_,C,B):=ya l (m.mono (k.trans g)) (A.mono g) e;cases G;show(F,C,d.ok l (Fg B s))
    .show d.elim))))
def uU(x y v:V)(h:CH):Option CH:=match x with
 | .ref n=>match kr h n with
  | some (.dk kvs)=>match keyOf y with
   | some k=>if small kvs then some (oo h n (.dk (rS kvs k v)))else none
   | none=>none
  | some (.dt kvs)=>match y with
   | .ref m=>match kr h m with
    | some (.tup ks)=>match keysOf ks with
     | some k=>if small kvs then some (oo h n (.dt (putK kvs k v)))else none
     | none=>none
    | _=>none
   | _=>none
  | _=>none
 | _=>none
theorem zi{α β : Type}{xs:List α}{ys:List β}(h:small xs=true)(e:ys.length=xs.length):ys.length<sizeLine:=by
 have : xs.length<=1000:=cm h;have : (1001:Nat)<=sizeLine:=by decide
 ac_nf
theorem KW{x y v x' y' v':V}(r:HR R ι h H)(lx:RV ι x x')(ly:RV ι y y')(lv:RV ι v v')(e:uU x y v h=some h'):∃ a H',x'=.ref a/\pM H a y' v' H'/\HR R ι h' H':=by
 unfold uU at e;try simp only[jm,jY,jS,jH,jN,jQ,jT,jU,jX,jV,jW]at e
 cases x with
 | ref n=>
  let(a,g,rfl):=lx;dsimp only at e;try simp only[jm,jY,jS,jH,jN,jQ,jT,jU,jX,jV,jW]at e
  split at e
  .rename_i j d;let(q,l,f):=r.obj n a _ g d;split at e
   .rename_i k i;split at e
    .rename_i c;cases e;rw[vx ly i];show(a,_,rfl,pM.k l (zi c (wa f)),r.put g d rfl ⟨_,md,y9 f lv⟩)
    .cases e
   .cases e
  .rename_i j d;let(q,l,f):=r.obj n a _ g d;cases y with
   | ref m=>
    let(b,s,rfl):=ly;dsimp only at e;try simp only[jm,jY,jS,jH,jN,jQ,jT,jU,jX,jV,jW]at e
    split at e
    .rename_i z p;let(w,o,u):=r.obj m b _ s p;split at e
     .rename_i k i;split at e
      .rename_i c;cases e;rw[F9 u i]at o;show(a,_,rfl,pM.t l o (zi c (wa f)),r.put g d rfl ⟨_,md,y9 f lv⟩)
      .cases e
     .cases e
    .cases e
   | _=>cases e
  .cases e
 | _=>cases e
theorem pe{td ty tv:TE}{fd fy fv:L2.St->CH->Out V}(hd:Sm R E LE td fd)(hy:Sm R E LE ty fy)(hv:Sm R E LE tv fv):nI R E (t4 td ty tv) (λφ h=>(fv φ h).bindS λv h1=>(fd φ h1).bindS λx h2=>(fy φ h2).bindS λy h3=>match uU x y v h3 with
  | some h4=>.nx φ h4
  | none=>.no):=λι φ h σ H D f r p=>
 hv ι φ h σ H _ f r (p.bind λv h1 ι1 u m c n B k=>hd ι1 φ h1 σ m _ (f.mono c) n (k.bind λx h2 ι2 w q d i s j=>hy ι2 φ h2 σ q _ (f.mono (c.trans d)) i (j.bind λy h3 ι3 F G b A l g=>by
  split at g
  .rename_i h4 e;let(a,z,C,t,o):=KW A (s.mono b) l (B.mono (d.trans b)) e;show(a,z,C,t,g.nx o (f.mono (c.trans (d.trans b))))
  .show g.elim)))
theorem p8:Sm R E LE Es (λ_ h=>nk (.dk []) h):=λι φ h σ H Q f r p a b=>p3 p r b ⟨[],md,rfl,rfl⟩
theorem HD:Sm R E LE Er (λ_ h=>nk (.dt []) h):=λι φ h σ H Q f r p a b=>p3 p r b ⟨[],md,rfl,rfl⟩
theorem zv{mn:Str}:∀{xs ys:List (Str × V)},nG ι xs ys->RO ι (xs.lookup mn) (ys.lookup mn):=by
 intro xs;induction xs with
 | nil=>intro ys l;cases vg l;rfl
 | cons p xs ih=>
  let(k,v):=p;intro ys l;let(u,d,rfl,b,a):=wm l;rw[ko,ko];cases c:mn == k with
  | true=>show(u,rfl,b)
  | false=>show ih a
theorem sFld{f:Str}{ta:TE}{fa:L2.St->CH->Out V}(cls:Nat->Bool)(hcl:∀ C,cls C=true->Cls R.K (R.cl C)/\kD R.K (R.cl C) f)(ha:Sm R E LE ta fa):Sm R E LE (uF R.K ta f) (λφ h=>(fa φ h).bind λx h1=>match x with
  | .ref n=>match kr h1 n with
   | some (.ins C fs)=>if cls C then match pw f fs with
     | some v=>.ok v h1
     | none=>.no
    else .no
   | _=>.no
  | _=>.no):=λι φ h σ H Q k r p=>
 ha ι φ h σ H _ k r (post.bind p λx h1 ι1 u z A g t b=>by
  cases x with
  | ref n=>
   let(a,o,rfl):=t;dsimp only at b;try simp only[jm,jY,jS,jH,jN,jQ,jT,jU,jX,jV,jW]at b
   split at b
   .rename_i C fs e;split at b
    .rename_i c;let(s,i,y,q):=g.obj n a _ o e;have d:=zv (mn:=f) q;split at b
     .rename_i v j;rw[j]at d;let(w,m,l):=d;show(a,_,s,i,w,rfl,y,(hcl C c).1,(hcl C c).2,m,b.ok g l)
     .show b.elim
    .show b.elim
   .show b.elim
  | _=>show b.elim)
theorem LX{f:Str}{v u:V}(lv:RV ι v u):∀{xs ys:List (Str × V)},nG ι xs ys->nG ι (m3 f v xs) (m3 f u ys):=by
 intro xs;induction xs with
 | nil=>intro ys l;cases vg l;show sE lv ⟨rfl,rfl⟩
 | cons p xs ih=>
  let(k,w):=p;intro ys l;let(e,d,rfl,b,a):=wm l;unfold m3;by_cases c:k=f
  .rw[if_pos c,if_pos c];show sE lv a
  .rw[if_neg c,if_neg c];show sE b (ih a)
theorem iV{f:Str}{ta tv:TE}{fa fv:L2.St->CH->Out V}(cls:Nat->Bool)(hcl:∀ C,cls C=true->Cls R.K (R.cl C)/\kD R.K (R.cl C) f)(ha:Sm R E LE ta fa)(hv:Sm R E LE tv fv):nI R E (L2.sFld R.K ta tv f) (λφ h=>(fv φ h).bindS λv h1=>(fa φ h1).bindS λx h2=>match x with
  | .ref n=>match kr h2 n with
   | some (.ins C fs)=>if cls C&&mK fs.length 900 then .nx φ (oo h2 n (.ins C (uJ f v fs)))else .no
   | _=>.no
  | _=>.no):=λι φ h σ H D d r p=>
 hv ι φ h σ H _ d r (p.bind λv h1 ι1 u s i t z q=>ha ι1 φ h1 σ s _ (d.mono i) t (q.bind λx h2 ι2 w B l g y b=>by
  cases x with
  | ref n=>
   let(a,j,rfl):=y;dsimp only at b;try simp only[jm,jY,jS,jH,jN,jQ,jT,jU,jX,jV,jW]at b
   split at b
   .rename_i C fs e;split at b
    .rename_i c;rw[cn]at c;let(m,o,A,k):=g.obj n a _ j e;have:=wa k;have : fs.length<900:=cm c.2;show(a,_,m,o,rfl,A,(hcl C c.1).1,(hcl C c.1).2,∅,b.nx (g.put j e rfl ⟨m,_,md,LX (z.mono l) k⟩) (d.mono (i.trans l)))
    .show b.elim
   .show b.elim
  | _=>show b.elim))
end
end
end Rn
namespace Rn
open L2 PySem
noncomputable section
section
variable{R:Run}{E:XK}{ι ι':List Addr}{φ σ : L2.St}{h h':CH}{H H':Hp}{D:Ends}
theorem vh{p:Addr}(r:HR R ι h H):(ι++[p])[h.length]?=some p:=by rw[<- r.len,gU (cB _)];simp
theorem xj{C:Nat}{dvs:List V}{F:List V->CH->Out V}{tA:TA}{fA:L2.St->CH->Out (List V)}(hd:dvs.all V.free=true)(hA:Sm R E LA tA fA) :
  Sm R E LE (oP (R.cl C) (i5 R.K R.cl R.cs F) dvs E tA) (λφ h=>(fA φ h).bind λvs h1=>(F (.ref h1.length::(vs++dvs)) (h1++[.ins C []])).bind λv h2=>match v with
   | .non=>.ok (.ref h1.length) h2
   | _=>.no):=λι φ h σ H Q f r p=>
 hA ι φ h σ H _ f r (post.bind p λvs h1 ι1 l j s e n i x c hx b o=>by
  have a:HR R (ι1++[x]) (h1++[.ins C []]) (upd (upd j c (.own x)) x (.ins (R.cl C) c [])):=(e.grow b).new (by rw[kk (iQ o)];show hx) ⟨c,[],md,rfl,rfl⟩;have g:=vh (p:=x) e;show(R.Pr,R.D0,ι1++[x], .ref h1.length::(vs++dvs),_,⟨.ref x,l++dvs,rfl,⟨x,g,rfl⟩,ju.append (RVs.mono ⟨[x],rfl⟩ n) (wq hd)⟩,a,?_);show post.bind (post.mono ⟨[x],rfl⟩ i) λv h2 ι2 u q m a k d=>?_;cases v with
  | non=>cases k;show(rfl,d.ok a ⟨x,ou m g,rfl⟩)
  | _=>show d.elim)
theorem HA{C:Nat}{tA:TA}{fA:L2.St->CH->Out (List V)}(hA:Sm R E LA tA fA):nI R E (yS E (R.cl C) tA) (λφ h=>(fA φ h).bindS λvs h1=>if small vs then .exc C none h1 else .no):=λι φ h σ H D f r p=>
 hA ι φ h σ H _ f r (p.bind λvs h1 ι1 i b g d e a=>by
  cases c:small vs with
  | false=>rw[c]at a;show a.elim
  | true=>
   rw[c,if_pos rfl]at a;show(wB c e.length,a ι1 none b (iS _) d rfl))
theorem JT{C:Nat}{H0:Hp}{F:List V->CH->Out V}{tA:TA}{fA:L2.St->CH->Out (List V)}(h0:∀ b o,H0 b=some o->R.D0 b)(hx:∃ S f,nu R.K (R.cl C) S f)(hA:Sm R E LA tA fA) :
  nI R E (A5 R.K H0 E (yU (R.cl C) (i5 R.K R.cl R.cs F) E tA)) (λφ h=>(fA φ h).bindS λvs h1=>if small vs then(F (.ref h1.length::vs) (h1++[.exn C none])).bindS λv h2=>match v with
   | .non=>match kr h2 h1.length with
    | some (.exn C' od)=>if cj C' C then .exc C od (h2.set h1.length .gone)else .no
    | _=>.no
   | _=>.no else .no):=λι φ h σ H D f r p=>
 hA ι φ h σ H _ f r (p.bind λvs h1 ι1 J A O j w g=>by
  cases c:small vs with
  | false=>rw[c]at g;show g.elim
  | true=>
   rw[c,if_pos rfl]at g;show(wB c w.length,λx d=>?_);have n:¬ R.D0 x:=λq=>by
    let(o,m):=j.dm x q;rw[d]at m;cases m
   have G:H0 x=none:=by
    cases e:H0 x with
    | none=>rfl
    | some o=>show absurd (h0 x o e) n
   have l:=vh (p:=x) j;have z:HR R (ι1++[x]) (h1++[.exn C none]) (upd A x (ow x (R.cl C) none)):=j.new d ⟨none,md,rfl⟩;show(R.Pr,R.D0,ι1++[x], .ref h1.length::vs,_,⟨.ref x,J,rfl,⟨x,l,rfl⟩,RVs.mono ⟨[x],rfl⟩ w⟩,z,?_);show i9.bind (i9.mono ⟨[x],rfl⟩ g) λv h2 ι2 u N s t B a=>?_;cases v with
   | non=>
    cases B;dsimp only at a;try simp only[jm,jY,jS,jH,jN,jQ,jT,jU,jX,jV,jW]at a
    split at a
    .rename_i C' od e;split at a
     .rename_i k;have k:=bN k;subst k;let(y,M,I):=t.obj _ x _ (ou s l) e;let(S,L,i):=hx;show(rfl,x,_,S,L,y,rfl,M,i,G,a ι2 y _ (iS _) (t.gone (ou s l) e rfl n) I)
     .show a.elim
    .show a.elim
   | _=>show a.elim)
theorem ED{tA:TA}{fA:L2.St->CH->Out (List V)}(cls:Nat->Bool)(hcl:∀ C,cls C=true->∃ S f,nu R.K (R.cl C) S f)(hA:Sm R E LA tA fA):Sm R E LE (Ew R.K tA) (λφ h=>(fA φ h).bind λvs h1=>match vs with
  | .ref n::rest=>match kr h1 n with
   | some (.exn C _)=>if cls C&&small rest then .ok .non h1 else .no
   | _=>.no
  | _=>.no):=λι φ h σ H Q f r p=>
 hA ι φ h σ H _ f r (post.bind p λvs h1 ι1 y i w j t d=>by
  split at d
  .rename_i n rest;let(u,o,rfl,m,l):=mO t;let(a,q,rfl):=m;split at d
   .rename_i C v e;rw[jm]at e;split at d
    .rename_i c;rw[cn]at c;let(g,k,x):=j.obj n a _ q e;let(S,s,hx):=hcl C c.1;show(a,o,_,S,s,g,rfl,wB c.2 l.length,k,hx,?_);have : upd i a (ow a (R.cl C) g)=i:=by
      funext b
      by_cases z:b=a
      .subst z;rw[md,k]
      .rw[kk z]
     rw[this];show d.ok j rfl
    .show d.elim
   .show d.elim
  .show d.elim)
theorem Mc{a b:Addr}{A B:HO}(ne:a≠b):upd (upd H a A) b B=upd (upd H b B) a A:=by
 funext c
 unfold upd;by_cases d:c=a
 .subst d;rw[if_neg ne,if_pos rfl,if_pos rfl]
 .by_cases e:c=b
  .rw[if_pos e,if_neg d,if_pos e]
  .rw[if_neg e,if_neg d,if_neg d,if_neg e]
theorem Ez{f:Str}{ta tv:TE}{fa fv:L2.St->CH->Out V}(cls:Nat->Bool)(hcl:∀ C,cls C=true->(∃ S g,nu R.K (R.cl C) S g)/\ro R.K (R.cl C) f)(ha:Sm R E LE ta fa)(hv:Sm R E LE tv fv):nI R E (tZ R.K ta tv f) (λφ h=>(fv φ h).bindS λv h1=>(fa φ h1).bindS λx h2=>match x with
  | .ref n=>match kr h2 n with
   | some (.exn C none)=>if cls C then .nx φ ((h2++[CO.xd [(f,v)]]).set n (.exn C (some h2.length)))else .no
   | _=>.no
  | _=>.no):=λι φ h σ H D j r p=>
 hv ι φ h σ H _ j r (p.bind λv h1 ι1 u y q z J t=>ha ι1 φ h1 σ y _ (j.mono q) z (t.bind λx h2 ι2 w B s i F d=>by
  cases x with
  | ref n=>
   let(a,m,rfl):=F;dsimp only at d;try simp only[jm,jY,jS,jH,jN,jQ,jT,jU,jX,jV,jW]at d
   split at d
   .rename_i C e;split at d
    .rename_i c;let(N,P,l):=i.obj n a _ m e;have l:N=none:=l;subst l;let((S,g,hx),G):=hcl C c;show(a,_,S,g,rfl,P,hx,G,λb k M=>?_);rw[Mc (iQ M)];have I:HR R (ι2++[b]) (h2++[.xd [(f,v)]]) (upd B b (.xd [(f,u)])):=i.new k ⟨[(f,u)],md,sE ((J.mono s).mono ⟨[b],rfl⟩) ⟨rfl,rfl⟩⟩;have L:n<h2.length:=(cb.mp e).1;have A:=I.put (o:=.exn C (some h2.length)) (O:=ow a (R.cl C) (some b)) (ou ⟨[b],rfl⟩ m) (show(h2++[.xd [(f,v)]])[n]?=some (.exn C none) by rw[gZ L];show e) rfl ⟨some b,md,b,vh i,rfl⟩;show d (ι2++[b]) σ _ ⟨[b],rfl⟩ A (j.mono (q.trans (s.trans ⟨[b],rfl⟩)))
    .show d.elim
   .show d.elim
  | _=>show d.elim))
theorem An{f:Str}{ta:TE}{fa:L2.St->CH->Out V}(cls:Nat->Bool)(hcl:∀ C,cls C=true->qw R.K (R.cl C) f)(ha:Sm R E LE ta fa):Sm R E LE (rG R.K ta f) (λφ h=>(fa φ h).bind λx h1=>match x with
  | .ref n=>match kr h1 n with
   | some (.exo C (some m))=>if cls C then match kr h1 m with
     | some (.xd fs)=>match pw f fs with
      | some v=>.ok v h1
      | none=>.no
     | _=>.no
    else .no
   | _=>.no
  | _=>.no):=λι φ h σ H Q l r p=>
 ha ι φ h σ H _ l r (post.bind p λx h1 ι1 u I J d B b=>by
  cases x with
  | ref n=>
   let(a,z,rfl):=B;dsimp only at b;try simp only[jm,jY,jS,jH,jN,jQ,jT,jU,jX,jV,jW]at b
   split at b
   .rename_i C m e;split at b
    .rename_i c;let(G,F,i,A,s):=d.obj n a _ z e;subst s;split at b
     .rename_i fs D;let(j,y,q):=d.obj m i _ A D;have g:=zv (mn:=f) q;split at b
      .rename_i v k;rw[k]at g;let(w,t,o):=g;show(a,_,i,j,w,rfl,F,hcl C c,y,t,b.ok d o)
      .show b.elim
     .show b.elim
    .show b.elim
   .show b.elim
  | _=>show b.elim)
def Ee(R:Run)(t:TX)(f:L2.St->CH->Out V):Prop:=∀(E:XK) ι φ h σ H Q,FR ι φ σ->HR R ι h H->post R E LE ι Q (f φ h)->t σ H Q E
def Hv(i:Nat):jE->jE
 | .nx φ h=>.nx (φ.set i none) h
 | .bk φ h=>.bk (φ.set i none) h
 | .ct φ h=>.ct (φ.set i none) h
 | o=>o
theorem yW{t:TX}{ts:TS}{Dc:Addr}{i:Nat}{fx:L2.St->CH->Out V}{fs:L2.St->CH->jE}(cat:Nat->Bool)(hcat:∀ C,cat C=true->oZ R.K (R.cl C) Dc)(hx:Ee R t fx)(hs:nI R E ts fs):nI R E (Al R.K Dc i t ts) (λφ h=>match fx φ h with
  | .ok _ h1=>.nx φ h1
  | .exc C od h1=>if cat C then Hv i (fs (φ.set i (some (.ref h1.length))) (h1++[.exo C od]))else .no
  | .no=>.no):=λι φ h σ H D f r p=>by
 show hx _ ι φ h σ H _ f r ?_;dsimp only at p;try simp only[jm,jY,jS,jH,jN,jQ,jT,jU,jX,jV,jW]at p
 cases e:fx φ h with
 | no=>rw[e]at p;show p.elim
 | ok v h1=>rw[e]at p;showλι1 u n b l q=>p ι1 σ n b l (f.mono b)
 | exc C od h1=>
  rw[e]at p;intro ι1 o n b l q;dsimp only at p;try simp only[jm,jY,jS,jH,jN,jQ,jT,jU,jX,jV,jW]at p
  cases c:cat C with
  | false=>rw[c]at p;show p.elim
  | true=>
   rw[c,if_pos rfl]at p;show(_,rfl,hcat C c,λa m=>?_);have s:HR R (ι1++[a]) (h1++[.exo C od]) (upd n a (p6 a (R.cl C) o)):=l.new m ⟨o,md,q.mono ⟨[a],rfl⟩⟩;show hs (ι1++[a]) _ _ _ _ _ ((f.mono (b.trans ⟨[a],rfl⟩)).set (v:=.ref h1.length) (u:=.ref a) ⟨a,vh l,rfl⟩ i) s ?_;have p:=i9.mono (b.trans ⟨[a],rfl⟩) p;cases e2:fs (φ.set i (some (.ref h1.length))) (h1++[.exo C od])with
   | nx φ2 h2=>rw[e2]at p;showλι3 σ3 g d k j=>p ι3 _ g d k (j.unset i none)
   | bk φ2 h2=>rw[e2]at p;showλι3 σ3 g d k j=>p ι3 _ g d k (j.unset i none)
   | ct φ2 h2=>rw[e2]at p;showλι3 σ3 g d k j=>p ι3 _ g d k (j.unset i none)
   | rt v h2=>rw[e2]at p;show p
   | exc C2 od2 h2=>rw[e2]at p;show p
   | no=>rw[e2]at p;show p
end
end
end Rn
namespace Rn
open L2 PySem
noncomputable section
section
variable{R:Run}{E:XK}{ι ι':List Addr}{φ σ : L2.St}{h h':CH}{H H':Hp}{D_:Ends}
theorem ml{i:Nat}{a:Addr}(e:R.cs[i]?=some a):Sm R E LE (tC (.ref a)) (λ_ h=>.ok (.ref i) h):=λι φ h σ H Q f r p=>p.ok r ⟨a,ou r.cst e,rfl⟩
def oF(h:CH)(n:Nat):V->Option D :=
 Nat.rec (motive:=λ_=>V->Option D) (λ_=>none) (λ_ ih v=>match v with
  | .non=>some .non
  | .bl b=>some (.bl b)
  | .int i=>some (.int i)
  | .str z=>some (.str z)
  | .ref k=>match kr h k with
   | some (.lst xs)=>(p7 (λx acc=>match ih x,acc with | some d,some ds=>some (d::ds) | _,_=>none) (some []) xs).map D.lst
   | some o=>match o.seqT with
    | some xs=>(p7 (λx acc=>match ih x,acc with | some d,some ds=>some (d::ds) | _,_=>none) (some []) xs).map D.tup
    | none=>none
   | none=>none
  | _=>none) n
theorem A3{g:V->Option D}(hg:∀ v u d,RV ι v u->g v=some d->Rep R.K H d u):∀{xs ys:List V}{ds:List D},LA ι xs ys->p7 (λx acc=>match g x,acc with | some d,some ds=>some (d::ds) | _,_=>none) (some []) xs=some ds->kC R.K H ds ys:=by
 intro xs;induction xs with
 | nil=>intro ys ds l e;cases ny l;cases e;rfl
 | cons x xs ih=>
  intro ys ds l e;let(u,c,rfl,h,b):=mO l;rw[List.foldr_cons]at e;split at e
  .rename_i d a i f;cases e;show(u,c,rfl,hg x u d h i,ih b f)
  .cases e
theorem Bh(r:HR R ι h H):∀(n:Nat)(v u:V)(d:D),RV ι v u->oF h n v=some d->Rep R.K H d u:=by
 intro n;induction n with
 | zero=>intro v u d l e;cases e
 | succ n ih=>
  intro v u d l e;cases v with
  | non=>cases e;show l
  | bl b=>cases e;show l
  | int i=>cases e;show l
  | str z=>cases e;show l
  | ref k=>
   let(a,t,rfl):=l;replace e:(match kr h k with
    | some (.lst xs)=>(p7 (λx c=>match oF h n x,c with | some d,some f=>some (d::f) | _,_=>none) (some []) xs).map D.lst
    | some o=>match o.seqT with
     | some xs=>(p7 (λx c=>match oF h n x,c with | some d,some f=>some (d::f) | _,_=>none) (some []) xs).map D.tup
     | none=>none
    | none=>none)=some d:=e
   split at e
   .rename_i xs g;rw[jm]at g;let(j,s,q):=nZ r t g;let(f,p,m):=gK.mp e;subst m;simp only[Rep];show(a,j,rfl,jM.of s,A3 ih q p)
   .rename_i o _ g;split at e
    .rename_i xs hs;let(j,s,q):=rz (xs:=xs) r t (by rw[jm]at g;rw[g];show hs);let(f,p,m):=gK.mp e;subst m;simp only[Rep];show(a,j,rfl,s,A3 ih q p)
    .cases e
   .cases e
  | _=>cases e
def yy(neg:Bool)(x y:V)(h:CH):Out V:=match x,y with
 | .int i, .int j=>.ok (.bl (if neg then !decide (i=j)else decide (i=j))) h
 | .str i, .str j=>.ok (.bl (if neg then !pY i j else pY i j)) h
 | .bl i, .bl j=>.ok (.bl (if neg then !decide (i=j)else decide (i=j))) h
 | .non, .non=>.ok (.bl (!neg)) h
 | x,y=>match oF h 20 x,oF h 20 y with
  | some d,some e=>if iO (depD d) 50&&!(flatD d&&flatD e)then .ok (.bl (if neg then !eqD d e else eqD d e)) h else .no
  | _,_=>.no
theorem EJ{x y x' y':V}{Q:VK}{d e:D}(r:HR R ι h H)(lx:RV ι x x')(ly:RV ι y y')(e1:oF h 20 x=some d)(e2:oF h 20 y=some e)(c:(iO (depD d) 50&&!(flatD d&&flatD e))=true)(g:Bool->Bool)(q:Q (.bl (g (eqD d e))) H):∃ d e,Rep R.K H d x'/\Rep R.K H e y'/\depD d<=50/\(flatD d&&flatD e)=false/\Q (.bl (g (eqD d e))) H:=by
 rw[cn,kF]at c;show(d,e,Bh r 20 x x' d lx e1,Bh r 20 y y' e ly e2,cm c.1,c.2,q)
theorem yX{d:D}{v:V}(h:Rep R.K H d v)(hv:∀ a,v≠.ref a):flatD d=true:=by
 cases d with
 | tup ds=>simp only[Rep]at h;let(a,_,e,_):=h;show absurd e (hv a)
 | lst ds=>simp only[Rep]at h;let(a,_,e,_):=h;show absurd e (hv a)
 | _=>rfl
theorem yO{x y:V}{Q:VK}(q:∃ d e,Rep R.K H d x/\Rep R.K H e y/\depD d<=50/\(flatD d&&flatD e)=false/\Q (.bl (eqD d e)) H):oR R.K x y H Q:=by
  cases x <;> cases y <;> first
    | show q
    | (let(d,e,f,c,_,b,_):=q
       rw[yX f (λa z=>by cases z),yX c (λa z=>by cases z)]at b;cases b)
theorem Iv{x y:V}{Q:VK}(q:∃ d e,Rep R.K H d x/\Rep R.K H e y/\depD d<=50/\(flatD d&&flatD e)=false/\Q (.bl (!eqD d e)) H):pC R.K x y H Q:=by
  cases x <;> cases y <;> first
    | show q
    | (let(d,e,f,c,_,b,_):=q
       rw[yX f (λa z=>by cases z),yX c (λa z=>by cases z)]at b;cases b)
theorem s_eq:S2 R E (oR R.K) (yy false):=λι h H x y i j Q r a b p=>by
 unfold yy at p;try simp only[jm,jY,jS,jH,jN,jQ,jT,jU,jX,jV,jW]at p
 split at p
 .cases a;cases b;show p.ok r rfl
 .cases a;cases b;show p.ok r rfl
 .cases a;cases b;show p.ok r rfl
 .cases a;cases b;show p.ok r rfl
 .split at p
  .rename_i d e g f;split at p
   .rename_i c;show yO (EJ r a b g f c id (p.ok r rfl))
   .show p.elim
  .show p.elim
theorem s_ne:S2 R E (pC R.K) (yy true):=λι h H x y i j Q r a b p=>by
 unfold yy at p;try simp only[jm,jY,jS,jH,jN,jQ,jT,jU,jX,jV,jW]at p
 split at p
 .cases a;cases b;show p.ok r rfl
 .cases a;cases b;show p.ok r rfl
 .cases a;cases b;show p.ok r rfl
 .cases a;cases b;show p.ok r rfl
 .split at p
  .rename_i d e g f;split at p
   .rename_i c;show Iv (EJ r a b g f c not (p.ok r rfl))
   .show p.elim
  .show p.elim
theorem KN{xs ys:List V}(l:LA ι xs ys)(c:xs.all flatV=true):ys=xs:=by
 induction xs generalizing ys with
 | nil=>show ny l
 | cons x xs ih=>
  let(u,d,rfl,a,b):=mO l;rw[m2,cn]at c;rw[ih b c.2];cases x with
  | ref n=>cases c.1
  | _=>cases a;rfl
theorem KM{x x':V}(l:RV ι x x')(c:flatV x=true):x'=x:=by
 cases x with
 | ref n=>cases c
 | _=>show l
def zT(neg:Bool)(x y:V)(h:CH):Out V:=match y with
 | .ref n=>match(match kr h n with
   | some (.lst xs)=>some xs
   | some o=>o.seqT
   | none=>none)with
  | some xs=>if flatV x&&xs.all flatV then .ok (.bl (if neg then !sZ x xs else sZ x xs)) h else .no
  | none=>.no
 | _=>.no
theorem uH{neg:Bool}:S2 R E (vK R.K neg) (zT neg):=λι h H x y i s Q r q k p=>by
 unfold zT at p;try simp only[jm,jY,jS,jH,jN,jQ,jT,jU,jX,jV,jW]at p
 cases y with
 | ref n=>
  let(a,g,rfl):=k;dsimp only at p;try simp only[jm,jY,jS,jH,jN,jQ,jT,jU,jX,jV,jW]at p
  have key:∀ xs b,LA ι xs b->(jM R.K H a b\/mQ R.K H a b)->post R E LE ι Q (if flatV x&&xs.all flatV then .ok (.bl (if neg then !vM x xs else vM x xs)) h else .no)->vK R.K neg i (.ref a) H Q:=λxs b l hs p=>by
   split at p
   .rename_i c;rw[cn]at c;have m:=KN l c.2;have j:=KM q c.1;subst m j;show(a,_,rfl,hs,c.1,c.2,p.ok r rfl)
   .show p.elim
  cases e:h[n]? with
  | none=>rw[e]at p;show p.elim
  | some o=>
   rw[e]at p;cases o with
   | lst xs=>
    let(b,f,d):=nZ r g e;show key xs b d (.inl (jM.of f)) p
   | tup xs=>
    let(b,f,d):=rz (xs:=xs) r g (by rw[e];rfl);show key xs b d (.inr f) p
   | kon xs=>
    let(b,f,d):=rz (xs:=xs) r g (by rw[e];rfl);show key xs b d (.inr f) p
   | _=>show p.elim
 | _=>show p.elim
def SM(R:Run)(E:XK)(r:V->List V->Hp->VK->Prop)(g:V->List V->CH->Out V):Prop:=∀ ι h H x xs x' xs' Q,HR R ι h H->RV ι x x'->LA ι xs xs'->post R E LE ι Q (g x xs h)->r x' xs' H Q
def oB(x:V)(h:CH):String:=match x with
 | .str _=>"str"
 | .int _=>"int"
 | .ref n=>match kr h n with
  | some (.lst _)=>"list"
  | some (.dk _)=>"dict"
  | some (.dt _)=>"dict"
  | _=>""
 | _=>""
theorem Bo{x x':V}{T:String}(r:HR R ι h H)(l:RV ι x x')(hT:T≠"")(e:oB x h=T):uC R.K T x' H:=by
 unfold oB at e;try simp only[jm,jY,jS,jH,jN,jQ,jT,jU,jX,jV,jW]at e
 cases x with
 | str z=>cases l;show e.symm
 | int z=>cases l;show e.symm
 | ref n=>
  let(a,f,rfl):=l;dsimp only at e;try simp only[jm,jY,jS,jH,jN,jQ,jT,jU,jX,jV,jW]at e
  split at e
  .rename_i g b;let(c,d,_):=nZ r f b;show .inl ⟨e.symm,c,jM.of d⟩
  .rename_i g b;let(c,d,_):=r.obj n a _ f b;show .inr (.inr (.inl ⟨e.symm, .inl ⟨c,d⟩⟩))
  .rename_i g b;let(c,d,_):=r.obj n a _ f b;show .inr (.inr (.inl ⟨e.symm, .inr ⟨c,d⟩⟩))
  .show absurd e.symm hT
 | _=>show absurd e.symm hT
theorem oK{T:String}{r:V->List V->Hp->VK->Prop}{g:V->List V->CH->Out V}{to:TE}{t:TA}{fo:L2.St->CH->Out V}{ft:L2.St->CH->Out (List V)}(hT:T≠"")(hr:SM R E r g)(ho:Sm R E LE to fo)(ht:Sm R E LA t ft) :
  Sm R E LE (yC R.K T r to t) (λφ h=>(fo φ h).bind λx h1=>if oB x h1 == T then(ft φ h1).bind λvs h2=>g x vs h2 else .no):=λι φ h σ H Q f r p=>
 ho ι φ h σ H _ f r (post.bind p λx h1 ι1 u j m b d a=>by
  cases c:oB x h1 == T with
  | false=>rw[c]at a;show a.elim
  | true=>
   rw[c,if_pos rfl]at a;show(Bo b d hT (beq_iff_eq.mp c),ht ι1 φ h1 σ j _ (f.mono m) b (post.bind a λvs h2 ι2 n k o e l i=>hr ι2 h2 k x vs u n Q e (d.mono o) l i)))
theorem zY{T:String}{r:V->List V->Hp->VK->Prop}{g:V->List V->CH->Out V}{to:TE}{fo:L2.St->CH->Out V}(hT:T≠"")(hr:SM R E r g)(ho:Sm R E LE to fo) :
  Sm R E LE (xf R.K T r to) (λφ h=>(fo φ h).bind λx h1=>if oB x h1 == T then g x [] h1 else .no):=λι φ h σ H Q f r p=>
 ho ι φ h σ H _ f r (post.bind p λx h1 ι1 u e i b d a=>by
  cases c:oB x h1 == T with
  | false=>rw[c]at a;show a.elim
  | true=>
   rw[c,if_pos rfl]at a;show(Bo b d hT (beq_iff_eq.mp c),hr ι1 h1 e x [] u [] Q b d rfl a))
theorem qe:SM R E Ft (λx vs h=>match x,vs with
  | .ref n,[y]=>match kr h n with
   | some (.lst xs)=>if small xs then .ok .non (oo h n (.lst (xs++[y])))else .no
   | _=>.no
  | _,_=>.no):=λι h H x xs s g Q r i l p=>by
 dsimp only at p;try simp only[jm,jY,jS,jH,jN,jQ,jT,jU,jX,jV,jW]at p
 split at p
 .let(a,b,rfl):=i;let(u,q,rfl,k,f):=mO l;cases ny f;split at p
  .rename_i o e;split at p
   .rename_i c;let(j,m,d):=nZ r b e;show(a,j,u,rfl,rfl,m,zi c d.length,p.ok (r.put b e rfl ⟨_,md,ju.append d (ju.one k)⟩) rfl)
   .show p.elim
  .show p.elim
 .show p.elim
theorem Bn:SM R E Fs (λx vs h=>match x,vs with
  | .ref n,[.ref m]=>match kr h n,kr h m with
   | some (.lst xs),some (.lst ys)=>if iO (xs.length+ys.length) 1000 then .ok .non (oo h n (.lst (xs++ys)))else .no
   | _,_=>.no
  | _,_=>.no):=λι h H x xs A s Q r w l p=>by
 dsimp only at p;try simp only[jm,jY,jS,jH,jN,jQ,jT,jU,jX,jV,jW]at p
 split at p
 .let(a,f,rfl):=w;let(u,q,rfl,j,d):=mO l;cases ny d;let(b,k,rfl):=j;split at p
  .rename_i ys q e t;split at p
   .rename_i c;let(y,z,i):=nZ r f e;let(o,v,g):=nZ r k t;have:=cm c;have j:=i.length;have d:=g.length;have : (1000:Nat)<=sizeLine:=by decide
    show(a,b,y,o,rfl,rfl,z,v,∅,p.ok (r.put f e rfl ⟨_,md,ju.append i g⟩) rfl)
   .show p.elim
  .show p.elim
 .show p.elim
end
end
end Rn
namespace Rn
open L2 PySem
noncomputable section
section
variable{R:Run}{E:XK}{ι ι':List Addr}{φ σ : L2.St}{h h':CH}{H H':Hp}{D_:Ends}
theorem m_pop:SM R E rPop (λx vs h=>match x,vs with
  | .ref n,[]=>match kr h n with
   | some (.lst xs)=>match xs[xs.length-1]? with
    | some y=>.ok y (oo h n (.lst xs.dropLast))
    | none=>.no
   | _=>.no
  | _,_=>.no):=λι h H x xs s g Q r j l p=>by
 dsimp only at p;try simp only[jm,jY,jS,jH,jN,jQ,jT,jU,jX,jV,jW]at p
 split at p
 .let(a,c,rfl):=j;cases ny l;split at p
  .rename_i f e;split at p
   .rename_i y k;let(d,q,b):=nZ r c e;let(u,i,m):=nM b k;have o:LA ι f.dropLast d.dropLast:=by
     rw[List.dropLast_eq_take,List.dropLast_eq_take,b.length];show ju.take _ b
    show(a,d,u,rfl,rfl,q,by rw[b.length];show i,p.ok (r.put c e rfl ⟨_,md,o⟩) m)
   .show p.elim
  .show p.elim
 .show p.elim
def yV:List V->Option (List Str)
 | []=>some []
 | .str z::vs=>(yV vs).map (z::·)
 | _=>none
theorem Mm:∀{xs ys:List V}{zs:List Str},LA ι xs ys->yV xs=some zs->ys=zs.map V.str:=by
 intro xs;induction xs with
 | nil=>intro ys zs l e;cases ny l;cases e;rfl
 | cons x xs ih=>
  intro ys zs l e;let(u,g,rfl,c,a):=mO l;cases x with
  | str z=>
   let(f,d,b):=gK.mp (show(yV xs).map (z::·)=some zs from e);subst b;cases c;rw[ih a d];rfl
  | _=>cases e
def vW:List V->Option (List Bool)
 | []=>some []
 | .bl z::vs=>(vW vs).map (z::·)
 | _=>none
theorem Bq:∀{xs ys:List V}{zs:List Bool},LA ι xs ys->vW xs=some zs->ys=zs.map V.bl:=by
 intro xs;induction xs with
 | nil=>intro ys zs l e;cases ny l;cases e;rfl
 | cons x xs ih=>
  intro ys zs l e;let(u,g,rfl,c,a):=mO l;cases x with
  | bl z=>
   let(f,d,b):=gK.mp (show(vW xs).map (z::·)=some zs from e);subst b;cases c;rw[ih a d];rfl
  | _=>cases e
theorem Jw:SM R E EW (λx vs h=>match x,vs with
  | .ref n,[.bl b]=>match kr h n with
   | some (.lst xs)=>match vW xs with
    | some bs=>.ok (.int ((bs.count b:Nat):Int)) h
    | none=>.no
   | _=>.no
  | _,_=>.no):=λι h H x xs s g Q r j l p=>by
 dsimp only at p;try simp only[jm,jY,jS,jH,jN,jQ,jT,jU,jX,jV,jW]at p
 split at p
 .let(a,i,rfl):=j;let(u,q,rfl,m,f):=mO l;cases ny f;cases m;split at p
  .rename_i o e;split at p
   .rename_i bs d;let(t,c,k):=nZ r i e;rw[Bq k d]at c;show(a,bs,_,rfl,rfl,c,p.ok r rfl)
   .show p.elim
  .show p.elim
 .show p.elim
def tf(b:Bool):List Bool->Option Nat
 | []=>none
 | x::xs=>if x == b then some 0 else(tf b xs).map (· + 1)
theorem Lj{b:Bool}:∀{bs:List Bool}{j:Nat},tf b bs=some j->bs[j]?=some b/\∀ m,m<j->bs[m]?≠some b:=by
 intro bs;induction bs with
 | nil=>intro j e;cases e
 | cons x xs ih=>
  intro j e;unfold tf at e;try simp only[jm,jY,jS,jH,jN,jQ,jT,jU,jX,jV,jW]at e
  split at e
  .rename_i c;cases e;show(by rw[beq_iff_eq.mp c];rfl,λm a=>absurd a (Nat.not_lt_zero _))
  .rename_i c;let(k,h,g):=gK.mp e;subst g;let(f,d):=ih h;show(f,λm a=>?_);cases m with
   | zero=>
    intro z;have : x=b:=by simpa using z
    show c (by simp[this])
   | succ m=>show d m ∅
theorem LV:SM R E Fq (λx vs h=>match x,vs with
  | .ref n,[.bl b]=>match kr h n with
   | some (.lst xs)=>match vW xs with
    | some bs=>match tf b bs with
     | some j=>.ok (.int (j:Int)) h
     | none=>.no
    | none=>.no
   | _=>.no
  | _,_=>.no):=λι h H x xs y g Q r k l p=>by
 dsimp only at p;try simp only[jm,jY,jS,jH,jN,jQ,jT,jU,jX,jV,jW]at p
 split at p
 .let(a,i,rfl):=k;let(u,w,rfl,q,f):=mO l;cases ny f;cases q;split at p
  .rename_i v e;split at p
   .rename_i bs d;split at p
    .rename_i j t;let(z,c,m):=nZ r i e;rw[Bq m d]at c;let(o,s):=Lj t;show(a,bs,_,j,rfl,rfl,c,o,s,p.ok r rfl)
    .show p.elim
   .show p.elim
  .show p.elim
 .show p.elim
theorem LU:SM R E Fp (λx vs h=>match x,vs with
  | .str z,[.str y]=>.ok (.bl (Txt.startswith z y)) h
  | _,_=>.no):=λι h H x e g c Q r a l p=>by
 dsimp only at p;try simp only[jm,jY,jS,jH,jN,jQ,jT,jU,jX,jV,jW]at p
 split at p
 .cases a;let(u,f,rfl,d,b):=mO l;cases ny b;cases d;show(_,_,rfl,rfl,p.ok r rfl)
 .show p.elim
theorem IC:SM R E rPart (λx vs h=>match x,vs with
  | .str z,[.str y]=>if !(y.length == 0)&&iO z.length 10000 then nk (.tup [.str (jG z y).1, .str (jG z y).2.1, .str (jG z y).2.2]) h else .no
  | _,_=>.no):=λι h H x g j d Q r a l p=>by
 dsimp only at p;try simp only[jm,jY,jS,jH,jN,jQ,jT,jU,jX,jV,jW]at p
 split at p
 .cases a;let(u,i,rfl,f,b):=mO l;cases ny b;cases f;split at p
  .rename_i c;rw[cn,kF]at c;have:=cm c.2;have : (10000:Nat)<=sizeLine:=by decide
   show(_,_,rfl,rfl,c.1,∅,λq e=>p3 p r e ⟨_,md,⟨_,_,rfl,rfl,_,_,rfl,rfl,_,_,rfl,rfl,rfl⟩⟩)
  .show p.elim
 .show p.elim
theorem AQ:∀ zs:List Str,LA ι (zs.map V.str) (zs.map V.str):=by
 intro zs;induction zs with
 | nil=>rfl
 | cons z zs ih=>show(_,_,rfl,rfl,ih)
theorem Jv:SM R E Eh (λx vs h=>match x,vs with
  | .str z,[.str y]=>if !(y.length == 0)&&iO z.length 10000&&iO (Txt.split z y).length 10000 then nk (.lst ((Txt.split z y).map V.str)) h else .no
  | _,_=>.no):=λι h H x g j d Q r a l p=>by
 dsimp only at p;try simp only[jm,jY,jS,jH,jN,jQ,jT,jU,jX,jV,jW]at p
 split at p
 .cases a;let(u,i,rfl,f,b):=mO l;cases ny b;cases f;split at p
  .rename_i c;rw[cn,cn,kF]at c;have:=cm c.1.2;have:=cm c.2;have : (10000:Nat)<=sizeLine:=by decide
   show(_,_,rfl,rfl,c.1.1,∅,∅,λq e=>p3 p r e ⟨_,md,AQ _⟩)
  .show p.elim
 .show p.elim
theorem Hf:SL R E (Ej R.K) (λxs h=>match xs with
  | [.ref n]=>match kr h n with
   | some (.lst ys)=>nk (.lst ys) h
   | some o=>match o.seqT with
    | some ys=>nk (.lst ys) h
    | none=>.no
   | none=>.no
  | _=>.no):=λι h H xs k Q r l p=>by
 dsimp only at p;try simp only[jm,jY,jS,jH,jN,jQ,jT,jU,jX,jV,jW]at p
 split at p
 .let(u,s,rfl,m,j):=mO l;cases ny j;let(a,g,rfl):=m;split at p
  .rename_i ys e;let(b,f,d):=nZ r g e;show(a,b,rfl, .inl (jM.of f),λq c=>p3 p r c ⟨b,md,RVs.mono ⟨[q],rfl⟩ d⟩)
  .rename_i o _ e;split at p
   .rename_i ys i;let(b,f,d):=rz (xs:=ys) r g (by rw[e];show i);show(a,b,rfl, .inr f,λq c=>p3 p r c ⟨b,md,RVs.mono ⟨[q],rfl⟩ d⟩)
   .show p.elim
  .show p.elim
 .show p.elim
theorem B5:SL R E (t6 R.K) (λxs h=>match xs with
  | [.ref n]=>match kr h n with
   | some (.lst ys)=>nk (.tup ys) h
   | _=>.no
  | _=>.no):=λι h H xs d Q r l p=>by
 dsimp only at p;try simp only[jm,jY,jS,jH,jN,jQ,jT,jU,jX,jV,jW]at p
 split at p
 .let(u,m,rfl,j,c):=mO l;cases ny c;let(a,g,rfl):=j;split at p
  .rename_i ys e;let(b,k,i):=nZ r g e;show(a,b,rfl,jM.of k,λq f=>p3 p r f ⟨b,md,RVs.mono ⟨[q],rfl⟩ i⟩)
  .show p.elim
 .show p.elim
theorem Hh:SL R E (xt R.K) (λxs h=>match xs with
  | [.ref n]=>match kr h n with
   | some (.lst ys)=>match vW ys with
    | some bs=>.ok (.bl (bs.all id)) h
    | none=>.no
   | _=>.no
  | _=>.no):=λι h H xs f Q r l p=>by
 dsimp only at p;try simp only[jm,jY,jS,jH,jN,jQ,jT,jU,jX,jV,jW]at p
 split at p
 .let(u,k,rfl,j,d):=mO l;cases ny d;let(a,g,rfl):=j;split at p
  .rename_i ys e;split at p
   .rename_i bs c;let(m,b,i):=nZ r g e;rw[Bq i c]at b;show(a,bs,rfl,jM.of b,p.ok r rfl)
   .show p.elim
  .show p.elim
 .show p.elim
def pW(x:V)(h:CH):String:=match x with
 | .int _=>"int"
 | .str _=>"str"
 | .bl _=>"bool"
 | .non=>"NoneType"
 | .ref n=>match kr h n with
  | some (.lst _)=>"list"
  | some o=>match o.seqT with
   | some _=>"tuple"
   | none=>""
  | none=>""
 | _=>""
theorem MU{x x':V}(r:HR R ι h H)(l:RV ι x x')(e:(pW x h == "")=false):tQ R.K H x' (pW x h):=by
 unfold pW at e ⊢;try simp only[jm,jY,jS,jH,jN,jQ,jT,jU,jX,jV,jW]at e ⊢
 cases x with
 | ref n=>
  let(a,f,rfl):=l;dsimp only at e ⊢;split at e
  .rename_i xs b;let(c,d,_):=nZ r f b;show .inl ⟨rfl,c,jM.of d⟩
  .rename_i o g b;split at e
   .rename_i xs hs;let(c,d,_):=rz (xs:=xs) r f (by rw[b];show hs);show .inr ⟨rfl,c,d⟩
   .cases e
  .cases e
 | int i=>cases l;rfl
 | str i=>cases l;rfl
 | bl i=>cases l;rfl
 | non=>cases l;rfl
 | _=>cases e
theorem sQ:SL R E (sX R.K) (λxs h=>match xs with
  | [x, .ty T]=>if["int","str","bool","list","tuple"].contains T&&!(pW x h == "")then .ok (.bl (kI (pW x h) T)) h else .no
  | _=>.no):=λι h H xs d Q r l p=>by
 dsimp only at p;try simp only[jm,jY,jS,jH,jN,jQ,jT,jU,jX,jV,jW]at p
 split at p
 .let(u,i,rfl,e,b):=mO l;let(w,g,rfl,f,a):=mO b;cases ny a;cases f;split at p
  .rename_i c;rw[cn,kF]at c;show(List.contains_iff_mem.mp c.1,_,MU r e c.2,p.ok r rfl)
  .show p.elim
 .show p.elim
end
end
end Rn
namespace Rn
open L2 PySem
noncomputable section
section
variable{R:Run}{E:XK}{ι ι':List Addr}{φ σ : L2.St}{h h':CH}{H H':Hp}{D_:Ends}
theorem Ar:SM R E (rJoin R.K) (λx vs h=>match x,vs with
  | .str z,[.ref n]=>match kr h n with
   | some (.lst xs)=>match yV xs with
    | some ys=>if iO ((ys.map (·.length)).sum+ys.length*z.length) 16777216 then .ok (.str (Txt.join z ys)) h else .no
    | none=>.no
   | _=>.no
  | _,_=>.no):=λι h H x xs s g Q r j l p=>by
 dsimp only at p;try simp only[jm,jY,jS,jH,jN,jQ,jT,jU,jX,jV,jW]at p
 split at p
 .cases j;let(u,q,rfl,m,f):=mO l;cases ny f;let(a,i,rfl):=m;split at p
  .rename_i ys e;split at p
   .rename_i o d;split at p
    .rename_i c;let(t,b,k):=nZ r i e;rw[Mm k d]at b;show(_,a,o,rfl,rfl,jM.of b,cm c,p.ok r rfl)
    .show p.elim
   .show p.elim
  .show p.elim
 .show p.elim
abbrev LP:List Addr->Option Int->Option Int->Prop:=λ_ a b=>b=a
theorem v3:Sm R E LP A6 (λ_ h=>.ok none h):=λι φ h σ H Q f r p=>p.ok r rfl
theorem ph{te:TE}{fe:L2.St->CH->Out V}(he:Sm R E LE te fe):Sm R E LP (rD te) (λφ h=>(fe φ h).bind λv h1=>match v with
  | .int i=>.ok (some i) h1
  | _=>.no):=λι φ h σ H Q f r p=>
 he ι φ h σ H _ f r (post.bind p λv h1 ι1 u e d b c a=>by
  cases v with
  | int i=>cases c;show(i,rfl,a.ok b rfl)
  | _=>show a.elim)
theorem IH{xs ys:List V}(l:LA ι xs ys)(lo hi:Option Int):LA ι (p0 xs lo hi) (p0 ys lo hi):=by
 unfold p0;rw[l.length];show ju.take _ (ju.drop _ l)
def DY(x:V)(lo hi:Option Int)(h:CH):Out V:=match x with
 | .ref n=>match kr h n with
  | some (.lst xs)=>nk (.lst (p0 xs lo hi)) h
  | _=>.no
 | .str z=>if iO z.length 10000 then .ok (.str (Txt.slice z lo hi)) h else .no
 | _=>.no
theorem rb{te:TE}{tl th:TO}{fe:L2.St->CH->Out V}{fl fh:L2.St->CH->Out (Option Int)}(he:Sm R E LE te fe)(hl:Sm R E LP tl fl)(hh:Sm R E LP th fh):Sm R E LE (zW (xp R.K) te tl th) (λφ h=>(fe φ h).bind λx h1=>(fl φ h1).bind λlo h2=>(fh φ h2).bind λhi h3=>DY x lo hi h3):=λι φ h σ H Q f r p=>
 he ι φ h σ H _ f r (post.bind p λx h1 ι1 u w m A d v=>hl ι1 φ h1 σ w _ (f.mono m) A (post.bind v λlo h2 ι2 g B o s j t=>hh ι2 φ h2 σ B _ (f.mono (m.trans o)) s (post.bind t λhi h3 ι3 l L y k i b=>by
  have j:g=lo:=j;have i:l=hi:=i;subst j i;have d:=d.mono (o.trans y);unfold DY at b;try simp only[jm,jY,jS,jH,jN,jQ,jT,jU,jX,jV,jW]at b
  cases x with
  | ref n=>
   let(a,D,rfl):=d;dsimp only at b;try simp only[jm,jY,jS,jH,jN,jQ,jT,jU,jX,jV,jW]at b
   split at b
   .rename_i J e;let(G,I,F):=nZ k D e;show .inl ⟨a,G,rfl,jM.of I,λq C=>p3 b k C ⟨_,md,RVs.mono ⟨[q],rfl⟩ (IH F _ _)⟩⟩
   .show b.elim
  | str z=>
   cases d;dsimp only at b;try simp only[jm,jY,jS,jH,jN,jQ,jT,jU,jX,jV,jW]at b
   split at b
   .rename_i c;have:=cm c;have : (10000:Nat)<=sizeLine:=by decide
    show .inr ⟨z,rfl,∅,b.ok k rfl⟩
   .show b.elim
  | _=>show b.elim)))
def SJ(R:Run)(E:XK)(t:TJ)(f:L2.St->CH->Str->Out V):Prop:=∀ ι φ h σ H acc Q,FR ι φ σ->HR R ι h H->post R E LE ι Q (f φ h acc)->t σ H acc Q
theorem AR:SJ R E jNil (λ_ h acc=>if iO acc.length 10000 then .ok (.str acc) h else .no):=λι φ h σ H acc Q f r p=>by
 dsimp only at p;try simp only[jm,jY,jS,jH,jN,jQ,jT,jU,jX,jV,jW]at p
 split at p
 .rename_i c;have:=cm c;have : (10000:Nat)<=sizeLine:=by decide
  show(∅,p.ok r rfl)
 .show p.elim
theorem sI{te:TE}{t:TJ}{fe:L2.St->CH->Out V}{ft:L2.St->CH->Str->Out V}(he:Sm R E LE te fe)(ht:SJ R E t ft):SJ R E (rX te t) (λφ h acc=>(fe φ h).bind λv h1=>match v with
  | .str y=>if iO (acc++y).length 10000 then ft φ h1 (acc++y)else .no
  | _=>.no):=λι φ h σ H acc Q f r p=>
 he ι φ h σ H _ f r (post.bind p λv h1 ι1 u d b e g a=>by
  cases v with
  | str y=>
   cases g;dsimp only at a;try simp only[jm,jY,jS,jH,jN,jQ,jT,jU,jX,jV,jW]at a
   split at a
   .rename_i c;have:=cm c;have : (10000:Nat)<=sizeLine:=by decide
    show(y,rfl,∅,ht ι1 φ h1 σ d _ Q (f.mono b) e a)
   .show a.elim
  | _=>show a.elim)
theorem rO{t:TJ}{ft:L2.St->CH->Str->Out V}(ht:SJ R E t ft):Sm R E LE (rF t) (λφ h=>ft φ h Str.empty):=λι φ h σ H Q f r p=>ht ι φ h σ H _ Q f r p
theorem nt{n:Nat}{kvs:List (jz × V)}{a:Addr}(r:HR R ι h H)(ea : ι[n]?=some a)(e:h[n]?=some (.dk kvs)):∃ ys,H a=some (.dK ys)/\nG ι kvs ys:=r.obj n a _ ea e
theorem Hz{td:TE}{fd:L2.St->CH->Out V}(hd:Sm R E LE td fd):Sm R E LE (Em td) (λφ h=>(fd φ h).bind λx h1=>match x with
  | .ref n=>match kr h1 n with
   | some (.dk kvs)=>nk (.lst (kvs.map (·.2))) h1
   | _=>.no
  | _=>.no):=λι φ h σ H Q f r p=>
 hd ι φ h σ H _ f r (post.bind p λx h1 ι1 u m o c k b=>by
  cases x with
  | ref n=>
   let(a,i,rfl):=k;dsimp only at b;try simp only[jm,jY,jS,jH,jN,jQ,jT,jU,jX,jV,jW]at b
   split at b
   .rename_i kvs e;let(d,l,j):=nt c i e;show(a,d,rfl,l,λq g=>p3 b c g ⟨_,md,RVs.mono ⟨[q],rfl⟩ j.2⟩)
   .show b.elim
  | _=>show b.elim)
def yJ:List V->Option (List Int)
 | []=>some []
 | .int z::vs=>(yJ vs).map (z::·)
 | _=>none
theorem Na:∀{xs ys:List V}{zs:List Int},LA ι xs ys->yJ xs=some zs->ys=zs.map V.int:=by
 intro xs;induction xs with
 | nil=>intro ys zs l e;cases ny l;cases e;rfl
 | cons x xs ih=>
  intro ys zs l e;let(u,g,rfl,c,a):=mO l;cases x with
  | int z=>
   let(f,d,b):=gK.mp (show(yJ xs).map (z::·)=some zs from e);subst b;cases c;rw[ih a d];rfl
  | _=>cases e
theorem xh{td:TE}{fd:L2.St->CH->Out V}(hd:Sm R E LE td fd):Sm R E LE (tR td) (λφ h=>(fd φ h).bind λx h1=>match x with
  | .ref n=>match kr h1 n with
   | some (.dk kvs)=>match yJ (kvs.map (·.2))with
    | some ns=>.ok (.int ns.sum) h1
    | none=>.no
   | _=>.no
  | _=>.no):=λι φ h σ H Q f r p=>
 hd ι φ h σ H _ f r (post.bind p λx h1 ι1 u m o c j b=>by
  cases x with
  | ref n=>
   let(a,g,rfl):=j;dsimp only at b;try simp only[jm,jY,jS,jH,jN,jQ,jT,jU,jX,jV,jW]at b
   split at b
   .rename_i kvs e;let(d,l,i):=nt c g e;split at b
    .rename_i ns k;show(a,d,ns,rfl,l,Na i.2 k,b.ok c rfl)
    .show b.elim
   .show b.elim
  | _=>show b.elim)
theorem He:SL R E t7 (λxs h=>match xs with
  | [.ref n]=>match kr h n with
   | some (.dk kvs)=>.ok (.int (kvs.length:Int)) h
   | _=>.no
  | _=>.no):=λι h H xs d Q r l p=>by
 dsimp only at p;try simp only[jm,jY,jS,jH,jN,jQ,jT,jU,jX,jV,jW]at p
 split at p
 .let(u,k,rfl,i,c):=mO l;cases ny c;let(a,f,rfl):=i;split at p
  .rename_i kvs e;let(b,j,g):=nt r f e;show(a,b,rfl,j,by rw[wa g];show p.ok r rfl)
  .show p.elim
 .show p.elim
def keysS:List (jz × V)->Option (List Str)
 | []=>some []
 | (.inr z,_)::r=>(keysS r).map (z::·)
 | _=>none
theorem zm:∀{kvs:List (jz × V)}{ss:List Str},keysS kvs=some ss->kvs.map (·.1)=ss.map iZ:=by
 intro kvs;induction kvs with
 | nil=>intro ss e;cases e;rfl
 | cons p r ih=>
  let(k,v):=p;intro ss e;cases k with
  | inl b=>cases e
  | inr z=>
   let(d,c,a):=gK.mp (show(keysS r).map (z::·)=some ss from e);subst a;rw[hV,ih c];rfl
theorem QA:SL R E Ek (λxs h=>match xs with
  | [.ref n]=>match kr h n with
   | some (.dk kvs)=>match keysS kvs with
    | some ss=>nk (.lst (ss.map V.str)) h
    | none=>.no
   | _=>.no
  | _=>.no):=λι h H xs f Q r l p=>by
 dsimp only at p;try simp only[jm,jY,jS,jH,jN,jQ,jT,jU,jX,jV,jW]at p
 split at p
 .let(u,o,rfl,k,d):=mO l;cases ny d;let(a,i,rfl):=k;split at p
  .rename_i kvs e;split at p
   .rename_i ss c;let(b,m,j):=nt r i e;show(a,b,ss,rfl,m,j.1.trans (zm c),λq g=>p3 p r g ⟨_,md,AQ _⟩)
   .show p.elim
  .show p.elim
 .show p.elim
theorem EA{td ty tz:TE}{fd fy fz:L2.St->CH->Out V}(hd:Sm R E LE td fd)(hy:Sm R E LE ty fy)(hz:Sm R E LE tz fz):Sm R E LE (tV td ty tz) (λφ h=>(fd φ h).bind λx h1=>if o6 x h1 then(fy φ h1).bind λy h2=>(fz φ h2).bind λz h3=>match x with
  | .ref n=>match kr h3 n with
   | some (.dk kvs)=>match keyOf y with
    | some k=>if small kvs then match lB kvs k with
      | some v=>.ok v h3
      | none=>.ok z (oo h3 n (.dk (putK kvs k z)))
     else .no
    | none=>.no
   | _=>.no
  | _=>.no
  else .no):=λι φ h σ H Q f r p=>
 hd ι φ h σ H _ f r (post.bind p λx h1 ι1 u F s o A g=>by
  cases c:o6 x h1 with
  | false=>rw[c]at g;show g.elim
  | true=>
   rw[c,if_pos rfl]at g;let(a,rfl,K):=zb o A c;show(a,rfl,K,hy ι1 φ h1 σ F _ (f.mono s) o (post.bind g λy h2 ι2 w G t B I C=>hz ι2 φ h2 σ G _ (f.mono (s.trans t)) B (post.bind C λz h3 ι3 O P m j l b=>by
    cases x with
    | ref n=>
     let(N,q,J):=A.mono (t.trans m);cases J;dsimp only at b;try simp only[jm,jY,jS,jH,jN,jQ,jT,jU,jX,jV,jW]at b
     split at b
     .rename_i kvs e;let(D,M,i):=nt j q e;split at b
      .rename_i k L;split at b
       .rename_i cs;show(D,k,M,vx (I.mono m) L,zi cs (wa i),λv d=>?_,λd=>?_)
        .rcases x3 (k:=k) i with⟨e1,e2⟩ | ⟨v1,u1,e1,e2,l4⟩
         .rw[e2]at d;cases d
         .rw[e2]at d;cases d;rw[e1]at b;show b.ok j l4
        .rcases x3 (k:=k) i with⟨e1,e2⟩ | ⟨v1,u1,e1,e2,l4⟩
         .rw[e1]at b;show b.ok (j.put q e rfl ⟨_,md,y9 i l⟩) l
         .rw[e2]at d;cases d
       .show b.elim
      .show b.elim
     .show b.elim
    | _=>show b.elim))))
theorem xl{td ty:TE}{fd fy:L2.St->CH->Out V}(hd:Sm R E LE td fd)(hy:Sm R E LE ty fy):Sm R E LE (Ep td ty) (λφ h=>(fd φ h).bind λx h1=>if o6 x h1 then(fy φ h1).bind λy h2=>match x with
  | .ref n=>match kr h2 n with
   | some (.dk kvs)=>match keyOf y with
    | some k=>match lB kvs k with
     | some v=>.ok v (oo h2 n (.dk (og kvs k)))
     | none=>.no
    | none=>.no
   | _=>.no
  | _=>.no
  else .no):=λι φ h σ H Q f r p=>
 hd ι φ h σ H _ f r (post.bind p λx h1 ι1 u s z j o g=>by
  cases c:o6 x h1 with
  | false=>rw[c]at g;show g.elim
  | true=>
   rw[c,if_pos rfl]at g;let(a,rfl,C):=zb j o c;show(a,rfl,C,hy ι1 φ h1 σ s _ (f.mono z) j (post.bind g λy h2 ι2 w G B i t b=>by
    cases x with
    | ref n=>
     let(I,l,A):=o.mono B;cases A;dsimp only at b;try simp only[jm,jY,jS,jH,jN,jQ,jT,jU,jX,jV,jW]at b
     split at b
     .rename_i kvs e;let(q,F,m):=nt i l e;split at b
      .rename_i k D;split at b
       .rename_i v d;rcases x3 (k:=k) m with⟨e1,e2⟩ | ⟨v1,u1,e1,e2,l4⟩
        .rw[e1]at d;cases d
        .rw[e1]at d;cases d;show(q,k,u1,F,vx t D,e2,b.ok (i.put l e rfl ⟨_,md,LY m⟩) l4)
       .show b.elim
      .show b.elim
     .show b.elim
    | _=>show b.elim)))
theorem xi{te:TE}{fe:L2.St->CH->Out V}(he:Sm R E LE te fe):Sm R E LE (tS R.K te) (λφ h=>(fe φ h).bind λx h1=>match x with
  | .ref n=>match kr h1 n with
   | some (.lst xs)=>nk (.lst xs.reverse) h1
   | _=>.no
  | _=>.no):=λι φ h σ H Q f r p=>
 he ι φ h σ H _ f r (post.bind p λx h1 ι1 u v y i g b=>by
  cases x with
  | ref n=>
   let(a,m,rfl):=g;dsimp only at b;try simp only[jm,jY,jS,jH,jN,jQ,jT,jU,jX,jV,jW]at b
   split at b
   .rename_i xs e;let(s,t,o):=nZ i m e;have d:∀{xs c:List V},LA ι1 xs c->LA ι1 xs.reverse c.reverse:=by
     intro xs;induction xs with
     | nil=>intro c l;cases ny l;rfl
     | cons x xs ih=>
      intro c l;let(u,w,rfl,g,j):=mO l;rw[List.reverse_cons,List.reverse_cons];show ju.append (ih j) (ju.one g)
    show(a,s,rfl,jM.of t,λq k=>p3 b i k ⟨_,md,RVs.mono ⟨[q],rfl⟩ (d o)⟩)
   .show b.elim
  | _=>show b.elim)
end
end
end Rn
namespace Rn
open L2 PySem
noncomputable section
section
variable{R:Run}{E:XK}{ι ι':List Addr}{φ σ : L2.St}{h h':CH}{H H':Hp}{D:Ends}{P:Hp}
def yE(ss:List Str)(i:Nat)(h:CH):pA:=match ss[i]? with
 | some z=>.item (.str z) h
 | none=>.stop
theorem Fh{a:Addr}{od:Obj}{ys:List (jz × V)}{ss:List Str}:oJ { R with Pr:=upd P a (.frz od (.dK ys)) } ι (B0 a od ys ss) (yE ss):=λi ι1 h H p r=>by
 have b:H a=some (.frz od (.dK ys)):=r.pr a _ md;unfold yE;try simp only[jm]
 cases c:ss[i]? with
 | none=>show(b,vf c)
 | some z=>show(⟨b,(cb.mp c).1⟩,λx f ⟨e,d⟩=>⟨ι1,iS _,e ▸ r,by rw[gG,c]at d;cases d;rfl⟩)
def z4(n:Nat)(i:Nat)(h:CH):pA:=match kr h n with
 | some (.fz kvs)=>match(kvs.map (·.2))[i]? with
  | some v=>.item v h
  | none=>.stop
 | _=>.no
theorem Li{n:Nat}{a:Addr}{od:Obj}{ys:List (jz × V)}(ea : ι[n]?=some a):oJ { R with Pr:=upd P a (.frz od (.dK ys)) } ι (BZ a od ys) (z4 n):=λi ι1 h H p r=>by
 have b:H a=some (.frz od (.dK ys)):=r.pr a _ md;unfold z4;simp only[jm];cases e:h[n]? with
 | none=>trivial
 | some o=>
  cases o with
  | fz kvs=>
   let(w,q,g,d):=r.obj n a _ (ou p ea) e;rw[b]at g;cases g;dsimp only;cases c:(kvs.map (·.2))[i]? with
   | none=>
    have:=vf c;rw[iz]at this;show(b,by rw[wa d];show this)
   | some v=>
    let(u,f,l):=nM d.2 c;have k:=(cb.mp f).1;rw[iz]at k;show(⟨b,k⟩,λx s ⟨m,j⟩=>⟨ι1,iS _,m ▸ r,by rw[f]at j;cases j;show l⟩)
  | _=>trivial
theorem i9.less{o:jE}(q:i9 R E D ι o)(hP:∀ b o,R.Pr b=some o->P b=some o):i9 { R with Pr:=P } E D ι o:=by
 have c:∀{ι h H},HR { R with Pr:=P } ι h H->HR R ι h H:=λr=>HR.less (P:=R.Pr) (P':=P) r hP;cases o with
 | no=>show q
 | nx φ h=>showλι2 u H a r=>q ι2 u H a (c r)
 | bk φ h=>showλι2 u H a r=>q ι2 u H a (c r)
 | ct φ h=>showλι2 u H a r=>q ι2 u H a (c r)
 | rt φ h=>showλι2 u H a r=>q ι2 u H a (c r)
 | exc C od h=>showλι2 u H a r=>q ι2 u H a (c r)
theorem FX{a:Addr}{O:HO}(pa:R.Pr a=none):∀ b o,R.Pr b=some o->upd R.Pr a O b=some o:=λb o q=>by
 rw[kk (λz=>by rw[z,pa]at q;cases q)];show q
theorem tX{td:TE}{g:TG}{tb:TS}{fd:L2.St->CH->Out V}{fg:V->L2.St->CH->Out L2.St}{fb:L2.St->CH->jE}(n:Nat)(hd:Sm R E LE td fd)(hg:∀ P,rq { R with Pr:=P } E g fg)(hb:∀ P,nI { R with Pr:=P } E tb fb) :
  nI R E (pU (r6 td) g tb) (λφ h=>(fd φ h).bindS λx h1=>match x with
   | .ref k=>match kr h1 k with
    | some (.dk kvs)=>match keysS kvs with
     | some ss=>qY (yE ss) fg fb n 0 φ (oo h1 k (.fz kvs))
     | none=>.no
    | _=>.no
   | _=>.no):=λι φ h σ H D f r p=>
 hd ι φ h σ H _ f r (p.bind λx h1 ι1 u v o c s b=>by
  cases x with
  | ref k=>
   let(a,d,rfl):=s;dsimp only at b;try simp only[jm,jY,jS,jH,jN,jQ,jT,jU,jX,jV,jW]at b
   split at b
   .rename_i kvs e;let(i,j,q):=nt c d e;split at b
    .rename_i ss l;have t:=c.sep k a _ d e rfl;show(a,i,ss,rfl,j,q.1.trans (zm l),λm=>tY (R:={ R with Pr:=upd R.Pr a (.frz m (.dK i)) }) n Fh (hg _) (hb _) (f.mono o) (c.freeze d e j) (i9.less b (FX t)))
    .show b.elim
   .show b.elim
  | _=>show b.elim)
def qC(k:Nat):Out V->Out V
 | .ok v h=>match kr h k with
  | some (.fz kvs)=>.ok v (oo h k (.dk kvs))
  | _=>.no
 | .exc C od h=>.exc C od h
 | .no=>.no
theorem Gx{k:Nat}{a:Addr}{od:Obj}{ys:List (jz × V)}{o:Out V}{Q:VK}(ea : ι[k]?=some a)(pa:R.Pr a=none)(q:post R E LE ι Q (qC k o)) :
  post { R with Pr:=upd R.Pr a (.frz od (.dK ys)) } E LE ι (λv H'=>∃ od kvs',H' a=some (.frz od (.dK kvs'))/\Q v (upd H' a (.dK kvs'))) o:=by
 cases o with
 | ok v h=>
  intro ι2 g l b c f;unfold qC at q;try simp only[jm,jY,jS,jH,jN,jQ,jT,jU,jX,jV,jW]at q
  try dsimp only at q
  try simp only[jm,jY,jS,jH,jN,jQ,jT,jU,jX,jV,jW]at q
  split at q
  .rename_i i e;let(d,j):=c.thaw (R:=R) (P:=R.Pr) (ou b ea) e pa;show(od,ys,d,q ι2 g _ b j f)
  .show q.elim
 | exc C od' h=>showλι2 u H b r=>q ι2 u H b (HR.less (P:=R.Pr) r (FX pa))
 | no=>show q.elim
theorem Gz{td te:TE}{tt:TT}{g:TG}{k_:Nat}{cs:List (Nat × Str)}{fd fe:L2.St->CH->Out V}{ft:L2.St->CH->Out Bool}{fg:V->L2.St->CH->Out L2.St}(n:Nat)(hd:Sm R E LE td fd)(hg:∀ P,rq { R with Pr:=P } E g fg)(ht:∀ P,Sm { R with Pr:=P } E LB tt ft)(he:∀ P,Sm { R with Pr:=P } E LE te fe) :
  Sm R E LE (qD (ve k_ cs (r6 td) g tt te)) (λφ h=>match fd φ h with
   | .ok (.ref k) h1=>match kr h k with
    | some (.dk _)=>match kr h1 k with
     | some (.dk kvs)=>match keysS kvs with
      | some ss=>qC k (oy (yE ss) fg ft fe (oO k_ cs φ) n 0 [] (oo h1 k (.fz kvs)))
      | none=>.no
     | _=>.no
    | _=>.no
   | _=>.no):=λι φ h σ H Q f r p=>by
 dsimp only at p;try simp only[jm,jY,jS,jH,jN,jQ,jT,jU,jX,jV,jW]at p
 cases e0:fd φ h with
 | no=>rw[e0]at p;show p.elim
 | exc C j h1=>rw[e0]at p;show p.elim
 | ok x h1=>
  rw[e0]at p;cases x with
  | ref k=>
   dsimp only at p;try simp only[jm,jY,jS,jH,jN,jQ,jT,jU,jX,jV,jW]at p
   split at p
   .rename_i z m;split at p
    .rename_i kvs e;split at p
     .rename_i ss q;have lk:k<ι.length:=by rw[r.len];show(cb.mp m).1
      obtain⟨a,l⟩:∃ a,ι[k]?=some a:=⟨_,b7 lk⟩;let(s,t,_):=nt r l m;show(a,s,t,hd ι φ h σ H _ f r ?_);rw[e0];intro ι1 u A d c w;let(B,b,rfl):=w;have:=ou d l;rw[this]at b;cases b;let(i,o,v):=nt c this e;have y:=c.sep k a _ this e rfl;show(a,i,ss,rfl,o,v.1.trans (zm q),λj=>y0 (R:={ R with Pr:=upd R.Pr a (.frz j (.dK i)) }) n Fh (hg _) (ht _) (he _) (f.mono d).caps (c.freeze this e o) (Gx this y (post.mono d p)))
     .show p.elim
    .show p.elim
   .show p.elim
  | _=>show p.elim
theorem Gy{td te:TE}{g:TG}{k_:Nat}{cs:List (Nat × Str)}{fd fe:L2.St->CH->Out V}{fg:V->L2.St->CH->Out L2.St}(n:Nat)(hd:Sm R E LE td fd)(hg:∀ P,rq { R with Pr:=P } E g fg)(he:∀ P,Sm { R with Pr:=P } E LE te fe) :
  Sm R E LE (qD (qF k_ cs (uc td) g te)) (λφ h=>match fd φ h with
   | .ok (.ref k) h1=>match kr h k with
    | some (.dk _)=>match kr h1 k with
     | some (.dk kvs)=>qC k (oy (z4 k) fg (λ_ h=>.ok true h) fe (oO k_ cs φ) n 0 [] (oo h1 k (.fz kvs)))
     | _=>.no
    | _=>.no
   | _=>.no):=λι φ h σ H Q f r p=>by
 dsimp only at p;try simp only[jm,jY,jS,jH,jN,jQ,jT,jU,jX,jV,jW]at p
 cases e0:fd φ h with
 | no=>rw[e0]at p;show p.elim
 | exc C j h1=>rw[e0]at p;show p.elim
 | ok x h1=>
  rw[e0]at p;cases x with
  | ref k=>
   dsimp only at p;try simp only[jm,jY,jS,jH,jN,jQ,jT,jU,jX,jV,jW]at p
   split at p
   .rename_i w m;split at p
    .rename_i kvs e;have lk:k<ι.length:=by rw[r.len];show(cb.mp m).1
     obtain⟨a,l⟩:∃ a,ι[k]?=some a:=⟨_,b7 lk⟩;let(q,s,_):=nt r l m;show(a,q,s,hd ι φ h σ H _ f r ?_);rw[e0];intro ι1 u y d c t;let(A,b,rfl):=t;have:=ou d l;rw[this]at b;cases b;let(i,o,B):=nt c this e;have v:=c.sep k a _ this e rfl;show(a,i,rfl,o,λj=>?_);have z:=y0 (R:={ R with Pr:=upd R.Pr a (.frz j (.dK i)) }) (k:=k_) (cs:=cs) (σ:=σ) n (Li this) (hg _) sTrue (he _) (f.mono d).caps (c.freeze this e o) (Gx this v (post.mono d p));show z
    .show p.elim
   .show p.elim
  | _=>show p.elim
end
end
end Rn
namespace Rn
open L2 PySem
noncomputable section
noncomputable def qk{α β : Type}(l:List α)(k:List α->β) : β:=oH (motive:=λ_=>(List α->β)->β) (λk=>k []) (λa _ ih k=>ih λl'=>k (a::l')) l k
theorem By{α β : Type}(l:List α):∀ k:List α->β,qk l k=k l:=by
 induction l with
 | nil=>intro k;rfl
 | cons a l ih=>intro k;show ih _
noncomputable def fnX(np nn:Nat)(body:L2.St->CH->jE):List V->CH->Out V:=λus h=>qk h λh=>if cj us.length np then match body (us.map some++gB (nn-us.length) none) h with
  | .nx _ h1=>.ok .non h1
  | .rt v h1=>.ok v h1
  | .exc C od h1=>.exc C od h1
  | _=>.no
 else .no
section
variable{K:bY}{cl:Nat->Addr}{cs:List Addr}{vs:List V}{H:Hp}{Q:VK}{E:XK}{np:Nat}{N:List Str}{body:L2.St->CH->jE}{t:TS}
theorem EH{nn:Nat}(h:i5 K cl cs (fnX np nn body) vs H Q E):vs.length=np:=by
 let(Pr,D0,ι,b,h,a,r,p):=h;unfold fnX at p;rw[By]at p;split at p
 .rename_i c;rw[a.length];show bN c
 .show p.elim
theorem MZ{ι : List Addr}{us vs:List V}(l:LA ι us vs)(N:List Str):FR ι (us.map some++gB (N.length-us.length) none) (L2.start N vs):=by
 have e:=l.length;unfold L2.start;show(by simp[e],λi v q=>?_);by_cases c:i<us.length
 .rw[gZ (by simpa using c),gG]at q;let(w,b,f):=gK.mp q;cases f;let(u,a,d):=nM l b;show(u,by rw[gZ (by simp;ac_nf),gG,a];rfl,d)
 .rw[gU (by simpa using c),jv]at q;split at q <;> cases q
theorem E8(hb:∀ Pr D0,(∀ b o,H b=some o->D0 b)->nI ⟨K,cl,cs,Pr,D0⟩ E t body)(h:i5 K cl cs (fnX np N.length body) vs H Q E):t { nx:=λ_ H'=>Q .non H',rt:=Q } (L2.start N vs) H:=by
 let(Pr,D0,ι,i,h,j,r,p):=h;unfold fnX at p;rw[By]at p;split at p
 .have k:HR ⟨K,cl,cs,Pr,λb=>∃ o,H b=some o⟩ ι h H:=HR.up (R:=⟨K,cl,cs,Pr,D0⟩) r _ λb q=>q;have f:∀{ι h a},HR ⟨K,cl,cs,Pr,λb=>∃ o,H b=some o⟩ ι h a->HR ⟨K,cl,cs,Pr,D0⟩ ι h a:=λq=>HR.up (R:=⟨K,cl,cs,Pr,λb=>∃ o,H b=some o⟩) q D0 λb d=>q.dm b (r.dm b d);show hb Pr (λb=>∃ o,H b=some o) (λb o q=>⟨o,q⟩) ι _ h _ H _ (MZ j N) k ?_;generalize body (i.map some++gB (N.length-i.length) none) h=o at p ⊢;cases o with
  | nx φ h1=>showλι1 σ1 a c e _=>p ι1 .non a c (f e) rfl
  | rt v h1=>showλι1 u a c e g=>p ι1 u a c (f e) g
  | exc C od h1=>showλι1 l a c e g=>p ι1 l a c (f e) g
  | _=>show p.elim
 .show p.elim
end
end
end Rn
namespace Rn
open L2 PySem
noncomputable section
section
variable{R:Run}{E:XK}{ι ι':List Addr}{φ σ : L2.St}{h h':CH}{H H':Hp}{D_:Ends}
theorem HR.kon{b:Addr}{xs:List V}(r:HR R ι h H)(hx:xs.all V.free=true)(hb:∀ H,mQ R.K H b xs):HR R (ι++[b]) (h++[.kon xs]) H:=by
 have i:∀(n:Nat) a d,(ι++[b])[n]?=some a->(h++[CO.kon xs])[n]?=some d->(ι[n]?=some a/\h[n]?=some d)\/(a=b/\d=.kon xs):=λn a d g f=>by
  have k:=r.len;by_cases c:n<ι.length
  .rw[gZ c]at g;rw[gZ ∅]at f;show .inl ⟨g,f⟩
  .have q:=(cb.mp g).1;have e:n=ι.length:=by simp at q;ac_nf
   subst e;rw[gU ∅]at g f;simp at g;rw[k]at f;simp at f;show .inr ⟨g.symm,f.symm⟩
 show(by simp[r.len],λn a d g f=>?_,λn m a d p g f j s l o=>?_,r.pr,λn a d g f j=>?_,r.cst.trans ⟨[b],rfl⟩,r.dm)
 .rcases i n a d g f with⟨k1,k2⟩ | ⟨rfl,rfl⟩
  .show(r.obj n a d k1 k2).mono ⟨[b],rfl⟩
  .show(xs,hb H,wq hx)
 .rcases i n a d g j with⟨k1,k2⟩ | ⟨_,rfl⟩
  .rcases i m a p f s with⟨j1,j2⟩ | ⟨_,rfl⟩
   .show r.inj n m a d p k1 j1 k2 j2 l o
   .cases o
  .cases l
 .rcases i n a d g f with⟨k1,k2⟩ | ⟨_,rfl⟩
  .show r.sep n a d k1 k2 j
  .cases j
theorem Nc(ss:List Str):(ss.map V.str).all V.free=true:=by
 induction ss with
 | nil=>rfl
 | cons z ss ih=>rw[hV,m2,ih];rfl
theorem xk{D:List (Str × List Str)}{td ty:TE}{fd fy:L2.St->CH->Out V}(j:Nat)(hF:∃ a,R.cs[j]?=some a/\pX R.K a D=true)(hd:Sm R E LE td fd)(hy:Sm R E LE ty fy):Sm R E LE (tT R.K D td ty) (λφ h=>(fd φ h).bind λx h1=>match x with
  | .ref n=>if cj n j then(fy φ h1).bind λy h2=>match y with
    | .str k=>match uT k D with
     | some ss=>.ok (.ref (len h2)) (snoc h2 (CO.kon (ss.map V.str)))
     | none=>.ok .non h2
    | _=>.no
   else .no
  | _=>.no):=λι φ h σ H Q f r p=>
 hd ι φ h σ H _ f r (post.bind p λx h1 ι1 u o v m A g=>by
  cases x with
  | ref n=>
   let(a,t,rfl):=A;dsimp only at g;try simp only[jm,jY,jS,jH,jN,jQ,jT,jU,jX,jV,jW]at g
   split at g
   .rename_i c;have c:=bN c;subst c;let(B,l,z):=hF;have:=ou m.cst l;rw[t]at this;cases this;show(a,rfl,z,hy ι1 φ h1 σ o _ (f.mono v) m (post.bind g λy h2 ι2 w q C i s d=>?_));cases y with
    | str k=>
     cases s;show(k,rfl,λss b e hb=>?_,λe=>?_)
     .dsimp only at d;try simp only[jm,jY,jS,jH,jN,jQ,jT,jU,jX,jV,jW]at d
      rw[e]at d;show d (ι2++[b]) (.ref b) q ⟨[b],rfl⟩ (i.kon (Nc ss) hb) ⟨b,vh i,rfl⟩
     .dsimp only at d;try simp only[jm,jY,jS,jH,jN,jQ,jT,jU,jX,jV,jW]at d
      rw[e]at d;show d.ok i rfl
    | _=>show d.elim
   .show g.elim
  | _=>show g.elim)
theorem qW(ncs:Nat)(hn:R.cs.length=ncs)(exc:Nat->Bool)(tab:Nat->V->Option Bool)(hx:∀ C,exc C=true->nE R.K (R.cl C))(ht:∀ C j a b,R.cs[j]?=some a->tab C (.ref j)=some b->iU R.K (.ref (R.cl C)) (.ref a)=some b)(ht2:∀ C T b,tab C (.ty T)=some b->iU R.K (.ref (R.cl C)) (.type T)=some b) :
  SL R E (rQ R.K) (λxs h=>match xs with
   | [.ref n,y]=>match kr h n with
    | some (.exo C _)=>if exc C then match tab C y with
      | some b=>match y with
       | .ref j=>if mK j ncs then .ok (.bl b) h else .no
       | .ty _=>.ok (.bl b) h
       | _=>.no
      | none=>.no
     else .no
    | _=>.no
   | _=>.no):=λι h H xs s Q r l p=>by
 dsimp only at p;try simp only[jm,jY,jS,jH,jN,jQ,jT,jU,jX,jV,jW]at p
 split at p
 .rename_i n y;let(u,D,rfl,x,q):=mO l;let(w,B,rfl,k,v):=mO q;cases ny v;let(a,t,rfl):=x;split at p
  .rename_i C F e;split at p
   .rename_i c;let(A,o,_):=r.obj n a _ t e;split at p
    .rename_i b i;cases y with
     | ref j=>
      let(d,z,rfl):=k;dsimp only at p;try simp only[jm,jY,jS,jH,jN,jQ,jT,jU,jX,jV,jW]at p
      split at p
      .rename_i g;have g:j+1<=ncs:=cm g;obtain⟨m,f⟩:∃ m,R.cs[j]?=some m:=⟨_,b7 (by rw[hn];show g)⟩;have:=ou r.cst f;rw[z]at this;cases this;show(.ref a, .ref d, .ref (R.cl C),b,rfl, .inr ⟨d,rfl⟩, .exc o (hx C c),ht C j d b f i,p.ok r rfl)
      .show p.elim
     | ty T=>cases k;show(.ref a, .ty T, .ref (R.cl C),b,rfl, .inl ⟨T,rfl⟩, .exc o (hx C c),ht2 C T b i,p.ok r rfl)
     | _=>show p.elim
    .show p.elim
   .show p.elim
  .show p.elim
 .show p.elim
theorem zg{Cs:Addr->Prop}{mn:Str}{F:List V->CH->Out V}{ta:TE}{tA:TA}{fa:L2.St->CH->Out V}{fA:L2.St->CH->Out (List V)}(cls:Nat->Bool)(hcl:∀ C,cls C=true->Cs (R.cl C))(ha:∀ E,Sm R E LE ta fa)(hA:∀ E,Sm R E LA tA fA) :
  Ee R (rC Cs mn (i5 R.K R.cl R.cs F) ta tA) (λφ h=>(fa φ h).bind λx h1=>match x with
   | .ref n=>match kr h1 n with
    | some (.ins C fs)=>if cls C&&(pw mn fs).isNone then(fA φ h1).bind λvs h2=>F (x::vs) h2 else .no
    | _=>.no
   | _=>.no):=λE ι φ h σ H Q f r p=>
 ha E ι φ h σ H _ f r (post.bind p λx h1 ι1 u m s i j b=>by
  cases x with
  | ref n=>
   let(a,t,rfl):=id j;dsimp only at b;try simp only[jm,jY,jS,jH,jN,jQ,jT,jU,jX,jV,jW]at b
   split at b
   .rename_i C fs e;split at b
    .rename_i c;rw[cn]at c;let(A,d,B,w):=i.obj n a _ t e;have g:=zv (mn:=mn) w;have q:d.lookup mn=none:=by
      cases e2:fs.lookup mn with
      | none=>rw[e2]at g;show g
      | some v=>rw[e2]at c;cases c.2
     show(a,_,A,d,rfl,B,hcl C c.1,q,hA E ι1 φ h1 σ m _ (f.mono s) i (post.bind b λvs h2 ι2 y D z k o l=>⟨R.Pr,R.D0,ι2, .ref n::vs,h2,⟨.ref a,y,rfl,j.mono z,o⟩,k,l⟩))
    .show b.elim
   .show b.elim
  | _=>show b.elim)
end
end
end Rn
namespace Rn
open L2 PySem
noncomputable section
section
variable{R:Run}{E:XK}{ι ι':List Addr}{φ σ : L2.St}{h h':CH}{H H':Hp}{D_:Ends}
theorem Qo:SL R E rStrI (λxs h=>match xs with
  | [.int i]=>if mK (Nat.log2 i.natAbs) 1920 then .ok (.str (toString i)) h else .no
  | _=>.no):=λι h H xs b Q r l p=>by
 dsimp only at p;try simp only[jm,jY,jS,jH,jN,jQ,jT,jU,jX,jV,jW]at p
 split at p
 .let(u,e,rfl,d,a):=mO l;cases ny a;cases d;split at p
  .rename_i c;show(cm c,p.ok r rfl)
  .show p.elim
 .show p.elim
theorem vI:S1 R E rFmtU (λx h=>match x with
  | .int i=>if mK (Nat.log2 i.natAbs) 1920 then .ok (.str (toString i)) h else .no
  | .str z=>if iO z.length 10000 then .ok (.str z) h else .no
  | _=>.no):=λι h H x a Q r l p=>by
 dsimp only at p;try simp only[jm,jY,jS,jH,jN,jQ,jT,jU,jX,jV,jW]at p
 split at p
 .cases l;split at p
  .rename_i c;show(cm c,p.ok r rfl)
  .show p.elim
 .cases l;split at p
  .rename_i c;have:=cm c;have : (10000:Nat)<=sizeLine:=by decide
   show(∅,p.ok r rfl)
  .show p.elim
 .show p.elim
theorem Qy:SL R E rIntT (λxs h=>match xs with
  | [.bl k]=>.ok (.int (if k=true then 1 else 0)) h
  | [.str z]=>match PySem.intText? z with
   | some n=>if iO z.length 640 then .ok (.int n) h else .no
   | none=>.no
  | _=>.no):=λι h H xs e Q r l p=>by
 dsimp only at p;try simp only[jm,jY,jS,jH,jN,jQ,jT,jU,jX,jV,jW]at p
 split at p
 .let(u,d,rfl,b,a):=mO l;cases ny a;cases b;show p.ok r rfl
 .let(u,d,rfl,b,a):=mO l;cases ny a;cases b;split at p
  .rename_i n f;split at p
   .rename_i c;show(n,f,cm c,p.ok r rfl)
   .show p.elim
  .show p.elim
 .show p.elim
theorem zQ:S2 R E (sY R.K) (λx y h=>match x,y with
  | .str i, .str j=>.ok (.bl (!(jR j i 0 j.length 1).isEmpty)) h
  | x, .ref n=>zT false x (.ref n) h
  | _,_=>.no):=λι h H x y d e Q r c b p=>by
 dsimp only at p;try simp only[jm,jY,jS,jH,jN,jQ,jT,jU,jX,jV,jW]at p
 split at p
 .cases c;cases b;show p.ok r rfl
 .rename_i n;have z:=uH (neg:=false) ι h H x (.ref n) d e Q r c b p;let(a,f,rfl):=b;cases d <;> show z
 .show p.elim
theorem Qn:S2 R E (xr R.K) (λx y h=>match x,y with
  | .non, .ref n=>match kr h n with
   | some (.lst xs)=>match p7 (λx acc=>match oF h 20 x,acc with | some d,some ds=>some (d::ds) | _,_=>none) (some []) xs with
    | some ds=>if ds.all λd=>iO (depD d) 40 then .ok (.bl (ds.any nonD)) h else .no
    | none=>.no
   | _=>.no
  | _,_=>.no):=λι h H x y q o Q r j f p=>by
 dsimp only at p;try simp only[jm,jY,jS,jH,jN,jQ,jT,jU,jX,jV,jW]at p
 split at p
 .cases j;let(a,i,rfl):=f;split at p
  .rename_i xs e;split at p
   .rename_i ds m;split at p
    .rename_i c;let(b,l,k):=nZ r i e;show(a,b,ds,rfl,rfl,jM.of l,A3 (Bh r 20) k m,λd g=>cm (kq.mp c d g),p.ok r rfl)
    .show p.elim
   .show p.elim
  .show p.elim
 .show p.elim
def xF(z:Str):List Str->List Str
 | []=>[z]
 | x::xs=>if PyProof.Rows.sortedS [z,x]then z::x::xs else x::xF z xs
def srt:List Str->List Str
 | []=>[]
 | z::zs=>if(srt zs).contains z then srt zs else xF z (srt zs)
def rJ(ss o:List Str):Bool:=PyProof.Rows.sortedS o&&decide o.Nodup&&(o.all λz=>ss.contains z)&&(ss.all λz=>o.contains z)
theorem JO{ss o out:List Str}(c:rJ ss o=true)(hs:PyProof.Rows.sortedS out=true)(hn:out.Nodup)(hm:∀ z,z∈out↔z∈ss):out=o:=by
 unfold rJ at c;try simp only[jm,jY,jS,jH,jN,jQ,jT,jU,jX,jV,jW]at c
 rw[cn,cn,cn,decide_eq_true_eq]at c;let(((e,b),a),d):=c;show Mn hs e hn b λz=>⟨λh=>?_,λh=>?_⟩
 .show List.contains_iff_mem.mp (kq.mp d z ((hm z).mp h))
 .show(hm z).mpr (List.contains_iff_mem.mp (kq.mp a z h))
theorem Hg:SL R E Ei (λxs h=>match xs with
  | [.ref n]=>match kr h n with
   | some (.dk kvs)=>match keysS kvs with
    | some ss=>if rJ ss (srt ss)&&decide ss.Nodup&&mK ss.length 64 then nk (.lst ((srt ss).map V.str)) h else .no
    | none=>.no
   | _=>.no
  | _=>.no):=λι h H xs j Q r l p=>by
 dsimp only at p;try simp only[jm,jY,jS,jH,jN,jQ,jT,jU,jX,jV,jW]at p
 split at p
 .let(u,w,rfl,t,i):=mO l;cases ny i;let(a,o,rfl):=t;split at p
  .rename_i kvs e;split at p
   .rename_i ss g;split at p
    .rename_i c;rw[cn,cn,decide_eq_true_eq]at c;let(d,v,s):=nt r o e;show(a,d,ss,rfl,v,s.1.trans (zm g),cm c.2,λq f k b=>?_);have m:=JO c.1.1 b.2 (b.1.nodup_iff.mpr c.1.2) λz=>b.1.mem_iff;rw[m];show p3 p r k ⟨_,md,AQ _⟩
    .show p.elim
   .show p.elim
  .show p.elim
 .show p.elim
end
end
end Rn
namespace Rn
open L2 PySem
noncomputable section
section
variable{R:Run}{E:XK}{ι ι':List Addr}{φ σ : L2.St}{h h':CH}{H H':Hp}{D_:Ends}
theorem HB{tk tv:TE}{fk fv:L2.St->CH->Out V}(hk:Sm R E LE tk fk)(hv:Sm R E LE tv fv):Sm R E LE (tU [(tk,tv)]) (λφ h=>(fk φ (h++[.dk []])).bind λx h1=>(fv φ h1).bind λy h2=>match keyOf x with
  | some k=>match kr h2 h.length with
   | some (.dk [])=>.ok (.ref h.length) (h2.set h.length (.dk [(k,y)]))
   | _=>.no
  | none=>.no):=λι φ h σ H Q f r p=>by
 intro q o;have m:HR R (ι++[q]) (h++[.dk []]) (upd H q (.dK [])):=r.new o ⟨[],md,rfl,rfl⟩;have v:=vh (p:=q) r;rw[Nl];show hk (ι++[q]) φ _ σ _ _ (f.mono ⟨[q],rfl⟩) m (post.bind (post.mono ⟨[q],rfl⟩ p) λx h1 ι1 u l c i t j=>hv ι1 φ h1 σ l _ (f.mono (List.IsPrefix.trans ⟨[q],rfl⟩ c)) i (post.bind j λy h2 ι2 w D d g n a=>?_));split at a
 .rename_i k z;split at a
  .rename_i e;rw[jm]at e;have b:=ou (c.trans d) v;let(C,B,s):=nt g b e;cases vg s;show(B,[(k,w)],by rw[vx (t.mono d) z];rfl,by simp,?_);have A:vT [] [(k,w)]=[(k,w)]:=rfl;rw[A];show a.ok (g.put b e rfl ⟨[(k,w)],md,sE n ⟨rfl,rfl⟩⟩) ⟨q,b,rfl⟩
  .show a.elim
 .show a.elim
def yH(h:CH):List V->Option (List (Str × V))
 | []=>some []
 | .ref n::vs=>match h[n]?,yH h vs with
  | some (.tup [.str z,v]),some ps=>some ((z,v)::ps)
  | _,_=>none
 | _=>none
theorem Ng(r:HR R ι h H):∀{xs ys:List V}{ps:List (Str × V)},LA ι xs ys->yH h xs=some ps->∃(as:List Addr)(qs:List (Str × V)),ys=as.map V.ref/\as.length=qs.length/\nG ι ps qs/\∀(i:Nat)(a:Addr)(p:Str × V),as[i]?=some a->qs[i]?=some p->H a=some (.tup [.str p.1,p.2]):=by
 intro xs;induction xs with
 | nil=>intro ys ps l e;cases ny l;cases e;show([],[],rfl,rfl,⟨rfl,rfl⟩,λi a p h=>by simp at h)
 | cons x xs ih=>
  intro ys ps l e;let(u,J,rfl,A,g):=mO l;cases x with
  | ref n=>
   let(a,o,rfl):=A;unfold yH at e;try simp only[jm,jY,jS,jH,jN,jQ,jT,jU,jX,jV,jW]at e
   split at e
   .rename_i z v w f m;cases e;let(as,qs,y,C,s,E):=ih g m;let(I,D,t):=r.obj n a _ o f;let(K,F,rfl,j,d):=mO t;let(q,G,rfl,k,B):=mO d;cases ny B;cases j;show(a::as,(z,q)::qs,by rw[y];rfl,by simp[C],sE k s,λi b p hb c=>?_);cases i with
    | zero=>simp at hb c;rw[<- hb, <- c];show D
    | succ i=>show E i b p (by simpa using hb) (by simpa using c)
   .cases e
  | _=>cases e
theorem M5:∀{ps qs:List (Str × V)}{l l':List (jz × V)},nG ι ps qs->nG ι l l'->nG ι (ps.foldl (λl p=>putK l (iZ p.1) p.2) l) (qs.foldl (λl p=>putK l (iZ p.1) p.2) l'):=by
 intro ps;induction ps with
 | nil=>intro qs l l' b a;cases vg b;show a
 | cons p ps ih=>
  let(k,v):=p;intro qs l l' b a;let(u,e,rfl,d,c):=wm b;rw[List.foldl_cons,List.foldl_cons];show ih c (y9 a d)
theorem Qz:SL R E El (λxs h=>match xs with
  | [.ref n]=>match kr h n with
   | some (.lst ys)=>match yH h ys with
    | some ps=>nk (.dk (vR ps)) h
    | none=>.no
   | _=>.no
  | _=>.no):=λι h H xs f Q r l p=>by
 dsimp only at p;try simp only[jm,jY,jS,jH,jN,jQ,jT,jU,jX,jV,jW]at p
 split at p
 .let(u,x,rfl,t,d):=mO l;cases ny d;let(a,j,rfl):=t;split at p
  .rename_i ys e;split at p
   .rename_i ps c;let(y,b,o):=nZ r j e;let(i,k,s,v,m,w):=Ng r o c;rw[s]at b;show(a,i,k,rfl,b,v,w,λq g=>p3 p r g ⟨_,md,?_⟩);show(M5 (l:=[]) (l':=[]) m ⟨rfl,rfl⟩).mono ⟨[q],rfl⟩
   .show p.elim
  .show p.elim
 .show p.elim
end
end
end Rn
namespace Rn
open L2 PySem
noncomputable section
def Out.calm{α : Type}:Out α->Out α
 | .exc _ _ _=>.no
 | o=>o
section
variable{R:Run}{E E':XK}{ι ι':List Addr}{φ σ : L2.St}{h h':CH}{H H':Hp}{α β : Type}
theorem post.calm{L:List Addr->α->β->Prop}{Q : β->Hp->Prop}{o:Out α}(p:post R E L ι Q o.calm):post R E' L ι Q o:=by
 cases o with
 | ok v h=>show p
 | exc C od h=>show p.elim
 | no=>show p
theorem EC{dvs:List V}{F:List V->CH->Out V}{tA:TA}{fA:L2.St->CH->Out (List V)}(hd:dvs.all V.free=true)(hA:Sm R E LA tA fA) :
  Sm R E LE (nX (i5 R.K R.cl R.cs F) dvs E' tA) (λφ h=>(fA φ h).bind λvs h1=>(F (vs++dvs) h1).calm):=λι φ h σ H Q f r p=>
 hA ι φ h σ H _ f r (p.bind λx h1 ι1 u e d a c b=>⟨R.Pr,R.D0,ι1,x++dvs,h1,ju.append c (wq hd),a,post.calm b⟩)
theorem pL{a:Addr}{C:Nat}{dvs:List V}{F:List V->CH->Out V}{tA:TA}{fA:L2.St->CH->Out (List V)}(e:R.cl C=a)(hd:dvs.all V.free=true)(hA:Sm R E LA tA fA) :
  Sm R E LE (oP a (i5 R.K R.cl R.cs F) dvs E tA) (λφ h=>(fA φ h).bind λvs h1=>(F (.ref (len h1)::(vs++dvs)) (snoc h1 (.ins C []))).bind λv h2=>match v with
   | .non=>.ok (.ref (len h1)) h2
   | _=>.no):=by
 subst e;simp only[jN,jQ];show xj hd hA
theorem oW{a:Addr}{C:Nat}{tA:TA}{fA:L2.St->CH->Out (List V)}(e:R.cl C=a)(hA:Sm R E LA tA fA):nI R E (yS E a tA) (λφ h=>(fA φ h).bindS λvs h1=>if small vs then .exc C none h1 else .no):=by
 subst e;show HA hA
theorem FZ{a:Addr}{C:Nat}{H0:Hp}{F:List V->CH->Out V}{tA:TA}{fA:L2.St->CH->Out (List V)}(e:R.cl C=a)(h0:∀ b o,H0 b=some o->R.D0 b)(hx:∃ S f,nu R.K a S f)(hA:Sm R E LA tA fA) :
  nI R E (A5 R.K H0 E (yU a (i5 R.K R.cl R.cs F) E tA)) (λφ h=>(fA φ h).bindS λvs h1=>if small vs then(F (.ref h1.length::vs) (h1++[.exn C none])).bindS λv h2=>match v with
   | .non=>match kr h2 h1.length with
    | some (.exn C' od)=>if cj C' C then .exc C od (h2.set h1.length .gone)else .no
    | _=>.no
   | _=>.no else .no):=by
 subst e;show JT h0 hx hA
theorem Lu{te:TE}{i:Nat}{fe:L2.St->CH->Out V}(he:Sm R E LE (qD te) fe):nI R E (Eo (oQ te (nN i))) (λφ h=>(fe φ h).bindS λv h1=>(Out.ok (φ.set i (some v)) h1).bindS λφ2 h2=>.nx φ2 h2):=λι φ h σ H D f r p=>by
 have:=nK he (kg (i:=i)) ι φ h σ H D f r p;show this
end
noncomputable def lp(np nn:Nat)(body:L2.St->CH->jE):List V->CH->Out V:=λus h=>(fnX np nn body us h).calm
theorem i5.calm{K:bY}{cl:Nat->Addr}{cs:List Addr}{F:List V->CH->Out V}{vs:List V}{H:Hp}{Q:VK}{E E':XK}(h:i5 K cl cs (λus h=>(F us h).calm) vs H Q E):i5 K cl cs F vs H Q E':=by
 let(Pr,D0,ι,us,h,a,r,p):=h;show(Pr,D0,ι,us,h,a,r,post.calm p)
theorem KL{K:bY}{cl:Nat->Addr}{cs:List Addr}{vs:List V}{H:Hp}{Q:VK}{E:XK}{np:Nat}{body:L2.St->CH->jE}{nn:Nat}(h:i5 K cl cs (lp np nn body) vs H Q E):vs.length=np:=EH (E:=E) (i5.calm h)
theorem KJ{K:bY}{cl:Nat->Addr}{cs:List Addr}{vs:List V}{H:Hp}{Q:VK}{E:XK}{np:Nat}{N:List Str}{body:L2.St->CH->jE}{t:TS}(hb:∀ Pr D0,(∀ b o,H b=some o->D0 b)->nI ⟨K,cl,cs,Pr,D0⟩ E0 t body)(h:i5 K cl cs (lp np N.length body) vs H Q E):t { nx:=λ_ H'=>Q .non H',rt:=Q } (L2.start N vs) H :=
 E8 (E:=E0) hb (i5.calm h)
end
end Rn
namespace Rn
open L2 PySem
noncomputable section
deriving instance DecidableEq for CO
def rW(L:Nat)(ρ : List Nat):V->V
 | .ref j=>.ref ((ρ[j]?).getD L)
 | v=>v
noncomputable def sx(L:Nat)(ρ : List Nat)(a b:V):Bool:=match b with
 | .ref j=>match a with
  | .ref n=>cj n ((kr ρ j).getD L)
  | _=>false
 | .str z=>match a with
  | .str y=>pY y z
  | _=>false
 | .int j=>match a with
  | .int i=>decide (i=j)
  | _=>false
 | .bl j=>match a with
  | .bl true=>j
  | .bl false=>!j
  | _=>false
 | .non=>match a with
  | .non=>true
  | _=>false
 | _=>false
theorem EK{L:Nat}{ρ : List Nat}{a b:V}(h:sx L ρ a b=true):a=rW L ρ b:=by
 cases b with
 | ref j=>
  cases a with
  | ref n=>simp only[sx,jm]at h;rw[bN h];rfl
  | _=>cases h
 | str z=>
  cases a with
  | str y=>simp only[sx,jH,decide_eq_true_eq]at h;rw[h];rfl
  | _=>cases h
 | int z=>
  cases a with
  | int y=>simp only[sx,decide_eq_true_eq]at h;rw[h];rfl
  | _=>cases h
 | bl z=>
  cases a with
  | bl y=>cases y <;> cases z <;> first | rfl | cases h
  | _=>cases h
 | non=>
  cases a with
  | non=>rfl
  | _=>cases h
 | _=>cases h
noncomputable def pZ(L:Nat)(ρ : List Nat)(xs:List V):List V->Bool:=oH (motive:=λ_=>List V->Bool) (λys=>match ys with | []=>true | _=>false) (λa _ ih ys=>match ys with | b::ys=>g8 (motive:=λ_=>Bool) false (ih ys) (sx L ρ a b) | []=>false) xs
theorem A0{L:Nat}{ρ : List Nat}:∀{xs ys:List V},pZ L ρ xs ys=true->xs=ys.map (rW L ρ):=by
 intro xs;induction xs with
 | nil=>intro ys h;cases ys with
  | nil=>rfl
  | cons=>cases h
 | cons a xs ih=>
  intro ys h;cases ys with
  | nil=>cases h
  | cons b ys=>
   have h:(g8 (motive:=λ_=>Bool) false (pZ L ρ xs ys) (sx L ρ a b))=true:=h;cases c:sx L ρ a b with
   | false=>rw[c]at h;cases h
   | true=>rw[c]at h;rw[EK c,ih h,hV]
noncomputable def rh{κ : Type}(g : κ->κ->Bool)(L:Nat)(ρ : List Nat)(xs:List (κ × V)):List (κ × V)->Bool:=oH (motive:=λ_=>List (κ × V)->Bool) (λys=>match ys with | []=>true | _=>false) (λa _ ih ys=>match ys with | b::ys=>g8 (motive:=λ_=>Bool) false (g8 (motive:=λ_=>Bool) false (ih ys) (sx L ρ a.2 b.2)) (g a.1 b.1) | []=>false) xs
theorem Fo{κ : Type}{g : κ->κ->Bool}(hg:∀ a b,g a b=true->a=b){L:Nat}{ρ : List Nat}:∀{xs ys:List (κ × V)},rh g L ρ xs ys=true->xs=ys.map λp=>(p.1,rW L ρ p.2):=by
 intro xs;induction xs with
 | nil=>intro ys h;cases ys with
  | nil=>rfl
  | cons=>cases h
 | cons a xs ih=>
  intro ys h;cases ys with
  | nil=>cases h
  | cons b ys=>
   have h:(g8 (motive:=λ_=>Bool) false (g8 (motive:=λ_=>Bool) false (rh g L ρ xs ys) (sx L ρ a.2 b.2)) (g a.1 b.1))=true:=h;cases c:g a.1 b.1 with
   | false=>rw[c]at h;cases h
   | true=>
    rw[c]at h;cases c2:sx L ρ a.2 b.2 with
    | false=>rw[c2]at h;cases h
    | true=>
     rw[c2]at h;rw[ih h,hV, <- EK c2, <- hg _ _ c]
theorem IV(a b:Str)(h:pY a b=true):a=b:=by rw[jH]at h;show of_decide_eq_true h
theorem HM(a b:jz)(h:qJ a b=true):a=b:=by rw[yP]at h;show of_decide_eq_true h
def xg(L:Nat)(ρ : List Nat)(o o2:CO):Bool:=match o2 with
 | .gone=>true
 | .lst xs=>match o with
  | .lst ys=>pZ L ρ ys xs
  | _=>false
 | .tup xs=>match o with
  | .tup ys=>pZ L ρ ys xs
  | _=>false
 | .kon xs=>match o with
  | .kon ys=>pZ L ρ ys xs
  | _=>false
 | .dk xs=>match o with
  | .dk ys=>rh qJ L ρ ys xs
  | _=>false
 | .ins C xs=>match o with
  | .ins D ys=>g8 (motive:=λ_=>Bool) false (rh pY L ρ ys xs) (cj D C)
  | _=>false
 | _=>false
def nU(L:Nat)(ρ : List Nat)(o:CO):CO->Bool
 | .gone=>true
 | .lst xs=>decide (o=.lst (xs.map (rW L ρ)))
 | .tup xs=>decide (o=.tup (xs.map (rW L ρ)))
 | .kon xs=>decide (o=.kon (xs.map (rW L ρ)))
 | .dk xs=>decide (o=.dk (xs.map λp=>(p.1,rW L ρ p.2)))
 | .ins C xs=>decide (o=.ins C (xs.map λp=>(p.1,rW L ρ p.2)))
 | _=>false
theorem JR{L:Nat}{ρ : List Nat}{o o2:CO}(h:xg L ρ o o2=true):nU L ρ o o2=true:=by
 cases o2 with
 | gone=>rfl
 | lst xs=>cases o with
  | lst ys=>simp only[nU,decide_eq_true_eq];rw[A0 (show pZ L ρ ys xs=true from h)]
  | _=>cases h
 | tup xs=>cases o with
  | tup ys=>simp only[nU,decide_eq_true_eq];rw[A0 (show pZ L ρ ys xs=true from h)]
  | _=>cases h
 | kon xs=>cases o with
  | kon ys=>simp only[nU,decide_eq_true_eq];rw[A0 (show pZ L ρ ys xs=true from h)]
  | _=>cases h
 | dk xs=>cases o with
  | dk ys=>simp only[nU,decide_eq_true_eq];rw[Fo HM (show rh qJ L ρ ys xs=true from h)]
  | _=>cases h
 | ins C xs=>cases o with
  | ins D ys=>
   have h:(g8 (motive:=λ_=>Bool) false (rh pY L ρ ys xs) (cj D C))=true:=h;cases c:cj D C with
   | false=>rw[c]at h;cases h
   | true=>rw[c]at h;simp only[nU,decide_eq_true_eq];rw[Fo IV h,bN c]
  | _=>cases h
 | _=>cases h
def sV(L:Nat)(ρ : List Nat)(h:CH):List Nat->CH->Bool
 | [],[]=>true
 | n::r,o::os=>(match kr h n with
  | some o'=>xg L ρ o' o
  | none=>false)&&sV L ρ h r os
 | _,_=>false
noncomputable def uN(l:List Nat):Bool:=oH (motive:=λ_=>Bool) true (λa r ih=>g8 (motive:=λ_=>Bool) ih false (oH (motive:=λ_=>Bool) false (λb _ ih=>g8 (motive:=λ_=>Bool) ih true (cj a b)) r)) l
theorem Jr:∀{l:List Nat},uN l=true->l.Nodup:=by
 have m:∀(a:Nat)(r:List Nat),(oH (motive:=λ_=>Bool) false (λb _ d=>g8 (motive:=λ_=>Bool) d true (cj a b)) r:Bool)=false->a∉r:=by
  intro a r;induction r with
  | nil=>intro _ h;cases h
  | cons b r d=>
   intro h;have h:(g8 (motive:=λ_=>Bool) (oH (motive:=λ_=>Bool) false (λb _ d=>g8 (motive:=λ_=>Bool) d true (cj a b)) r:Bool) true (cj a b))=false:=h;cases c:cj a b with
   | true=>rw[c]at h;cases h
   | false=>
    rw[c]at h;intro z;rcases gW.mp z with z | z
    .show Nat.ne_of_beq_eq_false c z
    .show d h z
 intro l;induction l with
 | nil=>intro _;show List.nodup_nil
 | cons a l d=>
  intro h;have h:(g8 (motive:=λ_=>Bool) (uN l) false (oH (motive:=λ_=>Bool) false (λb _ d=>g8 (motive:=λ_=>Bool) d true (cj a b)) l:Bool))=true:=h;cases c:(oH (motive:=λ_=>Bool) false (λb _ d=>g8 (motive:=λ_=>Bool) d true (cj a b)) l:Bool)with
  | true=>rw[c]at h;cases h
  | false=>rw[c]at h;show mr.mpr ⟨m a l c,d h⟩
def lZ(n:Nat)(ρ : List Nat)(h h2:CH):Bool:=decide (ρ.take n=gO n)&&iO n ρ.length&&uN ρ&&sV (len h) ρ h ρ h2
section
variable{R:Run}{ι ι' ι2:List Addr}{h h2:CH}{H:Hp}{ρ : List Nat}
theorem Fe{L:Nat}{ρ : List Nat}{h:CH}:∀{r:List Nat}{os:CH},sV L ρ h r os=true->r.length=os.length/\∀(j n:Nat)(o2:CO),r[j]?=some n->os[j]?=some o2->∃ o,h[n]?=some o/\nU L ρ o o2=true:=by
 intro r;induction r with
 | nil=>
  intro os c;cases os with
  | nil=>show(rfl,λj n o2 h=>by cases h)
  | cons=>cases c
 | cons n r ih=>
  intro os c;cases os with
  | nil=>cases c
  | cons o os=>
   simp only[sV,cn]at c;let(l,k):=ih c.2;show(by simp[l],λj g o2 b a=>?_);cases j with
   | zero=>
    simp at b a;subst b;subst a;have d:=c.1;split at d
    .rename_i f e;rw[jm]at e;show(f,e,JR d)
    .cases d
   | succ j=>show k j g o2 (by simpa using b) (by simpa using a)
theorem Iw{L:Nat}{v u:V}(hL : ι.length=L)(hj:∀(j n:Nat),ρ[j]?=some n->ι2[j]?=ι[n]?)(l:RV ι (rW L ρ v) u):RV ι2 v u:=by
 cases v with
 | ref j=>
  let(a,e,rfl):=l;cases c : ρ[j]? with
  | none=>
   rw[c]at e;have:=(cb.mp e).1;simp[hL]at this
  | some n=>
   rw[c]at e;show(a,(hj j n c).trans e,rfl)
 | _=>show l
theorem yI{L:Nat}(hL : ι.length=L)(hj:∀(j n:Nat),ρ[j]?=some n->ι2[j]?=ι[n]?):∀{xs ys:List V},ju (RV ι) (xs.map (rW L ρ)) ys->ju (RV ι2) xs ys:=by
 intro xs;induction xs with
 | nil=>intro ys l;cases ny l;rfl
 | cons x xs ih=>
  intro ys l;let(y,b,rfl,c,a):=mO l;show(y,b,rfl,Iw hL hj c,ih a)
theorem E3{α : Type}{L:Nat}(hL : ι.length=L)(hj:∀(j n:Nat),ρ[j]?=some n->ι2[j]?=ι[n]?){xs ys:List (α × V)}(l:nG ι (xs.map λp=>(p.1,rW L ρ p.2)) ys):nG ι2 xs ys:=by
 let(b,a):=l;show(by rw[b];simp,yI hL hj ?_);rw[List.map_map]at a ⊢;show a
theorem HR.sel(r:HR R ι h H)(c:lZ R.cs.length ρ h h2=true):∃ ι2,(∀(j n:Nat),ρ[j]?=some n->ι2[j]?=ι[n]?)/\HR R ι2 h2 H:=by
 simp only[lZ,cn,decide_eq_true_eq]at c;let(((T,I),A),G):=c;have A:=Jr A;rw[jN]at G;have I:=cm I;let(Y,k):=Fe G;have N:∀(j n:Nat),ρ[j]?=some n->n<ι.length:=λj n e=>by
  have y:=(cb.mp e).1;let(o,J,_):=k j n _ e (b7 ∅);have:=(cb.mp J).1;rw[r.len];show this
 have q:∀(j n:Nat),ρ[j]?=some n->(ρ.map λn=>(ι[n]?).getD 0)[j]?=ι[n]?:=λj n e=>by
  rw[gG,e,Option.map_some,b7 (N j n e)];rfl
 have B:∀(j:Nat) a,(ρ.map λn=>(ι[n]?).getD 0)[j]?=some a->∃ n,ρ[j]?=some n/\ι[n]?=some a:=λj a e=>by
  have y:=(cb.mp e).1;rw[iz]at y;show(ρ[j],b7 y,(q j _ (b7 y)).symm.trans e)
 have f:∀(j:Nat) a b,(ρ.map λn=>(ι[n]?).getD 0)[j]?=some a->h2[j]?=some b->∃ n o,ρ[j]?=some n/\ι[n]?=some a/\h[n]?=some o/\nU h.length ρ o b=true:=λj a b u s=>by
  let(n,t,v):=B j a u;let(o,w,d):=k j n b t s;show(n,o,t,v,w,d)
 have g:∀{o b:CO},nU h.length ρ o b=true->(b.own=true->o.own=true)/\(b.mut=true->o.mut=true):=λ{o b} z=>by
  cases b with
  | gone=>show(λz=>(by cases z),λz=>(by cases z))
  | fz=>cases z
  | dt=>cases z
  | exn=>cases z
  | exo=>cases z
  | xd=>cases z
  | _=>simp only[nU,decide_eq_true_eq]at z;subst z;show(λz=>z,λz=>z)
 show(_,q,⟨by rw[iz];show Y,λj a b u s=>?_,λj m a o b u s E K O L=>?_,r.pr,λj a b u s E=>?_,?_,r.dm⟩)
 .let(n,o,t,v,w,d):=f j a b u s;have x:=r.obj n a o v w;cases b with
  | gone=>trivial
  | lst xs=>simp only[nU,decide_eq_true_eq]at d;subst d;let(l,p,h2):=x;show(l,p,yI r.len q h2)
  | tup xs=>simp only[nU,decide_eq_true_eq]at d;subst d;let(l,p,h2):=x;show(l,p,yI r.len q h2)
  | kon xs=>simp only[nU,decide_eq_true_eq]at d;subst d;let(l,p,h2):=x;show(l,p,yI r.len q h2)
  | dk xs=>simp only[nU,decide_eq_true_eq]at d;subst d;let(l,p,h2):=x;show(l,p,E3 r.len q h2)
  | ins C xs=>simp only[nU,decide_eq_true_eq]at d;subst d;let(U,l,p,h2):=x;show(U,l,p,E3 r.len q h2)
  | _=>cases d
 .let(n,W,t,v,w,d):=f j a o u E;let(S,D,M,X,Q,P):=f m a b s K;have:=r.inj n S a W D v X w Q ((g d).1 O) ((g P).1 L);subst this;have V:=(cb.mp t).1;show(List.getElem?_inj V A).mp (t.trans M.symm)
 .let(n,o,t,v,w,d):=f j a b u s;show r.sep n a o v w ((g d).2 E)
 .rw[List.prefix_iff_getElem?];intro i F;have e : ρ[i]?=some i:=by
   have : (ρ.take R.cs.length)[i]?=some i:=by rw[T];simp[F]
   rwa [List.getElem?_take_of_lt F]at this
  rw[q i i e];show ou r.cst (b7 F)
def ri(nc:Nat)(v:V)(ρ : List Nat)(h2:CH):Out V->Bool
 | .ok u h=>decide (u=v)&&lZ nc ρ h h2
 | _=>false
theorem MI{E:XK}{Q:VK}{v:V}{o:Out V}(hv:V.free v=true)(c:ri R.cs.length v ρ h2 o=true)(k:∀ ι' ι2 H',ι <+: ι'->(∀(j n:Nat),ρ[j]?=some n->ι2[j]?=ι'[n]?)->HR R ι2 h2 H'->Q v H'):post R E LE ι Q o:=by
 cases o with
 | ok u h=>
  simp only[ri,cn,decide_eq_true_eq]at c;let(rfl,c):=c;intro ι' w H' p r l;let(ι2,b,a):=r.sel c;have : w=u:=by
   cases u with
   | ref n=>cases hv
   | _=>show l
  rw[this];show k ι' ι2 H' p b a
 | _=>cases c
theorem Ey(n:Nat)(hn : ι.length=n)(p : ι <+: ι')(hj:∀(j m:Nat),(gO n)[j]?=some m->ι2[j]?=ι'[m]?)(h : ι2.length=n) : ι2=ι:=by
 show List.ext_getElem? λj=>?_;by_cases c:j<n
 .rw[hj j j (by simp[c])];show(ou p (b7 ∅)).trans (b7 ∅).symm
 .rw[iH ∅,iH ∅]
end
end
end Rn
namespace Rn
open L2 PySem
noncomputable section
section
variable{Φ : L2.St->Prop}{R:Run}{E:XK}{α β : Type}
def pO(Φ : L2.St->Prop)(R:Run)(E:XK)(L:List Addr->α->β->Prop)(t:L2.St->Hp->(β->Hp->Prop)->Prop)(f:L2.St->CH->Out α):Prop :=
 ∀ ι φ h σ H Q,Φ σ->FR ι φ σ->HR R ι h H->post R E L ι Q (f φ h)->t σ H Q
def oI(Φ : L2.St->Prop)(R:Run)(E:XK)(t:TS)(f:L2.St->CH->jE):Prop :=
 ∀ ι φ h σ H (D:Ends),Φ σ->FR ι φ σ->HR R ι h H->i9 R E { D with nx:=λσ' H'=>Φ σ'->D.nx σ' H' } ι (f φ h)->t D σ H
theorem Sm.p{L:List Addr->α->β->Prop}{t:L2.St->Hp->(β->Hp->Prop)->Prop}{f:L2.St->CH->Out α}(s:Sm R E L t f):pO Φ R E L t f:=λι φ h σ H Q _ f r p=>s ι φ h σ H Q f r p
theorem oY{r:R2}{ta tb:TE}{fa fb:L2.St->CH->Out V}{g:V->V->CH->Out V}(hr:S2 R E r g)(ha:pO Φ R E LE ta fa)(hb:pO Φ R E LE tb fb) :
  pO Φ R E LE (om r ta tb) (λφ h=>(fa φ h).bind λx h1=>(fb φ h1).bind λy h2=>g x y h2):=λι φ h σ H Q z f r p=>
 ha ι φ h σ H _ z f r (p.bind λx h1 ι1 u d k e m c=>hb ι1 φ h1 σ d _ z (f.mono k) e (c.bind λy h2 ι2 w i l a j b=>hr ι2 h2 i x y u w Q a (m.mono l) j b))
theorem qL{ta:TE}{tA:TA}{fa:L2.St->CH->Out V}{fA:L2.St->CH->Out (List V)}(ha:pO Φ R E LE ta fa)(hA:pO Φ R E LA tA fA) :
  pO Φ R E LA (kG ta tA) (λφ h=>(fa φ h).bind λx h1=>(fA φ h1).bind λxs h2=>.ok (x::xs) h2):=λι φ h σ H Q z f r p=>
 ha ι φ h σ H _ z f r (p.bind λx h1 ι1 u d j g l c=>hA ι1 φ h1 σ d _ z (f.mono j) g (c.bind λxs h2 ι2 e m k a i b=>b.ok a ⟨u,e,rfl,l.mono k,i⟩))
theorem Hr{r:List V->Hp->VK->Prop}{tA:TA}{fA:L2.St->CH->Out (List V)}{g:List V->CH->Out V}(hr:SL R E r g)(hA:pO Φ R E LA tA fA) :
  pO Φ R E LE (sU r tA) (λφ h=>(fA φ h).bind g):=λι φ h σ H Q z f r p=>
 hA ι φ h σ H _ z f r (p.bind λx c ι1 u a i b e d=>hr ι1 c a x u Q b e d)
theorem uO{i:Nat}{c m r:Int}(hΦ : ∀ σ,Φ σ->σ[i]?=some (some (.int c)))(hm:m≠0)(hr:c.fmod m=r):pO Φ R E LE (om rModU (lH i) (tC (.int m))) (λ_ h=>.ok (.int r) h):=λι φ h σ H Q z f a p=>by
 unfold om lH tC;rw[hΦ σ z];show(hm,by rw[hr];show p.ok a rfl)
theorem KR{i:Nat}{c k m r:Int}(hΦ : ∀ σ,Φ σ->σ[i]?=some (some (.int c)))(hk:pB k)(hm:m≠0)(hr:(c.fdiv k).fmod m=r):pO Φ R E LE (om rModU (om vb (lH i) (tC (.int k))) (tC (.int m))) (λ_ h=>.ok (.int r) h):=λι φ h σ H Q z f a p=>by
 unfold om lH tC;rw[hΦ σ z];show(hk,hm,by rw[hr];show p.ok a rfl)
theorem nextP:oI Φ R E tNext (λφ h=>.nx φ h):=λι φ h σ H D z f r p=>p.nx r f z
theorem mj{t u:TS}{fa fb:L2.St->CH->jE}(ha:oI Φ R E t fa)(hb:oI Φ R E u fb):oI Φ R E (lY t u) (qB fa fb):=λι φ h σ H D z f r p=>by
 show ha ι φ h σ H { D with nx:=u D } z f r ?_;unfold qB at p;cases e:fa φ h with
 | nx φ1 h1=>
  rw[e]at p;showλι1 σ1 b a c d g=>hb ι1 φ1 h1 σ1 b D g d c (i9.mono a p)
 | _=>rw[e]at p;show p
theorem mP{i:Nat}{te:TE}{fe:L2.St->CH->Out V}(hΦ : ∀ σ v,Φ σ->Φ (σ.set i (some v)))(he:pO Φ R E LE te fe):oI Φ R E (oQ te (nN i)) (λφ h=>(fe φ h).bindS λv h1=>.nx (φ.set i (some v)) h1):=λι φ h σ H D z f r p=>
 he ι φ h σ H _ z f r (p.bind λx h1 ι1 u e a b d c=>c.nx b ((f.mono a).set d i) (hΦ σ u z))
theorem qK{te:TE}{fe:L2.St->CH->Out V}(he:pO Φ R E LE te fe):oI Φ R E (qE te) (λφ h=>(fe φ h).bindS λ_ h1=>.nx φ h1):=λι φ h σ H D z f r p=>
 he ι φ h σ H _ z f r (p.bind λx h1 ι1 u d a b e c=>c.nx b (f.mono a) z)
theorem xn{te:TE}{fe:L2.St->CH->Out V}(he:pO Φ R E LE te fe):oI Φ R E (o4 te) (λφ h=>(fe φ h).bindS λv h1=>.rt v h1):=λι φ h σ H D z f r p=>
 he ι φ h σ H _ z f r (p.bind λx h1 ι1 u e d a c b=>b.rt a c)
theorem Eb{c:TT}{t u:TS}{fc:L2.St->CH->Out Bool}{fa fb:L2.St->CH->jE}(hc:pO Φ R E LB c fc)(ha:oI Φ R E t fa)(hb:oI Φ R E u fb):oI Φ R E (o5 c t u) (λφ h=>(fc φ h).bindS λk h1=>if k then fa φ h1 else fb φ h1):=λι φ h σ H D z f r p=>
 hc ι φ h σ H _ z f r (p.bind λk h1 ι1 u b a d g e=>by
  subst g;cases u with
  | true=>show ha ι1 φ h1 σ b _ z (f.mono a) d e
  | false=>show hb ι1 φ h1 σ b _ z (f.mono a) d e)
theorem Ae{T:String}{r:V->List V->Hp->VK->Prop}{g:V->List V->CH->Out V}{to:TE}{t:TA}{fo:L2.St->CH->Out V}{ft:L2.St->CH->Out (List V)}(hT:T≠"")(hr:SM R E r g)(ho:pO Φ R E LE to fo)(ht:pO Φ R E LA t ft) :
  pO Φ R E LE (yC R.K T r to t) (λφ h=>(fo φ h).bind λx h1=>if oB x h1 == T then(ft φ h1).bind λxs h2=>g x xs h2 else .no):=λι φ h σ H Q z f r p=>
 ho ι φ h σ H _ z f r (p.bind λx h1 ι1 u j m b d a=>by
  cases c:oB x h1 == T with
  | false=>rw[c]at a;show a.elim
  | true=>
   rw[c]at a;show(Bo b d hT (eq_of_beq c),ht ι1 φ h1 σ j _ z (f.mono m) b (a.bind λxs h2 ι2 n k o e l i=>hr ι2 h2 k x xs u n Q e (d.mono o) l i)))
end
noncomputable def fnM(nn:Nat)(body:L2.St->CH->jE)(h:CH):Out V:=qk h λh=>match body (gB nn none) h with
 | .nx _ h1=>.ok .non h1
 | .rt v h1=>.ok v h1
 | _=>.no
def yD(K:bY)(cl:Nat->Addr)(cs:List Addr)(m:Int)(nn:Nat)(G:Int->L2.St->CH->jE):Sp:=λvs H Q E=>∃(c r:Int)(Pr:Hp)(D0:Addr->Prop)(ι : List Addr)(h:CH),vs=[.int c]/\c.fmod m=r/\HR ⟨K,cl,cs,Pr,D0⟩ ι h H/\post ⟨K,cl,cs,Pr,D0⟩ E LE ι Q (fnM nn (G r) h)
theorem Fk{K:bY}{cl:Nat->Addr}{cs:List Addr}{H:Hp}{Q:VK}{E:XK}{n:Nat}{c:Int}{N:List Str}{body:L2.St->CH->jE}{t:TS}{Pr:Hp}{D0:Addr->Prop}{ι : List Addr}{h:CH}(hn:N.length=n+1)(hr:HR ⟨K,cl,cs,Pr,D0⟩ ι h H)(p:post ⟨K,cl,cs,Pr,D0⟩ E LE ι Q (fnM (n+1) body h))
  (hb:oI (λσ=>σ[0]?=some (some (.int c))) ⟨K,cl,cs,Pr,D0⟩ E0 t body):t { nx:=λ_ H'=>Q .non H',rt:=Q } (L2.start N [.int c]) H:=by
 unfold fnM at p;rw[By]at p;have e:FR ι (gB (n+1) none) (L2.start N [.int c]):=⟨by unfold L2.start;simp[hn],λi v q=>by
  rw[jv]at q;split at q <;> cases q⟩
 show hb ι _ h _ H _ rfl e hr ?_;generalize body (gB (n+1) none) h=o at p ⊢;cases o with
 | nx φ h1=>showλι1 σ1 b a d _ _=>p ι1 .non b a d rfl
 | rt v h1=>showλι1 u b a d f=>p ι1 u b a d f
 | _=>show p.elim
theorem lC{u:V}{i:Nat}(hi:i≠0):∀(σ : L2.St)(v:V),σ[0]?=some (some u)->(σ.set i (some v))[0]?=some (some u):=λσ v h=>by
 rw[hU hi];show h
end
end Rn
namespace Rn
open L2 PySem
noncomputable section
def CO.notK:CO->Bool
 | .kon _=>false
 | _=>true
def CO.isG:CO->Bool
 | .gone=>true
 | _=>false
def partL:CH->CH->Bool
 | h,[]=>h.all CO.notK
 | o::h,o2::h2=>(if o2.isG then o.notK else decide (o=o2))&&partL h h2
 | [],_::_=>false
section
variable{R:Run}{ι : List Addr}{h h2:CH}{H:Hp}
theorem LL:∀{h h2:CH},partL h h2=true->∀(n:Nat)(o:CO),h[n]?=some o->(h2[n]?=some o/\o.isG=false)\/((h2[n]?=none\/h2[n]?=some CO.gone)/\o.notK=true):=by
 intro h;induction h with
 | nil=>intro h2 c n o e;cases e
 | cons a h ih=>
  intro h2 c n o e;cases h2 with
  | nil=>show .inr ⟨.inl rfl,kq.mp c o (kL e)⟩
  | cons b h2=>
   simp only[partL,cn]at c;cases n with
   | zero=>
    simp at e;subst e;have d:=c.1;cases g:b.isG with
    | true=>
     rw[g,if_pos rfl]at d;have : b=.gone:=by cases b <;> first | rfl | cases g
     subst this;show .inr ⟨.inr rfl,d⟩
    | false=>
     rw[g,if_neg (by simp),decide_eq_true_eq]at d;subst d;show .inl ⟨rfl,g⟩
   | succ n=>show ih c.2 n o (by simpa using e)
theorem LW{a:Addr}{o:CO}(l:LO R ι H a o)(k:o.notK=true)(g:o.isG=false):∃ u,H a=some u:=by
 cases o with
 | kon xs=>cases k
 | gone=>cases g
 | tup xs=>let(b,e,_):=l;show(_,e)
 | fz xs=>let(_,_,e,_):=l;show(_,e)
 | ins C xs=>let(_,_,e,_):=l;show(_,e)
 | _=>let(_,e,_):=l;show(_,e)
theorem Jx{a:Addr}{o:CO}{ys:List V}(l:LO R ι H a o)(m:o.mut=true)(e:H a=some (.tup ys)):False:=by
 cases o with
 | tup xs=>cases m
 | kon xs=>cases m
 | gone=>cases m
 | fz xs=>cases m
 | ins C xs=>let(_,_,b,_):=l;rw[e]at b;cases b
 | exn C od=>let(_,b,_):=l;rw[e]at b;cases b
 | exo C od=>let(_,b,_):=l;rw[e]at b;cases b
 | _=>let(_,b,_):=l;rw[e]at b;cases b
open Classical in
def pE(Pr:Hp)(ι : List Addr)(h h2:CH)(H:Hp):Hp:=λb=>if∃(n:Nat)(o:CO),ι[n]?=some b/\h[n]?=some o/\o.notK=true/\o.isG=false/\(h2[n]?=none\/h2[n]?=some CO.gone)then H b else Pr b
theorem HR.mask(r:HR R ι h H)(c:lZ R.cs.length (gO h2.length) h h2=true)(c2:partL h h2=true):∃ ι2 Pr',(∀ j n:Nat,(gO h2.length)[j]?=some n->ι2[j]?=ι[n]?)/\HR { R with Pr:=Pr' } ι2 h2 H/\∀ H',HR { R with Pr:=Pr' } ι2 h2 H'->HR R ι h H':=by
 let(ι2,F,f):=r.sel c;have s:∀(n:Nat) a,ι2[n]?=some a->ι[n]?=some a:=λn a e=>by
  have l:=(cb.mp e).1;rw[f.len]at l;rw[<- F n n (by simp[l])];show e
 have v:∀(n:Nat) a,n<h2.length->ι[n]?=some a->ι2[n]?=some a:=λn a l e=>by
  rw[F n n (by simp[l])];show e
 have C : ι2 <+: ι:=by
  rw[List.prefix_iff_getElem?];intro i Q;show s i _ (b7 Q)
 have M:=LL c2;show(ι2,pE R.Pr ι h h2 H,F,⟨f.len,f.obj,f.inj,λb o q=>?_,λn a o p d t=>?_,f.cst,f.dm⟩,λH' A=>⟨r.len,λn a o p d=>?_,r.inj,λb o q=>?_,r.sep,r.cst,A.dm⟩)
 .have q:pE R.Pr ι h h2 H b=some o:=q;unfold pE at q;split at q
  .show q
  .show r.pr b o q
 .show pE R.Pr ι h h2 H a=none;unfold pE;rw[if_neg]
  .show f.sep n a o p d t
  .rintro⟨m,B,L,I,S,O,P⟩;have N:=f.obj n a o p d;have K:=s n a p;obtain⟨x,G⟩:∃ x,h[n]?=some x:=⟨_,b7 (by have:=(cb.mp K).1;rw[r.len]at this;show this)⟩;have E:x=o:=by
    rcases M n x G with⟨z,_⟩ | ⟨z | z,_⟩
    .rw[d]at z;cases z;rfl
    .rw[d]at z;cases z
    .rw[d]at z;cases z;cases t
   subst E;have y:B.own=true\/∃ xs,B=.tup xs:=by
    cases B with
    | kon=>cases S
    | gone=>cases O
    | tup xs=>show .inr ⟨_,rfl⟩
    | _=>show .inl rfl
   rcases y with w | ⟨xs,rfl⟩
   .have:=r.inj n m a x B K L G I (x2 t) w;subst this;rcases P with g | g
    .rw[g]at d;cases d
    .rw[g]at d;cases d;cases t
   .let(U,T,_):=r.obj m a _ L I;show Jx N t T
 .rcases M n o d with⟨z,g⟩ | ⟨z,k⟩
  .have l:=(cb.mp z).1;show LO.mono (R:=R) C (A.obj n a o (v n a l p) z)
  .cases g:o.isG with
   | true=>
    have : o=.gone:=by cases o <;> first | rfl | cases g
    subst this;trivial
   | false=>
    let(u,J):=LW (r.obj n a o p d) k g;have D:pE R.Pr ι h h2 H a=some u:=by
     unfold pE;rw[if_pos ⟨n,o,p,d,k,g,z⟩];show J
    show LO.congr (R:=R) ((A.pr a u D).trans J.symm) (r.obj n a o p d)
 .have D:pE R.Pr ι h h2 H b=some o:=by
   unfold pE;split
   .show r.pr b o q
   .show q
  show A.pr b o D
end
end
end Rn
namespace Rn
open L2 PySem
noncomputable section
section
variable{R:Run}{ι : List Addr}{h h2:CH}{H:Hp}{ρ : List Nat}
theorem HR.guard{l:Nat}{a:Addr}{xs:List V}(r:HR R ι h H)(el : ι[l]?=some a)(hl:h[l]?=some (.lst xs))(c:lZ R.cs.length ρ h h2=true)(nl:l∉ρ) :
  ∃ ι2 ys,H a=some (.lst ys)/\LA ι xs ys/\(∀ j n:Nat,ρ[j]?=some n->ι2[j]?=ι[n]?)/\HR { R with Pr:=upd R.Pr a (.lst ys) } ι2 h2 H:=by
 let(ys,w,A):=r.obj l a _ el hl;have p:=c;simp only[lZ,cn,decide_eq_true_eq]at p;let((_,_),s):=p;rw[jN]at s;let(D,k):=Fe s;let(ι2,v,d):=r.sel c;show(ι2,ys,w,A,v,⟨d.len,d.obj,d.inj,λb o q=>?_,λn b o t i f=>?_,d.cst,d.dm⟩)
 .have q:upd R.Pr a (.lst ys) b=some o:=q;by_cases z:b=a
  .subst z;rw[md]at q;cases q;show w
  .rw[kk z]at q;show r.pr b o q
 .show upd R.Pr a (.lst ys) b=none;have B:b≠a:=λz=>by
   subst z;have y:=(cb.mp i).1;have u : ρ[n]?=some ρ[n]:=b7 ∅;let(x,C,e):=k n _ o u i;have m : ι[ρ[n]]?=some b:=(v n _ u).symm.trans t;have g:x.own=true:=by
    cases o with
    | gone=>cases f
    | tup=>cases f
    | kon=>cases f
    | fz=>cases f
    | dt=>cases e
    | exn=>cases e
    | exo=>cases e
    | xd=>cases e
    | _=>simp only[nU,decide_eq_true_eq]at e;subst e;rfl
   have:=r.inj _ l b x _ m el C hl g rfl;show nl (this ▸ List.getElem_mem _)
  rw[kk B];show d.sep n b o t i f
end
section
variable{K:bY}{cl:Nat->Addr}{cs:List Addr}{Pr:Hp}{D0:Addr->Prop}{ι : List Addr}{h h2:CH}{H:Hp}{Q:VK}{E:XK}{ρ : List Nat}{us vs:List V}{v:V}{F:List V->CH->Out V}
theorem Am(r:HR ⟨K,cl,cs,Pr,D0⟩ ι h H)(la:LA ι us vs)(hv:V.free v=true)(c:ri cs.length v ρ h2 (F us h)=true)(k:∀ ι' ι2 H',ι <+: ι'->(∀ j n:Nat,ρ[j]?=some n->ι2[j]?=ι'[n]?)->HR ⟨K,cl,cs,Pr,D0⟩ ι2 h2 H'->Q v H'):i5 K cl cs F vs H Q E :=
 ⟨Pr,D0,ι,us,h,la,r,MI hv c k⟩
theorem rK(r:HR ⟨K,cl,cs,Pr,D0⟩ ι h H)(la:LA ι us vs)(hv:V.free v=true)(c:ri cs.length v (gO h.length) h (F us h)=true)(k:∀ H',HR ⟨K,cl,cs,Pr,D0⟩ ι h H'->Q v H'):i5 K cl cs F vs H Q E :=
 Am r la hv c λι' ι2 H' p b a=>k H' (by rw[Ey h.length r.len p b a.len]at a;show a)
theorem A7{ι':List Addr}{h':CH}{H1:Hp}(rl : ι.length=h2.length)(p : ι <+: ι')(r:HR ⟨K,cl,cs,Pr,D0⟩ ι' h' H1)(la:LA ι' us vs)(hv:V.free v=true)(c:ri cs.length v (gO h2.length) h2 (F us h')=true)(k:∀ H',HR ⟨K,cl,cs,Pr,D0⟩ ι h2 H'->Q v H'):i5 K cl cs F vs H1 Q E :=
 Am r la hv c λι2 ι3 H' d b a=>k H' (by rw[Ey h2.length rl (p.trans d) b a.len]at a;show a)
end
theorem xx{α : Type}{l:List α}(h:l.length=7):∃ a b c d e f g,l=[a,b,c,d,e,f,g]:=by
 match l,h with
 | [a,b,c,d,e,f,g],_=>show(a,b,c,d,e,f,g,rfl)
end
end Rn
namespace L2
open PySem PySem.Spec PyProof.Rows
abbrev Cx.incX(X:Cx)(E:XK)(N':List Str)(scope:Scope)(cl:List (Str × Addr))(fp:List Addr)(s2:b8)(H2:Hp)(C:Addr):Cx :=
 (X.inc N' scope cl fp s2 H2 C).wish λe s'=>∀ pins σ,Inv X pins σ H2 s2->(∀ b∈fp,oi X pins H2 b)->∃ H s,Inv X pins σ H s/\H C=none/\(∃ m,s.heap.Ns C m)/\s2.heap.objs.size<=C/\kU X.prog X.w X.stack H s E e s'
variable{X:Cx}{E:XK}{N':List Str}{scope:Scope}{cl:List (Str × Addr)}{fp:List Addr}{s2:b8}{H2:Hp}{C:Addr}
theorem passC:qb (kU X.prog X.w) (X.incX E N' scope cl fp s2 H2 C) E:=by
 intro c σ' H s e g I' hx d σ I2 a;let(m,f,_):=id I'.loc;show(H,s,I2.call' (ch:=fp) I'.os I'.base I'.hok I'.bare (λb hb=>⟨(a b hb).2.2.2.1,(a b hb).2.1,(a b hb).2.2.2.2.1,(a b hb).2.2.2.2.2⟩),I'.free,⟨m,f⟩,I'.ok.above,hx)
section
variable{M:Model}{A:iM}{E:bV->b8->Prop}{s:b8}{base:Heap}{env:Env}{outer l:List Env}{L e:Addr}{oe:Obj}{vs:Array bV}{head a0 fl:bV}{od:Option Addr}{Q:Unit->b8->Prop}{cls:bV}{h h':Heap}
theorem Gd{b b':Heap}:∀{l:List Env},h.FunFrames b l->(∀ a∈ll l, ∀ o,h.get? a=some o->(∀ vs,o.data≠.fields vs)->∃ o',h'.get? a=some o'/\o'.data=o.data)->(∀ a,b.get? a=none->b'.get? a=none)->h'.FunFrames b' l
 | [],_,_,_=>trivial
 | en::l,⟨k,⟨L,o,e1,e2,e3,e4⟩,r⟩,k1,k2=>by
  let(o',z1,z2):=k1 L (jt.mpr ⟨en,i8 ..,e1⟩) o e3 e4;show(k,⟨L,o',e1,k2 L e2,z1,λvs=>by rw[z2];show e4 vs⟩,Gd r (λa ha=>k1 a ?_) k2);let(x,hx,hf):=jt.mp ha;show jt.mpr ⟨x,ia _ hx,hf⟩
theorem JB(hfr:A.frames=some (env::outer))(hf:env.frame=some L)(hkb:base.StaysIn s.heap)(hen:base.get? e=none)(hl:s.heap.FunFrames base (env::outer))(ht:s.heap.TracedAtW base e cls a0 fl)(hdc:DictAt s.heap e od)
  (hQ:∀ h',jZ base outer e cls a0 h'->s.heap.UpToSlots h'->DictAt h' e od->Q () { s with heap:=h' }):gu M A (m8 env (.ref e)) Q E s:=by
 unfold m8;by_cases c:fl=lL L
 .subst c;show bO (wpAny_noteFrame_againW hf ht ?_);show wd hkb hl ht hdc λu v ⟨_,_,m⟩ j k p=>hQ u ⟨v,hen,m,j⟩ k p
 let(R,x,T,P,J,n,(h,F),w,B,l,t,i,d,y):=ht;subst h;let(G,g,r):=hdc;rw[n]at g;cases g;unfold nj;simp only[hf];show bO (bO (ix n w B ?_));rw[if_pos (show(cf T != gY)=true from by simp)];show bO (ix i d y ?_);rw[if_neg (show¬((fl == lL L)=true) fromλz=>c (eq_of_beq z))];show bO (kZ i d (iu.mp y).1 ?_);have a:∀ b,b≠T->(s.heap.update T (kz (·.setIfInBounds 3 gY))).get? b=s.heap.get? b:=λb hb=>g5 _ _ (iQ hb);have C:∀ b o,s.heap.get? b=some o->(∀ x,o.data≠.fields x)->b≠T:=λb o hb f q=>by
  rw[q,i]at hb;cases hb;show f J d
 show AB hfr (hl.of_keeps λb o hb f=>⟨o,(a b (C b o hb f)).trans hb,rfl⟩) hf ((a e (iQ t)).trans n)
  (λb o hb=>(a b λq=>by rw[q,l]at hb;cases hb).trans (hkb b o hb)) hen w (iu.mp B).1 F λh' ⟨H,D,O,N⟩ I=>?_
 have K:s.heap.UpToSlots h':=λb o hb f=>N b o ((a b (C b o hb f)).trans hb) f;show wd (s:={ s with heap:=h' }) H D O I λu v ⟨_,_,m⟩ j k p=>hQ u ⟨v,hen,m,j⟩ (K.trans k) (r ▸ p)
end
section
variable{P:gN}{w:ik}{l l':List Env}{H H':Hp}{h0 h h' B:Heap}{ea:Addr}{od:Option Addr}{a0:bV}{cls:bV}
theorem wV.nextC(u:Un (ll l) [] H H' h0 h)(hok:ni P w H' h)(F:wV l H' h0 ea od cls a0 B h)(fr:∀ b∈ll l,H' b=none)(hC:H' C=none)(hCf:C∉ll l)(k:∀ b o,b≠C->B.get? b=some o->h'.get? b=some o)(sl:∀ b o,b≠C->h.get? b=some o->(∀ vs,o.data≠.fields vs)->∃ s2,h'.get? b=some { o with slots:=s2 }) :
  ni P w H' h'/\Un (ll l) [C] H H' h0 h':=by
 have c:∀ b o,b≠C->h.get? b=some o->((∃ f,h0.get? b=some f)\/∃ u,H' b=some u)->b∉ll l->h'.get? b=some o:=λb o i q r n=>k b o i (F.kept b o q r n);have d:∀ b o,b∈ll l->h.get? b=some o->∃ s2,h'.get? b=some { o with slots:=s2 }:=λb o m q=>by
  let(_,f,t,y):=F.fly.2.2.1.mem m;rw[q]at t;cases t;show sl b o (λz=>hCf (z ▸ m)) q y
 have s:∀ b u,H' b=some u->b∉ll l:=λb u q m=>by
  rw[fr b m]at q;cases q
 have i:∀ b u,H' b=some u->b≠C:=λb u q z=>by
  rw[z,hC]at q;cases q
 show(λa o e=>?_,⟨λb o q n x j=>?_,λb o q n m _=>?_,λb o q n _=>u.free b o q n (by simp),λb o q j=>?_,u.tups,u.frzs,u.tbls⟩)
 .show(hok a o e).stay (λb v hb q=>?_) (λ_ r=>r) (λ_ _ r=>r);rcases hb with rfl | hb
  .show c _ _ (i _ _ e) q (.inr ⟨_,e⟩) (s _ _ e)
  .show c _ _ (i _ _ hb) q (.inr ⟨_,hb⟩) (s _ _ hb)
 .show c b o (by simpa using j) (u.keep b o q n x (by simp)) (.inl ⟨o,q⟩) x
 .let(A,g):=u.slot b o q n m (by simp);let(s2,p):=d b _ m g;show(s2,p)
 .let(f,g):=u.there b o q (by simp);by_cases m:b∈ll l
  .let(s2,p):=d b _ m g;show(_,p)
  .show(f,c b f (by simpa using j) g (.inl ⟨o,q⟩) m)
end
variable{pins:List (Addr × Obj)}{σ:St}{H H':Hp}{s:b8}{h h' B:Heap}{ea:Addr}
theorem Inv.outC(I:Inv X pins σ H s)(hex:X.ex=[])(hC:X.s₀.heap.objs.size<=C)(u:Un (ll X.stack) [C] H H' s.heap h'):Un X.fs [] X.H₀ H' X.s₀.heap h':=by
 have J:=I.base;rw[hex]at J;have d:∀ b o,X.s₀.heap.get? b=some o->b∉[C]:=λb o q z=>by
  have c:=b9 q;rw[i7.mp z]at c;show absurd (gv c hC) (il _)
 have j:∀ b o,X.s₀.heap.get? b=some o->b≠X.env.locals:=λb o q z=>by
  have c:=b9 q;have t:=I.ok.above;rw[z]at c;show absurd (gv c t) (il _)
 have p:∀ b o,X.s₀.heap.get? b=some o->b∉X.fs->b∉ll X.stack:=λb o q e m=>by
  rcases gW.mp (I.stkSub b m)with z | z
  .show j b o q z
  .show e z
 show(λb o q n e _=>?_,λb o q n m _=>?_,λb o q n _=>?_,λb o q _=>?_,λb h q=>u.tups b h (J.tups b h q),λb o v q=>u.frzs b o v (J.frzs b o v q),λb r q=>?_)
 .show u.keep b o (J.keep b o q n e (by simp)) (J.free b o q n (by simp)) (p b o q e) (d b o q)
 .let(w,a):=J.slot b o q n m (by simp);let(i,f):=u.any a (J.free b o q n (by simp)) (d b o q);show(i,f)
 .let(g,a):=J.there b o q (by simp);show u.free b g a (J.free b o q n (by simp)) (d b o q)
 .let(g,a):=J.there b o q (by simp);show u.there b g a (d b o q)
 .let(l,a):=J.tbls b r q;let(k,f):=u.tbls b _ a;show(l++k,by rw[f,Array.append_assoc])
variable{prog:gN}{w:ik}{A:iM}{E:bV->b8->Prop}{R:Result->b8->Prop}{elt iter:Expr}{ifs:List Expr}{pos:Pos}{acc:bV}
theorem OQ{target:Expr}{it:bV}{env:Env}(J:Nat->b8->Prop)
  (turn:∀ n s,J n s->gu (gx prog w) A (pyNext it) (λr s1=>match r with
   | none=>R (.ok .next) s1
   | some v=>gu (gx prog w) A (mT target it v) (λ_ s2=>gu (gx prog w) A (assign target env v) (λ_ s3=>gu (gx prog w) A (forIn ifs true λc r=>if r=true then do let ok <- isTrue c env (eval c env);pure (ForInStep.yield ok)else pure (ForInStep.yield r)) (λb s3'=>if b=true then gu (gx prog w) A (eval elt env) (λx s4=>
     gu (gx prog w) A (call (.builtin "list.append") [acc,x]) (λ_ s5=>∃ m,m<n/\J m s5) (λ_ _=>False) s4) (notedBy (gx prog w) A env λe s'=>R (.error e) s') s3' else∃ m,m<n/\J m s3') (λ_ _=>False) s3) (λ_ _=>False) s2) (λ_ _=>False) s1) (λ_ _=>False) s) (n:Nat) (h:J n s) :
  kl (gx prog w) A (.compLoop (.ListComp elt [⟨target,iter,ifs,0⟩] scope pos) 0 it acc env) R s:=by
 show codeAny_loop rfl J (λn s i=>?_) n h;show gu _ A ((compTurn (.ListComp elt [⟨target,iter,ifs,0⟩] scope pos) 0 it acc env).onRaise (λy=>do nj y env;theTreesLotGoes y)) _ _ s
 (show wpAny_noted ?_;rw[compTurn_list])
 show bO (wpAny_standAt (bO (gJ (turn n s i) (λr s1 d=>?_) λ_ _ z=>z.elim)));cases r with
 | none=>show gw d
 | some v=>
  show bO (gJ d (λ_ s2 f=>bO (gJ f (λ_ s3 j=>?_) λ_ _ z=>z.elim)) λ_ _ z=>z.elim);show bO (gJ j (λb s3' a=>?_) λ_ _ z=>z.elim);cases b with
  | true=>show bO (bO (gJ a (λx s4 k=>(bO (gJ k (λ_ s5 g=>(gw (gw ⟨rfl,g⟩))) λ_ _ z=>z.elim))) λ_ _ z=>z))
  | false=>show bO (gw (gw ⟨rfl,a⟩))
variable{tg:Expr}{te:TE}{tt:TT}
theorem OS{own:List Str}{cs:List (Nat × Str)}{g:TG}{it:Addr}{tn:Nat->Heap->Prop}{J:It}
  {W:Nat->Nat->List V->Hp->Prop} {m0:Nat} {QN:List V->Hp->Prop} {RR:bV->Addr->Result->b8->Prop} {E:bV->b8->Prop} {EX:XK} (hc:X.calm=true)
  (hg:∀ fp s2 H2 C,PG (X.inc (own++cs.map (·.2)) scope cl fp s2 H2 C) tg g) (ht:∀ fp s2 H2 C,uY (X.inc (own++cs.map (·.2)) scope cl fp s2 H2 C) ifs tt) (he:∀ fp s2 H2 C,PE (X.incX EX (own++cs.map (·.2)) scope cl fp s2 H2 C) elt te)
  (hcell:∀ y∈scope.names,y.2≠.cell) (hkind:scope.kind=.function)
  (hcl:∀ x c,cl.lookup x=some c->X.env.cells.lookup x=some c) (hhas:∀ y,((jf scope X.env).names.lookup y=some .cell\/(jf scope X.env).names.lookup y=some .free)->∃ c,cl.lookup y=some c)
  (hcs:∀ p∈cs,X.N[p.1]?=some p.2/\X.env.scope.names.lookup p.2=some .cell/\(jf scope X.env).names.lookup p.2=some .cell)
  (I2:Inv X pins σ H2 s2) (T:Turn X.prog X.w X.K tg J fp it tn) (st2:tn 0 s2.heap) (f2:∀ b∈fp,oi X pins H2 b) (w0:W 0 m0 [] H2)
  (turn:∀ i m ys H2,W i m ys H2->ys.length<=sizeLine/\((J.stop i H2/\QN ys H2)\/(J.go i H2/\∀ x H3,J.yld i H2 x H3->g x (gB own.length none++n8 cs σ) H3 λσ4 H4=>tt σ4 H4 λb H5=>if b=true then te σ4 H5 λy H6=>∃ m',m'<m/\W (i+1) m' (ys++[y]) H6 else∃ m',m'<m/\W (i+1) m' ys H5)))
  (hRR:∀(D C:Addr)(s6:b8)(H5:Hp)(ys:List V),(∀ h7,jC C s6.heap h7->Inv X pins σ (upd H5 D (.lst ys)) { s6 with heap:=h7 })->H5 D=none->H5 C=none->D≠C->(∃ m,s6.heap.Ns C m)->s2.heap.objs.size<=C->QN ys H5->RR (.ref D) C (.ok .next) s6)
  (hX:∀(D C:Addr)(e:bV)(s':b8),(X.incX EX (own++cs.map (·.2)) scope cl fp s2 H2 C).xe e s'->notedBy (gx X.prog X.w) X.A (compEnvC scope cl C X.env) (λe s''=>RR (.ref D) C (.error e) s'') e s') :
  gu (gx X.prog X.w) X.A (newList []) (λacc s₃=>gu (gx X.prog X.w) X.A (newFunctionEnv scope X.env.globals cl [] X.env.qual none .none (some X.env)) (λcenv s₄=>
   kl (gx X.prog X.w) X.A (.compStart (.ListComp elt [⟨tg,iter,ifs,0⟩] scope pos) 0 (.ref it) acc { cenv with scope:=jf scope X.env }) (RR acc cenv.locals) s₄) E s₃) E s2:=by
 have I:∀ b∈fp,b<s2.heap.objs.size:=λb hb=>by
  let(o,e,_):=T.obj _ _ st2 b hb;show b9 e
 show kO (wpAny_newFunctionEnv hcell (by intro y hy;simp at hy) (λh4 l j=>?_) hkind);dsimp only at l j ⊢;generalize hH3:s2.heap.push { cls:=.type "list",dict:=none,data:=.seq ([]:List bV).toArray }=H3 at l j ⊢;have a5:H3.objs.size=s2.heap.objs.size+1:=by rw[<- hH3,iD]
 have Z:s2.heap.objs.size<=H3.objs.size:=by ac_nf
 have k:s2.heap.objs.size≠H3.objs.size:=by ac_nf
 have Y:∀ b o,s2.heap.get? b=some o->h4.get? b=some o:=λb o e=>j.extBut b o (by have:=b9 e;show cq (gv this Z)) (bW _ (hH3 ▸ bW _ e));have a3:h4.get? s2.heap.objs.size=some { cls:=.type "list",data:=.seq ([]:List bV).toArray }:=j.extBut _ _ k (bW _ (hH3 ▸ ck _ rfl));obtain⟨D,f⟩:∃ D,D=s2.heap.objs.size:=⟨_,rfl⟩;obtain⟨C,b5⟩:∃ C,C=H3.objs.size:=⟨_,rfl⟩;rw[<- b5]at a5 l j Z k ⊢;rw[<- f]at I a5 Z k a3 ⊢;have H:=I2.incOk (N':=own++cs.map (·.2)) (C:=C) f2 (λb hb=>by rw[<- f];show I b hb) hkind (by rw[<- f];show Z) hcl hhas;have I4:Inv (X.inc (own++cs.map (·.2)) scope cl fp s2 H2 C) [] (gB own.length none++n8 cs σ) H2 { s2 with heap:=h4,toks:=s2.toks+([]:List (Str × bV)).length } :=
  I2.incStart (s4:={ s2 with heap:=h4,toks:=s2.toks+([]:List (Str × bV)).length }) H Y rfl rfl l (by rw[<- f];show Z) hcl hcs
 have Dfree:H2 D=none:=I2.hok.fresh (mJ f.symm);have G:∀ b o,s2.heap.get? b=some o->b≠D:=λb o e=>by
  rw[f];show cq (b9 e)
 have b2:∀ b o,s2.heap.get? b=some o->b≠C:=λb o e=>cq (gv (by rw[f];show b9 e) Z);have Dfs:D∉ll X.stack:=λhm=>by
  let(_,o,e,_):=I2.stack.mem hm;show G _ _ e rfl
 have t:∀{σ':St}{H':Hp}{s':b8}{us:List bV}{n:Nat}{pl:List (Addr × Obj)},Inv (X.inc (own++cs.map (·.2)) scope cl fp s2 H2 C) pl σ' H' s'->s'.heap.get? D=some { cls:=.type "list",data:=.seq us.toArray n }->H' D=none ->
   Inv (X.inc (own++cs.map (·.2)) scope cl fp s2 H2 C) [(D,{ cls:=.type "list",data:=.seq us.toArray n })] σ' H' s':=λ{σ' H' s' us n pl} J' e n'=>J'.pins_of λp R=>by
  rcases i7.mp R with rfl
  show(e,n',k,Dfs,λv z=>by cases z)
 have B:∀{H':Hp}{o:Obj},(∀ b∈fp,H' b=none)->∀ b∈fp,oi (X.inc (own++cs.map (·.2)) scope cl fp s2 H2 C) [(D,o)] H' b:=λ{H' o} hn b hb=>by
  show(hn b hb,(H.exf b hb).1,H.exfs b hb, .inl hb,(H.exf b hb).2,λp R=>?_);rcases i7.mp R with rfl
  show hB (I b hb)
 have O:∀ s3:b8,s3={ s2 with heap:=h4,toks:=s2.toks+([]:List (Str × bV)).length } ->
   kl (gx X.prog X.w) X.A (.compLoop (.ListComp elt [⟨tg,iter,ifs,0⟩] scope pos) 0 (.ref it) (.ref D) (compEnvC scope cl C X.env)) (RR (.ref D) C) s3:=by
  rintro s3 rfl;show OQ (λn s'=>∃ i ys us M H',Inv (X.inc (own++cs.map (·.2)) scope cl fp s2 H2 C) [(D,{ cls:=.type "list",data:=.seq us.toArray M })] (gB own.length none++n8 cs σ) H' s'/\tn i s'.heap/\(∀ b∈fp,H' b=none)/\Vals ys us/\W i n ys H') ?_ m0
   ⟨0,[],[],0,H2,t (us:=[]) (n:=0) I4 a3 Dfree,T.keep _ _ _ st2 λb hb o e=>Y b o e,λb hb=>(f2 b hb).1, .nil,w0⟩
  intro n s5 z_;let(i,ys,us,M,H5,I5,a6,a2,vy,w5):=z_;obtain⟨hz,⟨stop,qn⟩ | ⟨go,a7⟩⟩:=turn i n ys H5 w5
  .show gJ (T.done (X.inc (own++cs.map (·.2)) scope cl fp s2 H2 C) rfl rfl rfl hc i _ s5 _ H5 (λ_ _=>False) I5 (B a2) a6 stop) (λr s6 z=>?_) λ_ _ z=>z;let(rfl,I6):=z;let(m6,b0,_):=id I6.loc;let(pD,S,_,_,_):=I6.pin (D,{ cls:=.type "list",data:=.seq us.toArray M }) (by simp);have Cfree:H5 C=none:=I6.free;show hRR D C s6 H5 ys (λh7 b4=>?_) S Cfree k ⟨m6,b0⟩ (by rw[<- f];show Z) qn;have h:∀ b,b≠C->h7.get? b=s6.heap.get? b:=λb hb=>b4.2 b hb;have a0:=b2;have u7:Un (ll X.stack) fp H2 H5 s2.heap h7:=⟨λb o e n1 n2 n3=>(h b (a0 b o e)).trans (I6.base.keep b o e n1 n2 n3),λb o e n1 n2 n3=>by
     let(sl,z):=I6.base.slot b o e n1 n2 n3;show(sl,(h b (a0 b o e)).trans z),I6.base.free,λb o e n1=>by
     let(o',z):=I6.base.there b o e n1;show(o',(h b (a0 b o e)).trans z),I6.base.tups,I6.base.frzs,I6.base.tbls⟩
   have a4:ni X.prog X.w H5 h7:=λa o e=>by
    show(I6.hok a o e).stay (λc v a9 q=>(h c ?_).trans q) (λ_ q=>q) λ_ _ q=>q;rintro rfl;rcases a9 with z | z
    .rw[<- z]at e;rw[Cfree]at e;cases e
    .rw[Cfree]at z;cases z
   have I7:Inv X pins σ H5 { s6 with heap:=h7 }:=I2.call' (s':={ s6 with heap:=h7 }) I6.os u7 a4 I6.bare λb hb=>⟨(f2 b hb).2.2.2.1,(f2 b hb).2.1,(f2 b hb).2.2.2.2.1,(f2 b hb).2.2.2.2.2⟩;show I7.track (a:=D) (o:=.lst ys) S (i3 (by rw[f];show I2.sz)) (by rw[f];show hB I2.lt) (λx c e z=>by
     let(v,o,ho,_):=I2.cell x c e;show G _ _ ho z) (λp R z=>G _ _ (I2.pin p R).1 z) ⟨hz,us,M,vy,(h D k).trans pD⟩
  .show gJ (T.item (X.inc (own++cs.map (·.2)) scope cl fp s2 H2 C) rfl rfl rfl hc i _ s5 _ H5 (λ_ _=>False) I5 (B a2) a6 go) (λr s6 z=>?_) λ_ _ z=>z;let(u,rfl,z):=z;show gJ z (λ_ s7 ζ=>?_) λ_ _ z=>z;let(x,H7,I7,r7,y7,F,b3):=ζ;have I7':=I7.pinned (B b3) (T.obj _ _ F);show gJ (hg fp s2 H2 C _ s7 _ H7 x u _ I7' r7 (a7 x H7 y7)) (λ_ s8 ⟨σ8,H8,I8,q8⟩=>?_) λ_ _ z=>z;show gJ (ht fp s2 H2 C _ s8 σ8 H8 _ I8 q8) (λbb U ⟨L,I8',a8⟩=>?_) λ_ _ z=>z;cases bb with
   | true=>
    show gJ (he fp s2 H2 C _ U σ8 L _ (I8'.wish _) a8) (λuy s9 ζ=>?_) (λe s' z=>hX D C e s' z);let(y,H9,I9,r9,m',a1,w9):=ζ;have I9:=I9.unwish;let(pD,S,_,_,_):=I9.pin (D,{ cls:=.type "list",data:=.seq us.toArray M }) (by simp);show append_at (its:=us.toArray) (n:=M) pD (λb1 P Q=>?_) (by rw[gF, <- vy.length];show hz);have d:∀ b∈fp, ∀ o,s7.heap.get? b=some o->s9.heap.get? b=some o/\H9 b=none:=λb hb o e=>by
     have z:=I9.pin (b,o) (hG _ (hG _ (wG hb e)));show(z.1,z.2.1)
    have I9':Inv (X.inc (own++cs.map (·.2)) scope cl fp s2 H2 C) [] (gB own.length none++n8 cs σ) H9 s9:=I2.incAgain I9 f2 hcl hcs;have I10:Inv (X.inc (own++cs.map (·.2)) scope cl fp s2 H2 C) [] (gB own.length none++n8 cs σ) H9 { s9 with heap:=b1 }:=I9'.turned (it:=D) (t':=s9.toks) (λb o hb e=>(P.2 b hb).trans e) S k (.inr (mJ f.symm)) (λx c e z=>by
      let(v,o,ho,_):=I2.cell x c (hcl x c e);show G _ _ ho z) λp R=>by simp at R
    rw[lstP]at Q;show(m',a1,i+1,ys++[y],us++[uy],M+1,H9,t I10 Q S,T.keep _ _ _ F λb hb o e=>?_,λb hb=>?_,vy.append (.cons r9 .nil),w9)
    .show(P.2 b (cq (I b hb))).trans (d b hb o e).1
    .let(o,e,_):=T.obj _ _ F b hb;show(d b hb o e).2
   | false=>
    let(m',a1,w9):=a8;let(pD,S,_,_,_):=I8'.pin (D,{ cls:=.type "list",data:=.seq us.toArray M }) (by simp);have d:∀ b∈fp, ∀ o,s7.heap.get? b=some o->U.heap.get? b=some o/\L b=none:=λb hb o e=>by
     have z:=I8'.pin (b,o) (hG _ (hG _ (wG hb e)));show(z.1,z.2.1)
    have I9':Inv (X.inc (own++cs.map (·.2)) scope cl fp s2 H2 C) [] (gB own.length none++n8 cs σ) L U:=I2.incAgain I8' f2 hcl hcs;show(m',a1,i+1,ys,us,M,L,t I9' pD S,T.keep _ _ _ F λb hb o e=>(d b hb o e).1,λb hb=>?_,vy,w9);let(o,e,_):=T.obj _ _ F b hb;show(d b hb o e).2
 show codeAny_compStart_list (O _ rfl) (T.self _ 0 _ _ _ (T.keep _ _ _ st2 λb hb o e=>Y b o e) (O _ rfl))
section
variable{P:gN}{mg:Str->Option bV}{base:Heap}{N:List Str}{qual:Str}{scope0:Scope}{cdv:bV}{outer:List Env}{s0:b8}{H0:Hp}{E:XK}{K:bY}{f:Addr}
theorem OR{s':b8}{e:bV}{QQ:bV->b8->Prop}(I:Inv (lI (kU P w) P w K mg base N qual scope0 f cdv A outer s0 H0 E) pins σ H s)(HC:H C=none)(hm:∃ m,s.heap.Ns C m)(hC0:s0.heap.objs.size<=C)(hCf:C∉ll (lI (kU P w) P w K mg base N qual scope0 f cdv A outer s0 H0 E).stack)
  (hx:kU P w (lI (kU P w) P w K mg base N qual scope0 f cdv A outer s0 H0 E).stack H s E e s') :
  notedBy (gx P w) (lI (kU P w) P w K mg base N qual scope0 f cdv A outer s0 H0 E).A (compEnvC scope cl C (lI (kU P w) P w K mg base N qual scope0 f cdv A outer s0 H0 E).env) (λe s''=>compPost (gx P w) (lI (kU P w) P w K mg base N qual scope0 f cdv A outer s0 H0 E).A (lI (kU P w) P w K mg base N qual scope0 f cdv A outer s0 H0 E).xe none QQ acc C (.error e) s'') e s':=by
 let(h,od,cls,a0,B,H',rfl,a3,hg,u,G,F,he):=hx;have fr:=I.stkFree' u;let(m,x,es,ep,p,dC,sk,nf):=hm;have C1:s'.heap.get? C=some x:=u.keep C x p HC hCf (by simp);have L:H' C=none:=u.free C x p HC (by simp);have Cea:h≠C:=λz=>by
  have:=F.new;rw[z,p]at this;cases this
 have BC:B.get? C=some x:=F.kept C x C1 (.inl ⟨x,p⟩) hCf;show gu (gx P w) (A.deeper (hI qual scope0 s0.heap.objs.size f cdv)) (nj (.ref h) (hI qual scope0 s0.heap.objs.size f cdv)) _ _ s';show rV (base:=B) (cls:=cls) (a0:=a0) I.ok.frames rfl F.fly F.dct λh1 hh u1 d1=>?_;let(k1,k2,k3,oe,Q,T,oT,ts,q1,q2,q3,q4,X,q6,q7,W,q9):=hh;show(m,⟨x,es,ep,k1 C x BC,dC,sk,nf⟩,λR sb i a7=>?_);have nT:T≠C:=λz=>by
  rw[z,BC]at X;cases X
 have e2:R.get? h=some oe:=(sb.2 h Cea).trans q1;have T2:R.get? T=some oT:=(sb.2 T nT).trans q7;have S:=(iu.mp q9).1;obtain⟨B',b1,V⟩:∃ B':Heap,B'.get? C=none/\∀ b,b≠C->B'.get? b=B.get? b:=by
  show(B.update C λo=>{ o with data:=.freed },?_,λb hb=>g5 _ _ (iQ hb));let(objs,a5):=B;simp only[Heap.update,Heap.get?,Array.getElem?_modify];cases objs[C]? <;> simp
 have g:∀ b,B.get? b=none->B'.get? b=none:=λb hb=>by
  by_cases c:b=C
  .rw[c];show b1
  .rw[V b c];show hb
 unfold PySem.passOn;show bO (ix e2 q3 q4 ?_);rw[if_neg (show¬((cf T == gY)=true)from by simp)];show bO ?_;unfold setFlight;show bO (ix e2 q3 q4 ?_);rw[if_pos (show(cf T != gY)=true from by simp)];show kZ T2 W S (wpAny_throw ?_);have k:∀ b,b≠T->(R.update T (kz (·.setIfInBounds 3 (i.frame.elim gY λf=>lL f)))).get? b=R.get? b:=λb hb=>g5 _ _ (iQ hb);generalize hh3:R.update T (kz (·.setIfInBounds 3 (i.frame.elim gY λf=>lL f)))=h3 at k;have T3:h3.get? T=some (oT.mapFields (·.setIfInBounds 3 (i.frame.elim gY λf=>lL f))):=by
  rw[<- hh3];show jh _ T2 (lW (jL W _))
 have nr:∀ b o,h1.get? b=some o->(∀ Q,o.data≠.fields Q)->b≠T:=λb o hb y q=>by
  rw[q,q7]at hb;cases hb;show y ts W
 have l:∀ b,b≠C->b≠T->h3.get? b=h1.get? b:=λb c1 c2=>(k b c2).trans (sb.2 b c1);have a1:B'.StaysIn h3:=λb o hb=>by
  have t:b≠C:=λz=>by rw[z,b1]at hb;cases hb
  rw[V b t]at hb;rw[l b t λz=>by rw[z,X]at hb;cases hb];show k1 b o hb
 have Z:h3.FunFrames B' (hI qual scope0 s0.heap.objs.size f cdv::outer):=Gd k3 (λa ha o q y=>⟨o,by
  rw[l a (λz=>hCf (z ▸ ha)) (nr a o q y)];show q,rfl⟩) g
 have dd:DictAt h3 h od:=by
  let(o,U,D):=d1;show(o,(l h Cea (iQ q6)).trans U,D)
 show gu (gx P w) (A.deeper (hI qual scope0 s0.heap.objs.size f cdv)) (m8 (hI qual scope0 s0.heap.objs.size f cdv) (.ref h)) (λ_ s''=>kU P w outer H0 s0 E (.ref h) s'') (λe' s''=>kU P w outer H0 s0 E e' s'') _;show JB (base:=B') (cls:=cls) (a0:=a0) (fl:=i.frame.elim gY λf=>lL f) I.ok.frames rfl a1 (g h k2) Z
  ⟨oe,Q,T,_,_,(l h Cea (iQ q6)).trans q1,q2,q3,q4,g T X,q6,T3,jL W _,by simp[S]⟩ dd λh4 O a4 a2=>?_
 have kB:∀ b o,b≠C->B.get? b=some o->h4.get? b=some o:=λb o t q=>O.1 b o (by rw[V b t];show q);have kS:∀ b o,b≠C->s'.heap.get? b=some o->(∀ Q,o.data≠.fields Q)->∃ s2,h4.get? b=some { o with slots:=s2 }:=λb o t q y=>by
  let(a6,U):=u1 b o q y;let(Y,D):=a4 b _ ((l b t (nr b _ U y)).trans U) y;show(Y,D)
 let(J,u'):=F.nextC u G fr L hCf kB kS;have M:s0.heap.get? h=none:=by
  cases q:s0.heap.get? h with
  | none=>rfl
  | some o=>
   let(j,e1):=I.base.there h o q (by intro z;cases z);have:=F.new;rw[e1]at this;cases this
 show(h,od,cls,a0,B',H',rfl,a3.trans I.os,hg,I.outC rfl hC0 u',J,⟨O,F.free,M,a2,λb o q r t=>?_⟩,he);have nC:b≠C:=λz=>by
  rcases r with⟨j,d⟩ | ⟨v,d⟩
  .have:=b9 d;rw[z]at this;show absurd (gv this hC0) (il _)
  .rw[z,L]at d;cases d
 have nL:b≠s0.heap.objs.size:=λz=>by
  rcases r with⟨j,d⟩ | ⟨v,d⟩
  .have:=b9 d;rw[z]at this;show absurd this (il _)
  .have e0:=fr s0.heap.objs.size (by
    show s0.heap.objs.size∈ll (hI qual scope0 s0.heap.objs.size f cdv::outer);show jt.mpr ⟨_,i8 ..,rfl⟩)
   rw[z,e0]at d;cases d
 have nS:b∉ll (hI qual scope0 s0.heap.objs.size f cdv::outer):=λm=>by
  rcases gW.mp (I.stkSub b m)with z | z
  .show nL z
  .show t z
 have r':(∃ j,s.heap.get? b=some j)\/∃ v,H' b=some v:=by
  rcases r with⟨j,d⟩ | r
  .show .inl (I.base.there b j d (by intro z;cases z))
  .show .inr r
 have n:∃ j,s'.heap.get? b=some j:=by
  rcases r' with⟨j,d⟩ | ⟨v,d⟩
  .show u.there b j d (by simp)
  .show(G b v d).is_there
 let(j,d):=n;have z:=F.kept b j d r' nS;have D:=kB b j nC z;rw[show h4.get? b=some o from q]at D;cases D;rw[V b nC];show z
theorem LK{own:List Str}{cs:List (Nat × Str)}{wi:TI}{g:TG}(hX:X=lI (kU P w) P w K mg base N qual scope0 f cdv A outer s0 H0 E)(hc:X.calm=true)(hi:PI X tg iter wi)
  (hg:∀ fp s2 H2 C,PG (X.inc (own++cs.map (·.2)) scope (pI X.env.cells scope.names []) fp s2 H2 C) tg g) (ht:∀ fp s2 H2 C,uY (X.inc (own++cs.map (·.2)) scope (pI X.env.cells scope.names []) fp s2 H2 C) ifs tt) (he:∀ fp s2 H2 C,PE (X.incX E (own++cs.map (·.2)) scope (pI X.env.cells scope.names []) fp s2 H2 C) elt te)
  (hfree:∀ p∈scope.names,p.2=.free->X.env.scope.names.lookup p.1=some .cell) (hcell:∀ y∈scope.names,y.2≠.cell) (hkind:scope.kind=.function) (hnames:∀ y∈scope.names,y.2=.local->scope.names.lookup y.1=some .local)
  (hcs:∀ p∈cs,X.N[p.1]?=some p.2/\X.env.scope.names.lookup p.2=some .cell/\(jf scope X.env).names.lookup p.2=some .cell)
  (hs:autoParam (∀ x,foldedSetIterable iter X.env x=pure x) Au):PE X (.ListComp elt [⟨tg,iter,ifs,0⟩] scope pos) (ve own.length cs wi g tt te):=by
 intro a s σ H Q I h;have b:∀ p∈scope.names,p.2=.free->∃ c,X.env.cells.lookup p.1=some c:=λp U S=>I.ok.has p.1 (.inl (hfree p U S));have r:=zA (cells:=X.env.cells) scope.names [] (λ_ _ z=>by simp at z) b;rw[eval_ListComp];show wpAny_comprehension_free (use:=none) rfl hs (AF b) hkind hnames (jl (hi a s σ H _ I h) λv s1 Z=>jl Z λY s2 h2=>?_);let(it,fp,tn,J,H2,rfl,I2,T,u,L,W,(m0,M),d):=h2;show OS (EX:=E) (QN:=λG t=>∀ p,t p=none->Q (.ref p) (upd t p (.lst G))) (RR:=λj C=>compPost (gx X.prog X.w) X.A X.xe none (EP X a σ Q) j C) hc hg ht he hcell hkind r (λz hz=>zB scope.names [] z (.inr (AV hcell hz))) hcs I2 T u L M d ?_ ?_
 .intro D' C s6 t G D V cN dc F n q;let(m6,i):=F;show(m6,i,λR l=>⟨.ref D',_,D R l,rfl,q D' V⟩)
 .intro D' C e s' z;let(H',s3,I3,O,F,n,hx):=z a σ I2 L;have k:C∉ll X.stack:=λm=>by
   let(_,o,q,_):=I2.stack.mem m;show absurd (gv (b9 q) n) (il _)
  have B:X.s₀.heap.objs.size<=C:=g0 I2.sz n;subst hX;show OR I3 O F B k hx
end
end L2
namespace Rn
open L2 PySem
noncomputable section
variable{R:Run}{E:XK}{i j k:Nat}{n:Int}{z:Str}{te ta tb:TE}{tA:TA}{c:TT}{t u:TS}{r:R2}{g:V->V->CH->Out V}{fe fx fy:L2.St->CH->Out V}{fA:L2.St->CH->Out (List V)}{fc:L2.St->CH->Out Bool}{fa fb:L2.St->CH->jE}{F:List V->CH->Out V}
def iq:=kh (R:=R) (E:=E) s_ix (bX (i:=i)) (sC (v:=.int n) rfl)
def j3:=b6 (R:=R) (E:=E) (bX (i:=i)) sNil
def nF:=b6 (R:=R) (E:=E) (bX (i:=i)) (j3 (i:=j))
def mx(hA:Sm R E LA tA fA):=b6 (bX (i:=i)) hA
def kA(hA:Sm R E LA tA fA):=b6 (iq (i:=i) (n:=n)) hA
def hM(hA:Sm R E LA tA fA):=b6 (sC (v:=.str z) rfl) hA
def qG(hA:Sm R E LA tA fA):=b6 (sC (v:=.int n) rfl) hA
def gX(he:Sm R E LE te fe)(hb:nI R E u fb):=iy (nK he (kg (i:=i))) hb
def ja(hc:Sm R E LB c fc)(ha:nI R E t fa)(hb:nI R E u fb):=iy (l0 hc ha sNext) hb
def jq(hA:Sm R E LA tA fA):=xm (F:=F) (dvs:=[]) rfl hA
def iA(hr:S2 R E r g)(hx:Sm R E LE ta fx)(hy:Sm R E LE tb fy):=rL (kh hr hx hy)
def rM(hA:Sm R E LA tA fA):=g6 (ip hA)
def sW(he:Sm R E LE te fe)(hb:nI R E u fb):=iy (ma he) hb
end
end Rn
open PySem L2
local macro_rules|`(tactic|rename_i $p:ident $h:ident $q:ident $H:ident $G:ident $S:ident $e:ident)=>`(tactic|(intro $p:ident $h:ident;generalize $q:ident:upd $H $p _=$G;have $S:ident:=newS $h $q;have $e:ident:=newE $q))
local macro_rules|`(tactic|bv_decide)=>`(tactic|exact ⟨rfl,rfl,rfl,by decide +kernel,rfl,by decide +kernel,by decide +kernel⟩)
local macro_rules|`(tactic|simpa! only [$xs,*])=>do let l<-(("JjH JiZ Jl0 Ji0 Jl6 Joi Jl5 JoE Jmb JlY rd_c rd_op rd_un rd_cb JlX JoA JlW Jmd rd_B Joh rd_or JoB JlV JoC Jl8 rd_if JoL rd_at rd_tb Jog JoF Joz Jov JlZ Jou JoD Joj Jol Jox Jom Joy Jok Jow JoG Jos Jor JoI JoK JoH JoJ Jof Jot rd_K JfG JfH JeV JeW Jej JfI JfJ JeZ Je0 Jem JeT JeU Jeh Jei JdL Jc8 Jc9 JcV JcW JcK JeX JeY Jek Jel JdM Jen Jeo JdN JdO Jdd Jlv Jlw Jju Jjv JhX rd_sl Jma Jh5 JjC Jh3 Jl1 JjE Jl2 Jon Jmc JjI JjJ JjG JlU V.int.injEq V.str.injEq V.bl.injEq Jh4 JjD rd_bm Jl4 Joq Jl7 Jl3 JjF Jop Joo Jme".splitOn " ").map (`L2++·.toName)++("true_and if_true if_false Bool.not_true Bool.not_false Bool.false_eq_true List.set_cons_zero List.set_cons_succ List.getElem?_cons_zero List.getElem?_cons_succ Option.some.injEq exists_eq_left exists_eq_left' Int.reduceToNat Int.reducePow List.append_nil List.nil_append List.cons_append reduceCtorEq decide_false decide_true".splitOn " ").map (·.toName)).toArray.mapM fun s=>`(Lean.Parser.Tactic.simpLemma|$(Lean.mkIdent s):term);`(tactic|simp only [$(Array.append (l.map fun x=>⟨x.raw⟩) xs.getElems),*])
local macro_rules|`(tactic|mstop)=>`(tactic|simpa! only [true_and])
local macro_rules|`(tactic|mspec)=>`(tactic|(try ((with_reducible refine Nxt.go (by assumption) ?_);nofun)))
local macro_rules|`(tactic|mframe)=>`(tactic|(mspec;nofun))
local macro_rules|`(tactic|mpure)=>`(tactic|repeat (refine And.intro (by first | exact xW ⋯ | exact powOkL ⋯ | exact Iz ⋯ | exact mulOkL' ⋯ | exact Int.one_ne_zero | decide) ?_))
local macro_rules|`(tactic|simpa only [$xs,*])=>`(tactic|simpa! only [ $xs,*])
set_option backward.defeqAttrib.useBackward true
namespace Prg
open PySem L2 Ch Rn
variable{fd:iC}{dV:bV}{f:Addr}
def top(i:Nat):Stmt:=PySem.Challenge.pw_slackchain_k73_rows_refused_at_the_desk.main.body.getD i (.Pass ⟨0,0,0,0⟩)
set_option genInjectivity false in
structure nR where
 SlackError:Addr
 NoNumber:Addr
 NoTie:Addr
 Twice:Addr
 NoName:Addr
 NoFace:Addr
 Impossible:Addr
 NoPart:Addr
 NoGap:Addr
 InRing:Addr
 Apart:Addr
 Tight:Addr
 Off:Addr
 NoRow:Addr
 Tie:Addr
 Free:Addr
 AtLeast:Addr
 AtMost:Addr
 Just:Addr
 Between:Addr
 Scale:Addr
 Step:Addr
 Part:Addr
 Gap:Addr
 Joints:Addr
 Thing:Addr
 Lid:Addr
 Book:Addr
 Desk:Addr
 SMALL_LETTERS:bV
 LONGEST_NAME:bV
 ZERO:Addr
 FIGURES:bV
 MOST_FIGURES:bV
 FORMS:Addr
 CHANGES:Addr
 LACKING:bV
structure TieC(K:bY)(C:Addr):Prop where
 cls:Cls K C
 n1:kD K C "name"
 n2:kD K C "start"
 n3:kD K C "end"
 n4:kD K C "least"
 n5:kD K C "greatest"
def qU(Ad:nR)(C:Addr):Prop:=C=Ad.Free\/C=Ad.AtLeast\/C=Ad.AtMost\/C=Ad.Just\/C=Ad.Between
structure Eg(K:bY)(C:Addr):Prop where
 cls:Cls K C
 n1:kD K C "bottom"
 n2:kD K C "factors"
def zr(Ad:nR)(C:Addr):Prop:=C=Ad.Scale
structure StepC(K:bY)(C:Addr):Prop where
 cls:Cls K C
 n1:kD K C "source"
 n2:kD K C "target"
 n3:kD K C "cost"
 n4:kD K C "whole"
 n5:kD K C "pair"
def EV(Ad:nR)(C:Addr):Prop:=C=Ad.Step
structure PartC(K:bY)(C:Addr):Prop where
 cls:Cls K C
 n1:kD K C "name"
 n2:kD K C "start"
 n3:kD K C "end"
 n4:kD K C "size"
 n5:kD K C "most"
 n6:kD K C "weight"
def IsPart(Ad:nR)(C:Addr):Prop:=C=Ad.Part
structure GapC(K:bY)(C:Addr):Prop where
 cls:Cls K C
 n1:kD K C "name"
 n2:kD K C "one"
 n3:kD K C "other"
 n4:kD K C "low"
 n5:kD K C "high"
def sq(Ad:nR)(C:Addr):Prop:=C=Ad.Gap
structure EE(K:bY)(C:Addr):Prop where
 cls:Cls K C
 n1:kD K C "leads"
def zD(Ad:nR)(C:Addr):Prop:=C=Ad.Joints
structure Ef(K:bY)(C:Addr):Prop where
 cls:Cls K C
 n1:kD K C "parts_by_name"
 n2:kD K C "gaps_by_name"
 n3:kD K C "ways"
def vr(Ad:nR)(C:Addr):Prop:=C=Ad.Thing
structure LidC(K:bY)(C:Addr):Prop where
 cls:Cls K C
 n1:kD K C "name"
 n2:kD K C "rest"
 n3:kD K C "weights"
 n4:kD K C "load"
 n5:kD K C "last_level"
def p5(Ad:nR)(C:Addr):Prop:=C=Ad.Lid
structure BookC(K:bY)(C:Addr):Prop where
 cls:Cls K C
 n1:kD K C "by_name"
def sj(Ad:nR)(C:Addr):Prop:=C=Ad.Book
structure DeskC(K:bY)(C:Addr):Prop where
 cls:Cls K C
 n1:kD K C "book"
 n2:kD K C "thing"
def vn(Ad:nR)(C:Addr):Prop:=C=Ad.Desk
def AA:List (Str × List Str):=[("tie",["name","name","name","bound","bound"]),("part",["name","name","name","number","number","weight"]),("need",["name","name","name","number","number"]),("untie",["name"]),("measure",["name","number"]),("bound",["name","number","number"]),("possible",[]),("gap",["name","name"]),("ring",[]),("room",["name"]),("share",[]),("size",["name"])]
structure Kit(K:bY)(C:Addr)(j:Nat)(D1 D2 D3 D4 D5 D6 D7 D8 D9 D10 D11 D12 D13:Addr):Prop where
 k1:iU K (.ref C) (.ref D1)=some (cj j 1)
 k2:iU K (.ref C) (.ref D2)=some (cj j 2)
 k3:iU K (.ref C) (.ref D3)=some (cj j 3)
 k4:iU K (.ref C) (.ref D4)=some (cj j 4)
 k5:iU K (.ref C) (.ref D5)=some (cj j 5)
 k6:iU K (.ref C) (.ref D6)=some (cj j 6)
 k7:iU K (.ref C) (.ref D7)=some (cj j 7)
 k8:iU K (.ref C) (.ref D8)=some (cj j 8)
 k9:iU K (.ref C) (.ref D9)=some (cj j 9)
 k10:iU K (.ref C) (.ref D10)=some (cj j 10)
 k11:iU K (.ref C) (.ref D11)=some (cj j 11)
 k12:iU K (.ref C) (.ref D12)=some (cj j 12)
 k13:iU K (.ref C) (.ref D13)=some (cj j 13)
 k14:iU K (.ref C) (.type "ValueError")=some true
theorem Kit.at{K:bY}{C:Addr}{j:Nat}{D1 D2 D3 D4 D5 D6 D7 D8 D9 D10 D11 D12 D13 D0 D14 D15 D16 a:Addr}{i:Nat}(k:Kit K C j D1 D2 D3 D4 D5 D6 D7 D8 D9 D10 D11 D12 D13)(e:[D0,D1,D2,D3,D4,D5,D6,D7,D8,D9,D10,D11,D12,D13,D14,D15,D16][i]?=some a)(h1:1<=i)(h2:i<=13):iU K (.ref C) (.ref a)=some (cj j i):=by
 match i,h1,h2,e with
 | 1,_,_,e=>cases e;show k.k1
 | 2,_,_,e=>cases e;show k.k2
 | 3,_,_,e=>cases e;show k.k3
 | 4,_,_,e=>cases e;show k.k4
 | 5,_,_,e=>cases e;show k.k5
 | 6,_,_,e=>cases e;show k.k6
 | 7,_,_,e=>cases e;show k.k7
 | 8,_,_,e=>cases e;show k.k8
 | 9,_,_,e=>cases e;show k.k9
 | 10,_,_,e=>cases e;show k.k10
 | 11,_,_,e=>cases e;show k.k11
 | 12,_,_,e=>cases e;show k.k12
 | 13,_,_,e=>cases e;show k.k13
structure Txt(K:bY)(mg:Str->Option bV)(Ad:nR):Prop where
 n_ValueError:mg "ValueError"=none
 Bha:mg "abs"=none
 Bhb:mg "all"=none
 Bhc:mg "bool"=none
 n_dict:mg "dict"=none
 Bhd:mg "int"=none
 Bad:mg "isinstance"=none
 Bc2:mg "len"=none
 Bfs:mg "list"=none
 Bhk:mg "min"=none
 BgG:mg "range"=none
 n_reversed:mg "reversed"=none
 Bgv:mg "sorted"=none
 BgH:mg "str"=none
 n_sum:mg "sum"=none
 Bec:mg "tuple"=none
 Bhe:mg "zip"=none
 m_SlackError:mg "SlackError"=some (.ref Ad.SlackError)
 m_NoNumber:mg "NoNumber"=some (.ref Ad.NoNumber)
 m_NoTie:mg "NoTie"=some (.ref Ad.NoTie)
 BfD:mg "Twice"=some (.ref Ad.Twice)
 BdT:mg "NoName"=some (.ref Ad.NoName)
 m_NoFace:mg "NoFace"=some (.ref Ad.NoFace)
 m_Impossible:mg "Impossible"=some (.ref Ad.Impossible)
 Bgw:mg "NoPart"=some (.ref Ad.NoPart)
 BgI:mg "NoGap"=some (.ref Ad.NoGap)
 Bgx:mg "InRing"=some (.ref Ad.InRing)
 BgJ:mg "Apart"=some (.ref Ad.Apart)
 m_Tight:mg "Tight"=some (.ref Ad.Tight)
 m_Off:mg "Off"=some (.ref Ad.Off)
 m_NoRow:mg "NoRow"=some (.ref Ad.NoRow)
 m_Tie:mg "Tie"=some (.ref Ad.Tie)
 m_Free:mg "Free"=some (.ref Ad.Free)
 m_AtLeast:mg "AtLeast"=some (.ref Ad.AtLeast)
 m_AtMost:mg "AtMost"=some (.ref Ad.AtMost)
 m_Just:mg "Just"=some (.ref Ad.Just)
 m_Between:mg "Between"=some (.ref Ad.Between)
 Bhl:mg "Scale"=some (.ref Ad.Scale)
 m_Step:mg "Step"=some (.ref Ad.Step)
 Bhn:mg "Part"=some (.ref Ad.Part)
 Bho:mg "Gap"=some (.ref Ad.Gap)
 Bhg:mg "Joints"=some (.ref Ad.Joints)
 Bhm:mg "Thing"=some (.ref Ad.Thing)
 m_Lid:mg "Lid"=some (.ref Ad.Lid)
 m_Book:mg "Book"=some (.ref Ad.Book)
 m_Desk:mg "Desk"=some (.ref Ad.Desk)
 BeJ:mg "SMALL_LETTERS"=some Ad.SMALL_LETTERS
 BeK:RelV (.str "abcdefghijklmnopqrstuvwxyz") Ad.SMALL_LETTERS
 Bfn:mg "LONGEST_NAME"=some Ad.LONGEST_NAME
 Bfo:RelV (.int 8) Ad.LONGEST_NAME
 Bdu:mg "ZERO"=some (.ref Ad.ZERO)
 Bdv:RelV (.ref Ad.ZERO) (.ref Ad.ZERO)
 Bhf:∀ H:Hp,mQ K H Ad.ZERO [.int 0, .int 1]
 m_FIGURES:mg "FIGURES"=some Ad.FIGURES
 r_FIGURES:RelV (.str "0123456789") Ad.FIGURES
 m_MOST_FIGURES:mg "MOST_FIGURES"=some Ad.MOST_FIGURES
 r_MOST_FIGURES:RelV (.int 60) Ad.MOST_FIGURES
 m_FORMS:mg "FORMS"=some (.ref Ad.FORMS)
 r_FORMS:RelV (.ref Ad.FORMS) (.ref Ad.FORMS)
 q_FORMS:pX K Ad.FORMS AA=true
 m_CHANGES:mg "CHANGES"=some (.ref Ad.CHANGES)
 r_CHANGES:RelV (.ref Ad.CHANGES) (.ref Ad.CHANGES)
 q_CHANGES:∀ H:Hp,mQ K H Ad.CHANGES [.str "tie", .str "part", .str "need", .str "untie", .str "measure", .str "bound"]
 m_LACKING:mg "LACKING"=some Ad.LACKING
 r_LACKING:RelV (.str "-") Ad.LACKING
 x_SlackError:kx K Ad.SlackError [.type "ValueError", .type "Exception", .type "BaseException", .type "object"] "ValueError.__new__"=true
 x_NoNumber:kx K Ad.NoNumber [.type "ValueError", .type "Exception", .type "BaseException", .type "object"] "ValueError.__new__"=true
 x_NoTie:kx K Ad.NoTie [.type "ValueError", .type "Exception", .type "BaseException", .type "object"] "ValueError.__new__"=true
 BdK:kx K Ad.Twice [.type "ValueError", .type "Exception", .type "BaseException", .type "object"] "ValueError.__new__"=true
 Bch:kx K Ad.NoName [.type "ValueError", .type "Exception", .type "BaseException", .type "object"] "ValueError.__new__"=true
 x_NoFace:kx K Ad.NoFace [.type "ValueError", .type "Exception", .type "BaseException", .type "object"] "ValueError.__new__"=true
 BdU:kx K Ad.NoPart [.type "ValueError", .type "Exception", .type "BaseException", .type "object"] "ValueError.__new__"=true
 BeL:kx K Ad.NoGap [.type "ValueError", .type "Exception", .type "BaseException", .type "object"] "ValueError.__new__"=true
 BdV:kx K Ad.InRing [.type "ValueError", .type "Exception", .type "BaseException", .type "object"] "ValueError.__new__"=true
 BeM:kx K Ad.Apart [.type "ValueError", .type "Exception", .type "BaseException", .type "object"] "ValueError.__new__"=true
 x_Off:kx K Ad.Off [.type "ValueError", .type "Exception", .type "BaseException", .type "object"] "ValueError.__new__"=true
 x_NoRow:kx K Ad.NoRow [.type "ValueError", .type "Exception", .type "BaseException", .type "object"] "ValueError.__new__"=true
 tie:∀ C,qU Ad C->TieC K C
 Bed:∀ C,zr Ad C->Eg K C
 c_Step:∀ C,EV Ad C->StepC K C
 Bcs:∀ C,IsPart Ad C->PartC K C
 BeN:∀ C,sq Ad C->GapC K C
 BeH:∀ C,zD Ad C->EE K C
 Bb6:∀ C,vr Ad C->Ef K C
 c_Lid:∀ C,p5 Ad C->LidC K C
 c_Book:∀ C,sj Ad C->BookC K C
 c_Desk:∀ C,vn Ad C->DeskC K C
 slk:xR K Ad.SlackError
 ec_NoTie:nE K Ad.NoTie
 ca_NoTie:oZ K Ad.NoTie Ad.SlackError
 kt_NoTie:Kit K Ad.NoTie 2 Ad.NoNumber Ad.NoTie Ad.Twice Ad.NoName Ad.NoFace Ad.Impossible Ad.NoPart Ad.NoGap Ad.InRing Ad.Apart Ad.Tight Ad.Off Ad.NoRow
 ec_Twice:nE K Ad.Twice
 ca_Twice:oZ K Ad.Twice Ad.SlackError
 kt_Twice:Kit K Ad.Twice 3 Ad.NoNumber Ad.NoTie Ad.Twice Ad.NoName Ad.NoFace Ad.Impossible Ad.NoPart Ad.NoGap Ad.InRing Ad.Apart Ad.Tight Ad.Off Ad.NoRow
 ec_NoName:nE K Ad.NoName
 ca_NoName:oZ K Ad.NoName Ad.SlackError
 kt_NoName:Kit K Ad.NoName 4 Ad.NoNumber Ad.NoTie Ad.Twice Ad.NoName Ad.NoFace Ad.Impossible Ad.NoPart Ad.NoGap Ad.InRing Ad.Apart Ad.Tight Ad.Off Ad.NoRow
 ec_NoFace:nE K Ad.NoFace
 ca_NoFace:oZ K Ad.NoFace Ad.SlackError
 kt_NoFace:Kit K Ad.NoFace 5 Ad.NoNumber Ad.NoTie Ad.Twice Ad.NoName Ad.NoFace Ad.Impossible Ad.NoPart Ad.NoGap Ad.InRing Ad.Apart Ad.Tight Ad.Off Ad.NoRow
 ec_Impossible:nE K Ad.Impossible
 ca_Impossible:oZ K Ad.Impossible Ad.SlackError
 kt_Impossible:Kit K Ad.Impossible 6 Ad.NoNumber Ad.NoTie Ad.Twice Ad.NoName Ad.NoFace Ad.Impossible Ad.NoPart Ad.NoGap Ad.InRing Ad.Apart Ad.Tight Ad.Off Ad.NoRow
 ec_NoPart:nE K Ad.NoPart
 ca_NoPart:oZ K Ad.NoPart Ad.SlackError
 kt_NoPart:Kit K Ad.NoPart 7 Ad.NoNumber Ad.NoTie Ad.Twice Ad.NoName Ad.NoFace Ad.Impossible Ad.NoPart Ad.NoGap Ad.InRing Ad.Apart Ad.Tight Ad.Off Ad.NoRow
 ec_NoGap:nE K Ad.NoGap
 ca_NoGap:oZ K Ad.NoGap Ad.SlackError
 kt_NoGap:Kit K Ad.NoGap 8 Ad.NoNumber Ad.NoTie Ad.Twice Ad.NoName Ad.NoFace Ad.Impossible Ad.NoPart Ad.NoGap Ad.InRing Ad.Apart Ad.Tight Ad.Off Ad.NoRow
 ec_InRing:nE K Ad.InRing
 ca_InRing:oZ K Ad.InRing Ad.SlackError
 kt_InRing:Kit K Ad.InRing 9 Ad.NoNumber Ad.NoTie Ad.Twice Ad.NoName Ad.NoFace Ad.Impossible Ad.NoPart Ad.NoGap Ad.InRing Ad.Apart Ad.Tight Ad.Off Ad.NoRow
 ec_Apart:nE K Ad.Apart
 ca_Apart:oZ K Ad.Apart Ad.SlackError
 kt_Apart:Kit K Ad.Apart 10 Ad.NoNumber Ad.NoTie Ad.Twice Ad.NoName Ad.NoFace Ad.Impossible Ad.NoPart Ad.NoGap Ad.InRing Ad.Apart Ad.Tight Ad.Off Ad.NoRow
 ec_Tight:nE K Ad.Tight
 ca_Tight:oZ K Ad.Tight Ad.SlackError
 kt_Tight:Kit K Ad.Tight 11 Ad.NoNumber Ad.NoTie Ad.Twice Ad.NoName Ad.NoFace Ad.Impossible Ad.NoPart Ad.NoGap Ad.InRing Ad.Apart Ad.Tight Ad.Off Ad.NoRow
 ec_Off:nE K Ad.Off
 ca_Off:oZ K Ad.Off Ad.SlackError
 kt_Off:Kit K Ad.Off 12 Ad.NoNumber Ad.NoTie Ad.Twice Ad.NoName Ad.NoFace Ad.Impossible Ad.NoPart Ad.NoGap Ad.InRing Ad.Apart Ad.Tight Ad.Off Ad.NoRow
 ec_NoRow:nE K Ad.NoRow
 ca_NoRow:oZ K Ad.NoRow Ad.SlackError
 kt_NoRow:Kit K Ad.NoRow 13 Ad.NoNumber Ad.NoTie Ad.Twice Ad.NoName Ad.NoFace Ad.Impossible Ad.NoPart Ad.NoGap Ad.InRing Ad.Apart Ad.Tight Ad.Off Ad.NoRow
 xa_Impossible:ro K Ad.Impossible "around"
 xl_Impossible:qw K Ad.Impossible "around"
 cs_Impossible:oZ K Ad.Impossible Ad.Impossible
 xi_Impossible:∃ S f,nu K Ad.Impossible S f
 xa_Tight:ro K Ad.Tight "tight_gap"
 xl_Tight:qw K Ad.Tight "tight_gap"
 cs_Tight:oZ K Ad.Tight Ad.Tight
 xi_Tight:∃ S f,nu K Ad.Tight S f
/-! classes by number,constants -/
def gS(Ad:nR):Nat->Addr
 | 0=>Ad.SlackError
 | 1=>Ad.NoNumber
 | 2=>Ad.NoTie
 | 3=>Ad.Twice
 | 4=>Ad.NoName
 | 5=>Ad.NoFace
 | 6=>Ad.Impossible
 | 7=>Ad.NoPart
 | 8=>Ad.NoGap
 | 9=>Ad.InRing
 | 10=>Ad.Apart
 | 11=>Ad.Tight
 | 12=>Ad.Off
 | 13=>Ad.NoRow
 | 14=>Ad.Free
 | 15=>Ad.AtLeast
 | 16=>Ad.AtMost
 | 17=>Ad.Just
 | 18=>Ad.Between
 | 19=>Ad.Scale
 | 20=>Ad.Step
 | 21=>Ad.Part
 | 22=>Ad.Gap
 | 23=>Ad.Joints
 | 24=>Ad.Thing
 | 25=>Ad.Lid
 | 26=>Ad.Book
 | 27=>Ad.Desk
 | _=>Ad.SlackError
def iF(Ad:nR):List Addr:=[Ad.SlackError,Ad.NoNumber,Ad.NoTie,Ad.Twice,Ad.NoName,Ad.NoFace,Ad.Impossible,Ad.NoPart,Ad.NoGap,Ad.InRing,Ad.Apart,Ad.Tight,Ad.Off,Ad.NoRow,Ad.ZERO,Ad.CHANGES,Ad.FORMS]
section
variable{mg:Str->Option bV}{Ad:nR}{K:bY}
theorem Sg:gS Ad 0=Ad.SlackError:=rfl
theorem Oy:gS Ad 1=Ad.NoNumber:=rfl
theorem ME:gS Ad 2=Ad.NoTie:=rfl
theorem Bi:gS Ad 3=Ad.Twice:=rfl
theorem zE:gS Ad 4=Ad.NoName:=rfl
theorem NS:gS Ad 5=Ad.NoFace:=rfl
theorem PB:gS Ad 6=Ad.Impossible:=rfl
theorem NR:gS Ad 7=Ad.NoPart:=rfl
theorem MF:gS Ad 8=Ad.NoGap:=rfl
theorem NU:gS Ad 9=Ad.InRing:=rfl
theorem MG:gS Ad 10=Ad.Apart:=rfl
theorem MD:gS Ad 11=Ad.Tight:=rfl
theorem HS:gS Ad 12=Ad.Off:=rfl
theorem ux:gS Ad 13=Ad.NoRow:=rfl
theorem K3:gS Ad 14=Ad.Free:=rfl
theorem Om:gS Ad 15=Ad.AtLeast:=rfl
theorem NV:gS Ad 16=Ad.AtMost:=rfl
theorem K0:gS Ad 17=Ad.Just:=rfl
theorem Ol:gS Ad 18=Ad.Between:=rfl
theorem FS:gS Ad 19=Ad.Scale:=rfl
theorem KY:gS Ad 20=Ad.Step:=rfl
theorem KZ:gS Ad 21=Ad.Part:=rfl
theorem HV:gS Ad 22=Ad.Gap:=rfl
theorem NT:gS Ad 23=Ad.Joints:=rfl
theorem yb:gS Ad 24=Ad.Thing:=rfl
theorem HU:gS Ad 25=Ad.Lid:=rfl
theorem K5:gS Ad 26=Ad.Book:=rfl
theorem K4:gS Ad 27=Ad.Desk:=rfl
theorem Sf:(iF Ad)[0]?=some Ad.SlackError:=rfl
theorem Ox:(iF Ad)[1]?=some Ad.NoNumber:=rfl
theorem Mz:(iF Ad)[2]?=some Ad.NoTie:=rfl
theorem Mw:(iF Ad)[3]?=some Ad.Twice:=rfl
theorem NO:(iF Ad)[4]?=some Ad.NoName:=rfl
theorem NP:(iF Ad)[5]?=some Ad.NoFace:=rfl
theorem Pz:(iF Ad)[6]?=some Ad.Impossible:=rfl
theorem NN:(iF Ad)[7]?=some Ad.NoPart:=rfl
theorem MB:(iF Ad)[8]?=some Ad.NoGap:=rfl
theorem NQ:(iF Ad)[9]?=some Ad.InRing:=rfl
theorem MC:(iF Ad)[10]?=some Ad.Apart:=rfl
theorem My:(iF Ad)[11]?=some Ad.Tight:=rfl
theorem HQ:(iF Ad)[12]?=some Ad.Off:=rfl
theorem MA:(iF Ad)[13]?=some Ad.NoRow:=rfl
theorem sM:(iF Ad)[14]?=some Ad.ZERO:=rfl
theorem NM:(iF Ad)[15]?=some Ad.CHANGES:=rfl
theorem FQ:(iF Ad)[16]?=some Ad.FORMS:=rfl
def pd:Nat->Bool:=(λC=>cj C 14||cj C 15||cj C 16||cj C 17||cj C 18||cj C 21||cj C 22||cj C 25)
theorem pK(T:Txt K mg Ad):∀ C,pd C=true->Cls K (gS Ad C)/\kD K (gS Ad C) "name":=λC h=>by
 simp only[pd,iR]at h;rcases h with((((((h | h) | h) | h) | h) | h) | h) | h
 .rw[bN h];show((T.tie _ (.inl rfl)).cls,(T.tie _ (.inl rfl)).n1)
 .rw[bN h];show((T.tie _ (.inr (.inl rfl))).cls,(T.tie _ (.inr (.inl rfl))).n1)
 .rw[bN h];show((T.tie _ (.inr (.inr (.inl rfl)))).cls,(T.tie _ (.inr (.inr (.inl rfl)))).n1)
 .rw[bN h];show((T.tie _ (.inr (.inr (.inr (.inl rfl))))).cls,(T.tie _ (.inr (.inr (.inr (.inl rfl))))).n1)
 .rw[bN h];show((T.tie _ (.inr (.inr (.inr (.inr rfl))))).cls,(T.tie _ (.inr (.inr (.inr (.inr rfl))))).n1)
 .rw[bN h];show((T.Bcs _ rfl).cls,(T.Bcs _ rfl).n1)
 .rw[bN h];show((T.BeN _ rfl).cls,(T.BeN _ rfl).n1)
 .rw[bN h];show((T.c_Lid _ rfl).cls,(T.c_Lid _ rfl).n1)
def si:Nat->Bool:=(λC=>cj C 14||cj C 15||cj C 16||cj C 17||cj C 18||cj C 21)
theorem tH(T:Txt K mg Ad):∀ C,si C=true->Cls K (gS Ad C)/\kD K (gS Ad C) "start":=λC h=>by
 simp only[si,iR]at h;rcases h with((((h | h) | h) | h) | h) | h
 .rw[bN h];show((T.tie _ (.inl rfl)).cls,(T.tie _ (.inl rfl)).n2)
 .rw[bN h];show((T.tie _ (.inr (.inl rfl))).cls,(T.tie _ (.inr (.inl rfl))).n2)
 .rw[bN h];show((T.tie _ (.inr (.inr (.inl rfl)))).cls,(T.tie _ (.inr (.inr (.inl rfl)))).n2)
 .rw[bN h];show((T.tie _ (.inr (.inr (.inr (.inl rfl))))).cls,(T.tie _ (.inr (.inr (.inr (.inl rfl))))).n2)
 .rw[bN h];show((T.tie _ (.inr (.inr (.inr (.inr rfl))))).cls,(T.tie _ (.inr (.inr (.inr (.inr rfl))))).n2)
 .rw[bN h];show((T.Bcs _ rfl).cls,(T.Bcs _ rfl).n2)
def sf:Nat->Bool:=(λC=>cj C 14||cj C 15||cj C 16||cj C 17||cj C 18||cj C 21)
theorem tG(T:Txt K mg Ad):∀ C,sf C=true->Cls K (gS Ad C)/\kD K (gS Ad C) "end":=λC h=>by
 simp only[sf,iR]at h;rcases h with((((h | h) | h) | h) | h) | h
 .rw[bN h];show((T.tie _ (.inl rfl)).cls,(T.tie _ (.inl rfl)).n3)
 .rw[bN h];show((T.tie _ (.inr (.inl rfl))).cls,(T.tie _ (.inr (.inl rfl))).n3)
 .rw[bN h];show((T.tie _ (.inr (.inr (.inl rfl)))).cls,(T.tie _ (.inr (.inr (.inl rfl)))).n3)
 .rw[bN h];show((T.tie _ (.inr (.inr (.inr (.inl rfl))))).cls,(T.tie _ (.inr (.inr (.inr (.inl rfl))))).n3)
 .rw[bN h];show((T.tie _ (.inr (.inr (.inr (.inr rfl))))).cls,(T.tie _ (.inr (.inr (.inr (.inr rfl))))).n3)
 .rw[bN h];show((T.Bcs _ rfl).cls,(T.Bcs _ rfl).n3)
def x8:Nat->Bool:=(λC=>cj C 14||cj C 15||cj C 16||cj C 17||cj C 18)
theorem Bd(T:Txt K mg Ad):∀ C,x8 C=true->Cls K (gS Ad C)/\kD K (gS Ad C) "least":=λC h=>by
 simp only[x8,iR]at h;rcases h with(((h | h) | h) | h) | h
 .rw[bN h];show((T.tie _ (.inl rfl)).cls,(T.tie _ (.inl rfl)).n4)
 .rw[bN h];show((T.tie _ (.inr (.inl rfl))).cls,(T.tie _ (.inr (.inl rfl))).n4)
 .rw[bN h];show((T.tie _ (.inr (.inr (.inl rfl)))).cls,(T.tie _ (.inr (.inr (.inl rfl)))).n4)
 .rw[bN h];show((T.tie _ (.inr (.inr (.inr (.inl rfl))))).cls,(T.tie _ (.inr (.inr (.inr (.inl rfl))))).n4)
 .rw[bN h];show((T.tie _ (.inr (.inr (.inr (.inr rfl))))).cls,(T.tie _ (.inr (.inr (.inr (.inr rfl))))).n4)
def yg:Nat->Bool:=(λC=>cj C 14||cj C 15||cj C 16||cj C 17||cj C 18)
theorem BG(T:Txt K mg Ad):∀ C,yg C=true->Cls K (gS Ad C)/\kD K (gS Ad C) "greatest":=λC h=>by
 simp only[yg,iR]at h;rcases h with(((h | h) | h) | h) | h
 .rw[bN h];show((T.tie _ (.inl rfl)).cls,(T.tie _ (.inl rfl)).n5)
 .rw[bN h];show((T.tie _ (.inr (.inl rfl))).cls,(T.tie _ (.inr (.inl rfl))).n5)
 .rw[bN h];show((T.tie _ (.inr (.inr (.inl rfl)))).cls,(T.tie _ (.inr (.inr (.inl rfl)))).n5)
 .rw[bN h];show((T.tie _ (.inr (.inr (.inr (.inl rfl))))).cls,(T.tie _ (.inr (.inr (.inr (.inl rfl))))).n5)
 .rw[bN h];show((T.tie _ (.inr (.inr (.inr (.inr rfl))))).cls,(T.tie _ (.inr (.inr (.inr (.inr rfl))))).n5)
def vv:Nat->Bool:=(λC=>cj C 19)
theorem wI(T:Txt K mg Ad):∀ C,vv C=true->Cls K (gS Ad C)/\kD K (gS Ad C) "bottom":=λC h=>by rw[bN h];show((T.Bed _ rfl).cls,(T.Bed _ rfl).n1)
def yd:Nat->Bool:=(λC=>cj C 19)
theorem zz(T:Txt K mg Ad):∀ C,yd C=true->Cls K (gS Ad C)/\kD K (gS Ad C) "factors":=λC h=>by rw[bN h];show((T.Bed _ rfl).cls,(T.Bed _ rfl).n2)
def uw:Nat->Bool:=(λC=>cj C 20)
theorem vq(T:Txt K mg Ad):∀ C,uw C=true->Cls K (gS Ad C)/\kD K (gS Ad C) "source":=λC h=>by rw[bN h];show((T.c_Step _ rfl).cls,(T.c_Step _ rfl).n1)
def uv:Nat->Bool:=(λC=>cj C 20)
theorem vp(T:Txt K mg Ad):∀ C,uv C=true->Cls K (gS Ad C)/\kD K (gS Ad C) "target":=λC h=>by rw[bN h];show((T.c_Step _ rfl).cls,(T.c_Step _ rfl).n2)
def AU:Nat->Bool:=(λC=>cj C 20)
theorem Fm(T:Txt K mg Ad):∀ C,AU C=true->Cls K (gS Ad C)/\kD K (gS Ad C) "cost":=λC h=>by rw[bN h];show((T.c_Step _ rfl).cls,(T.c_Step _ rfl).n3)
def Bp:Nat->Bool:=(λC=>cj C 20)
theorem FN(T:Txt K mg Ad):∀ C,Bp C=true->Cls K (gS Ad C)/\kD K (gS Ad C) "whole":=λC h=>by rw[bN h];show((T.c_Step _ rfl).cls,(T.c_Step _ rfl).n4)
def ze:Nat->Bool:=(λC=>cj C 20)
theorem AX(T:Txt K mg Ad):∀ C,ze C=true->Cls K (gS Ad C)/\kD K (gS Ad C) "pair":=λC h=>by rw[bN h];show((T.c_Step _ rfl).cls,(T.c_Step _ rfl).n5)
def zd:Nat->Bool:=(λC=>cj C 21)
theorem AW(T:Txt K mg Ad):∀ C,zd C=true->Cls K (gS Ad C)/\kD K (gS Ad C) "size":=λC h=>by rw[bN h];show((T.Bcs _ rfl).cls,(T.Bcs _ rfl).n4)
def AS:Nat->Bool:=(λC=>cj C 21)
theorem Fl(T:Txt K mg Ad):∀ C,AS C=true->Cls K (gS Ad C)/\kD K (gS Ad C) "most":=λC h=>by rw[bN h];show((T.Bcs _ rfl).cls,(T.Bcs _ rfl).n5)
def Bx:Nat->Bool:=(λC=>cj C 21)
theorem Ge(T:Txt K mg Ad):∀ C,Bx C=true->Cls K (gS Ad C)/\kD K (gS Ad C) "weight":=λC h=>by rw[bN h];show((T.Bcs _ rfl).cls,(T.Bcs _ rfl).n6)
def yM:Nat->Bool:=(λC=>cj C 22)
theorem Av(T:Txt K mg Ad):∀ C,yM C=true->Cls K (gS Ad C)/\kD K (gS Ad C) "one":=λC h=>by rw[bN h];show((T.BeN _ rfl).cls,(T.BeN _ rfl).n2)
def zo:Nat->Bool:=(λC=>cj C 22)
theorem Bc(T:Txt K mg Ad):∀ C,zo C=true->Cls K (gS Ad C)/\kD K (gS Ad C) "other":=λC h=>by rw[bN h];show((T.BeN _ rfl).cls,(T.BeN _ rfl).n3)
def yN:Nat->Bool:=(λC=>cj C 22)
theorem Aw(T:Txt K mg Ad):∀ C,yN C=true->Cls K (gS Ad C)/\kD K (gS Ad C) "low":=λC h=>by rw[bN h];show((T.BeN _ rfl).cls,(T.BeN _ rfl).n4)
def zf:Nat->Bool:=(λC=>cj C 22)
theorem AY(T:Txt K mg Ad):∀ C,zf C=true->Cls K (gS Ad C)/\kD K (gS Ad C) "high":=λC h=>by rw[bN h];show((T.BeN _ rfl).cls,(T.BeN _ rfl).n5)
def x9:Nat->Bool:=(λC=>cj C 23)
theorem zp(T:Txt K mg Ad):∀ C,x9 C=true->Cls K (gS Ad C)/\kD K (gS Ad C) "leads":=λC h=>by rw[bN h];show((T.BeH _ rfl).cls,(T.BeH _ rfl).n1)
def wK:Nat->Bool:=(λC=>cj C 24)
theorem ym(T:Txt K mg Ad):∀ C,wK C=true->Cls K (gS Ad C)/\kD K (gS Ad C) "parts_by_name":=λC h=>by rw[bN h];show((T.Bb6 _ rfl).cls,(T.Bb6 _ rfl).n1)
def wJ:Nat->Bool:=(λC=>cj C 24)
theorem yj(T:Txt K mg Ad):∀ C,wJ C=true->Cls K (gS Ad C)/\kD K (gS Ad C) "gaps_by_name":=λC h=>by rw[bN h];show((T.Bb6 _ rfl).cls,(T.Bb6 _ rfl).n2)
def x4:Nat->Bool:=(λC=>cj C 24)
theorem y4(T:Txt K mg Ad):∀ C,x4 C=true->Cls K (gS Ad C)/\kD K (gS Ad C) "ways":=λC h=>by rw[bN h];show((T.Bb6 _ rfl).cls,(T.Bb6 _ rfl).n3)
def wb:Nat->Bool:=(λC=>cj C 25)
theorem x5(T:Txt K mg Ad):∀ C,wb C=true->Cls K (gS Ad C)/\kD K (gS Ad C) "rest":=λC h=>by rw[bN h];show((T.c_Lid _ rfl).cls,(T.c_Lid _ rfl).n2)
def wH:Nat->Bool:=(λC=>cj C 25)
theorem ye(T:Txt K mg Ad):∀ C,wH C=true->Cls K (gS Ad C)/\kD K (gS Ad C) "weights":=λC h=>by rw[bN h];show((T.c_Lid _ rfl).cls,(T.c_Lid _ rfl).n3)
def wc:Nat->Bool:=(λC=>cj C 25)
theorem xY(T:Txt K mg Ad):∀ C,wc C=true->Cls K (gS Ad C)/\kD K (gS Ad C) "load":=λC h=>by rw[bN h];show((T.c_Lid _ rfl).cls,(T.c_Lid _ rfl).n4)
def zH:Nat->Bool:=(λC=>cj C 25)
theorem BR(T:Txt K mg Ad):∀ C,zH C=true->Cls K (gS Ad C)/\kD K (gS Ad C) "last_level":=λC h=>by rw[bN h];show((T.c_Lid _ rfl).cls,(T.c_Lid _ rfl).n5)
def uB:Nat->Bool:=(λC=>cj C 26)
theorem vC(T:Txt K mg Ad):∀ C,uB C=true->Cls K (gS Ad C)/\kD K (gS Ad C) "by_name":=λC h=>by rw[bN h];show((T.c_Book _ rfl).cls,(T.c_Book _ rfl).n1)
def vm:Nat->Bool:=(λC=>cj C 27)
theorem we(T:Txt K mg Ad):∀ C,vm C=true->Cls K (gS Ad C)/\kD K (gS Ad C) "book":=λC h=>by rw[bN h];show((T.c_Desk _ rfl).cls,(T.c_Desk _ rfl).n1)
def qv:Nat->Bool:=(λC=>cj C 27)
theorem qQ(T:Txt K mg Ad):∀ C,qv C=true->Cls K (gS Ad C)/\kD K (gS Ad C) "thing":=λC h=>by rw[bN h];show((T.c_Desk _ rfl).cls,(T.c_Desk _ rfl).n2)
def yK:Nat->Bool:=(λC=>cj C 14||cj C 15||cj C 16||cj C 17||cj C 18)
theorem E4:∀ C,yK C=true->qU Ad (gS Ad C):=λC h=>by
 simp only[yK,iR]at h;rcases h with(((h | h) | h) | h) | h
 .rw[bN h];show(.inl rfl)
 .rw[bN h];show(.inr (.inl rfl))
 .rw[bN h];show(.inr (.inr (.inl rfl)))
 .rw[bN h];show(.inr (.inr (.inr (.inl rfl))))
 .rw[bN h];show(.inr (.inr (.inr (.inr rfl))))
def x6:Nat->Bool:=(λC=>cj C 19)
theorem zk:∀ C,x6 C=true->zr Ad (gS Ad C):=λC h=>by rw[bN h];show rfl
def KH:Nat->Bool:=(λC=>cj C 20)
theorem Sd:∀ C,KH C=true->EV Ad (gS Ad C):=λC h=>by rw[bN h];show rfl
def Fj:Nat->Bool:=(λC=>cj C 21)
theorem Jt:∀ C,Fj C=true->IsPart Ad (gS Ad C):=λC h=>by rw[bN h];show rfl
def E6:Nat->Bool:=(λC=>cj C 22)
theorem IB:∀ C,E6 C=true->sq Ad (gS Ad C):=λC h=>by rw[bN h];show rfl
def zu:Nat->Bool:=(λC=>cj C 23)
theorem Bu:∀ C,zu C=true->zD Ad (gS Ad C):=λC h=>by rw[bN h];show rfl
def o3:Nat->Bool:=(λC=>cj C 24)
theorem pf:∀ C,o3 C=true->vr Ad (gS Ad C):=λC h=>by rw[bN h];show rfl
def yL:Nat->Bool:=(λC=>cj C 25)
theorem Aq:∀ C,yL C=true->p5 Ad (gS Ad C):=λC h=>by rw[bN h];show rfl
def qt:Nat->Bool:=(λC=>cj C 26)
theorem qP:∀ C,qt C=true->sj Ad (gS Ad C):=λC h=>by rw[bN h];show rfl
def vk:Nat->Bool:=(λC=>cj C 27)
theorem v9:∀ C,vk C=true->vn Ad (gS Ad C):=λC h=>by rw[bN h];show rfl
def hx:Nat->Bool:=(λC=>cj C 2||cj C 3||cj C 4||cj C 5||cj C 6||cj C 7||cj C 8||cj C 9||cj C 10||cj C 11||cj C 12||cj C 13)
theorem xJ(T:Txt K mg Ad):∀ C,hx C=true->oZ K (gS Ad C) Ad.SlackError:=λC h=>by
 simp only[hx,iR]at h;rcases h with((((((((((h | h) | h) | h) | h) | h) | h) | h) | h) | h) | h) | h
 .rw[bN h];show T.ca_NoTie
 .rw[bN h];show T.ca_Twice
 .rw[bN h];show T.ca_NoName
 .rw[bN h];show T.ca_NoFace
 .rw[bN h];show T.ca_Impossible
 .rw[bN h];show T.ca_NoPart
 .rw[bN h];show T.ca_NoGap
 .rw[bN h];show T.ca_InRing
 .rw[bN h];show T.ca_Apart
 .rw[bN h];show T.ca_Tight
 .rw[bN h];show T.ca_Off
 .rw[bN h];show T.ca_NoRow
theorem mW(T:Txt K mg Ad):∀ C,hx C=true->nE K (gS Ad C):=λC h=>by
 simp only[hx,iR]at h;rcases h with((((((((((h | h) | h) | h) | h) | h) | h) | h) | h) | h) | h) | h
 .rw[bN h];show T.ec_NoTie
 .rw[bN h];show T.ec_Twice
 .rw[bN h];show T.ec_NoName
 .rw[bN h];show T.ec_NoFace
 .rw[bN h];show T.ec_Impossible
 .rw[bN h];show T.ec_NoPart
 .rw[bN h];show T.ec_NoGap
 .rw[bN h];show T.ec_InRing
 .rw[bN h];show T.ec_Apart
 .rw[bN h];show T.ec_Tight
 .rw[bN h];show T.ec_Off
 .rw[bN h];show T.ec_NoRow
def uA:Nat->Bool:=(λC=>cj C 6)
theorem G8(T:Txt K mg Ad):∀ C,uA C=true->oZ K (gS Ad C) Ad.Impossible:=λC h=>by rw[bN h];show T.cs_Impossible
theorem O5(T:Txt K mg Ad):∀ C,uA C=true->(∃ S g,nu K (gS Ad C) S g)/\ro K (gS Ad C) "around":=λC h=>by rw[bN h];show(T.xi_Impossible,T.xa_Impossible)
theorem GS(T:Txt K mg Ad):∀ C,uA C=true->qw K (gS Ad C) "around":=λC h=>by rw[bN h];show T.xl_Impossible
def wo:Nat->Bool:=(λC=>cj C 11)
theorem MH(T:Txt K mg Ad):∀ C,wo C=true->oZ K (gS Ad C) Ad.Tight:=λC h=>by rw[bN h];show T.cs_Tight
theorem L8(T:Txt K mg Ad):∀ C,wo C=true->(∃ S g,nu K (gS Ad C) S g)/\ro K (gS Ad C) "tight_gap":=λC h=>by rw[bN h];show(T.xi_Tight,T.xa_Tight)
theorem L7(T:Txt K mg Ad):∀ C,wo C=true->qw K (gS Ad C) "tight_gap":=λC h=>by rw[bN h];show T.xl_Tight
def hb:Nat->Bool:=(λC=>cj C 6||cj C 11)
theorem ud(T:Txt K mg Ad):∀ C,hb C=true->∃ S f,nu K (gS Ad C) S f:=λC h=>by
 simp only[hb,iR]at h;rcases h with h | h
 .rw[bN h];show T.xi_Impossible
 .rw[bN h];show T.xi_Tight
def tab(C:Nat):V->Option Bool
 | .ref j=>if hx C&&iO 1 j&&iO j 13 then some (cj C j)else none
 | .ty T=>if hx C&&T == "ValueError" then some true else none
 | _=>none
theorem qR(T:Txt K mg Ad):∀(C j:Nat)(a:Addr)(b:Bool),(iF Ad)[j]?=some a->tab C (.ref j)=some b->iU K (.ref (gS Ad C)) (.ref a)=some b:=by
 intro C j a b e t;simp only[tab]at t;split at t
 .rename_i c;rw[cn,cn]at c;let((g,k),i):=c;have f:=cm k;have d:=cm i;cases t;simp only[hx,iR]at g;rcases g with((((((((((h | h) | h) | h) | h) | h) | h) | h) | h) | h) | h) | h
  .have:=bN h;subst this;show T.kt_NoTie.at e f d
  .have:=bN h;subst this;show T.kt_Twice.at e f d
  .have:=bN h;subst this;show T.kt_NoName.at e f d
  .have:=bN h;subst this;show T.kt_NoFace.at e f d
  .have:=bN h;subst this;show T.kt_Impossible.at e f d
  .have:=bN h;subst this;show T.kt_NoPart.at e f d
  .have:=bN h;subst this;show T.kt_NoGap.at e f d
  .have:=bN h;subst this;show T.kt_InRing.at e f d
  .have:=bN h;subst this;show T.kt_Apart.at e f d
  .have:=bN h;subst this;show T.kt_Tight.at e f d
  .have:=bN h;subst this;show T.kt_Off.at e f d
  .have:=bN h;subst this;show T.kt_NoRow.at e f d
 .cases t
theorem qM(T:Txt K mg Ad):∀(C:Nat)(z:String)(b:Bool),tab C (.ty z)=some b->iU K (.ref (gS Ad C)) (.type z)=some b:=by
 intro C z b t;simp only[tab]at t;split at t
 .rename_i c;rw[cn]at c;let(a,d):=c;have:=eq_of_beq d;subst this;cases t;simp only[hx,iR]at a;rcases a with((((((((((h | h) | h) | h) | h) | h) | h) | h) | h) | h) | h) | h
  .rw[bN h];show T.kt_NoTie.k14
  .rw[bN h];show T.kt_Twice.k14
  .rw[bN h];show T.kt_NoName.k14
  .rw[bN h];show T.kt_NoFace.k14
  .rw[bN h];show T.kt_Impossible.k14
  .rw[bN h];show T.kt_NoPart.k14
  .rw[bN h];show T.kt_NoGap.k14
  .rw[bN h];show T.kt_InRing.k14
  .rw[bN h];show T.kt_Apart.k14
  .rw[bN h];show T.kt_Tight.k14
  .rw[bN h];show T.kt_Off.k14
  .rw[bN h];show T.kt_NoRow.k14
 .cases t
end
def mL(x q:Str)(st:Stmt)(k np nn:Nat)(ps:List Str)(C:gN->ik->bY->(Str->Option bV)->Heap->nR->Prop)(G:L2.St->CH->jE):Prop:=∀ P w K mg base Ad f fd dV,mE K x q st dV f fd->Txt K mg Ad->C P w K mg base Ad->lJ P w K mg base (kU P w) (k+1) f fd ps (i5 K (gS Ad) (iF Ad) (fnX np nn G))
variable{x q:Str}{st:Stmt}{np nn:Nat}{N ps:List Str}{G:L2.St->CH->jE}
theorem m4{k:Nat}{C:gN->ik->bY->(Str->Option bV)->Heap->nR->Prop}(S:jn N ps (iW st))(e1:ps.length=np)(e2:N.length=nn)
  (h:∀(P:gN)(w:ik)(K:bY)(mg:Str->Option bV)(base:Heap)(Ad:nR)(f:Addr)(fd:iC)(dV:bV),mE K x q st dV f fd->Txt K mg Ad->C P w K mg base Ad->∀(cdv:bV)(A:iM)(outer:List Env)(s:b8)(H:Hp)(vs:List V)(Q:VK)(E:XK),ku k (A.deeper (PyProof.Rows.envOfC q (iW st) s.heap.objs.size f cdv)) ->
   ∃ t,o8 (lI (kU P w) P w K mg base N q (iW st) f cdv A outer s H E) (pR st) t/\∀ Pr D0,(∀ b o,H b=some o->D0 b)->nI ⟨K,gS Ad,iF Ad,Pr,D0⟩ E t G):mL x q st k np nn ps C G:=by
 intro P w K mg base Ad f fd dV F T c;subst e1 e2;show F.okx S (λvs H Q E h=>EH h) (λcdv A outer s H vs Q E e a=>?_);let(t,d,g):=h P w K mg base Ad f fd dV F T c cdv A outer s H vs Q E e;show(t,d,E8 g a)
def lD(x q:Str)(st:Stmt)(k np nn:Nat)(ps:List Str)(C:gN->ik->bY->(Str->Option bV)->Heap->nR->Prop)(G:L2.St->CH->jE):Prop:=∀ P w K mg base Ad f fd dV,mE K x q st dV f fd->Txt K mg Ad->C P w K mg base Ad->lJ P w K mg base (kU P w) (k+1) f fd ps (i5 K (gS Ad) (iF Ad) (lp np nn G))
theorem okN{k:Nat}{C:gN->ik->bY->(Str->Option bV)->Heap->nR->Prop}(S:jn N ps (iW st))(e1:ps.length=np)(e2:N.length=nn)
  (h:∀(P:gN)(w:ik)(K:bY)(mg:Str->Option bV)(base:Heap)(Ad:nR)(f:Addr)(fd:iC)(dV:bV),mE K x q st dV f fd->Txt K mg Ad->C P w K mg base Ad->∀(cdv:bV)(A:iM)(outer:List Env)(s:b8)(H:Hp)(vs:List V)(Q:VK)(E:XK),ku k (A.deeper (PyProof.Rows.envOfC q (iW st) s.heap.objs.size f cdv)) ->
   ∃ t,o8 (lI (kU P w) P w K mg base N q (iW st) f cdv A outer s H E).nox (pR st) t/\∀ Pr D0,(∀ b o,H b=some o->D0 b)->nI ⟨K,gS Ad,iF Ad,Pr,D0⟩ E0 t G):lD x q st k np nn ps C G:=by
 intro P w K mg base Ad f fd dV F T c;subst e1 e2;show F.okn S (λvs H Q E h=>KL h) (λcdv A outer s H vs Q E e a=>?_);let(t,d,g):=h P w K mg base Ad f fd dV F T c cdv A outer s H vs Q E e;show(t,d,KJ g a)
theorem mL.use{k:Nat}{C:gN->ik->bY->(Str->Option bV)->Heap->nR->Prop}(h:mL x q st k np nn ps C G){P:gN}{w:ik}{K:bY}{mg:Str->Option bV}{base:Heap}{Ad:nR}{f:Addr}{fd:iC}{dV:bV}(F:mE K x q st dV f fd)(T:Txt K mg Ad)(c:C P w K mg base Ad):lJ P w K mg base (kU P w) (k+1) f fd ps (i5 K (gS Ad) (iF Ad) (fnX np nn G)):=h P w K mg base Ad f fd dV F T c
theorem lD.use{k:Nat}{C:gN->ik->bY->(Str->Option bV)->Heap->nR->Prop}(h:lD x q st k np nn ps C G){P:gN}{w:ik}{K:bY}{mg:Str->Option bV}{base:Heap}{Ad:nR}{f:Addr}{fd:iC}{dV:bV}(F:mE K x q st dV f fd)(T:Txt K mg Ad)(c:C P w K mg base Ad):lJ P w K mg base (kU P w) (k+1) f fd ps (i5 K (gS Ad) (iF Ad) (lp np nn G)):=h P w K mg base Ad f fd dV F T c
def oA(P:gN)(w:ik)(K:bY)(mg:Str->Option bV)(base:Heap)(Ad:nR):Prop:=True
section
variable{P:gN}{w:ik}{mg:Str->Option bV}{base:Heap}{Ad:nR}{K:bY}
seal PE PA PS o8 PT PW PG ui PI PO
end
end Prg
namespace Prg
open PySem L2 Ch Rn
section
variable(P:gN)(w:ik)(K:bY)(mg:Str->Option bV)(base:Heap)(Ad:nR)
seal PE PA PS o8 PT PW PG ui PI PO
local macro_rules|`(%[$xs,*|0])=>do let r:Lean.Term<-xs.getElems.foldrM (fun x (a:Lean.Term)=>`(vD $x $a)) (<-`(pS));return r
local macro_rules|`(!$n:num)=>`(kY ix_U (pv $n) jA)
local macro_rules|`($k:num∘[$xs,*]∘$s)=>`(lJ $(Lean.mkIdent `P) $(Lean.mkIdent `w) $(Lean.mkIdent `K) $(Lean.mkIdent `mg) $(Lean.mkIdent `base) (kU $(Lean.mkIdent `P) $(Lean.mkIdent `w)) $k $(Lean.mkIdent `f) $(Lean.mkIdent `fd) [$xs,*] $s)|`($k:num∘$n:str∘[$xs,*]∘$s)=>`(kR $(Lean.mkIdent `P) $(Lean.mkIdent `w) $(Lean.mkIdent `K) $(Lean.mkIdent `mg) $(Lean.mkIdent `base) $k $n [$xs,*] [] $s)|`($k:num∘$n:str∘($c)∘[$xs,*]∘$s)=>`(km $(Lean.mkIdent `P) $(Lean.mkIdent `w) $(Lean.mkIdent `K) $(Lean.mkIdent `mg) $(Lean.mkIdent `base) $k $n $c [$xs,*] $s)|`($n:str∘$t:ident)=>`(mE $(Lean.mkIdent `K) $n $n $t $(Lean.mkIdent `dV) $(Lean.mkIdent `f) $(Lean.mkIdent `fd))|`($n:str∘$q:str∘$t:ident)=>`(mE $(Lean.mkIdent `K) $n $q $t $(Lean.mkIdent `dV) $(Lean.mkIdent `f) $(Lean.mkIdent `fd))
abbrev Du:Stmt:=inClass (top 8) 0
theorem Qk:jn ["self","words","around"] ["self","words","around"] (iW Du):=by bv_decide
noncomputable def D_Impossibleuu_inituu:{G // lD "__init__" "Impossible.__init__" Du 0 3 3 ["self","words","around"] oA G}:=by
 apply bZ;apply okN Qk rfl rfl;intro P w K mg base Ad f fd dV F T c cdv A outer s H vs Q E hr;show(_,(gH (oh (FJ T.slk rfl T.m_SlackError %[pv 0,pv 1|0])) (gQ (Fu (pv 0) (sH (j4 qr (pv 2) nP (jB _)) (lO pS) (tL GG rfl T.Bfs wg %[pv 2|0])) rfl))),λPr D0 hD=>?_)
 try simp only[rd_K]
 with_reducible
  apply sW;apply ED hb (ud (by assumption));show nF;apply Ez uA (O5 (by assumption));show bX;apply sv;apply iA;show qy;show bX;show sC rfl;apply jd;show sNil;apply lV;show Hf;show j3
noncomputable abbrev Ho:Sp:=i5 K (gS Ad) (iF Ad) (lp 3 3 D_Impossibleuu_inituu.1)
abbrev PK:=rj P w K mg base 1 "Impossible" Ad.Impossible Ad.SlackError ["self","words","around"] (Ho K Ad)
abbrev Do:Stmt:=inClass (top 13) 0
theorem Qg:jn ["self","words","tight_gap"] ["self","words","tight_gap"] (iW Do):=by bv_decide
noncomputable def D_Tightuu_inituu:{G // lD "__init__" "Tight.__init__" Do 0 3 3 ["self","words","tight_gap"] oA G}:=by
 apply bZ;apply okN Qg rfl rfl;intro P w K mg base Ad f fd dV F T c cdv A outer s H vs Q E hr;show(_,(gH (oh (FJ T.slk rfl T.m_SlackError %[pv 0,pv 1|0])) (gQ (Fu (pv 0) (pv 2) rfl))),λPr D0 hD=>?_)
 try simp only[rd_K]
 with_reducible
  apply sW;apply ED hb (ud (by assumption));show nF;apply Ez wo (L8 (by assumption));show bX;show bX
noncomputable abbrev Hm:Sp:=i5 K (gS Ad) (iF Ad) (lp 3 3 D_Tightuu_inituu.1)
abbrev ML:=rj P w K mg base 1 "Tight" Ad.Tight Ad.SlackError ["self","words","tight_gap"] (Hm K Ad)
abbrev Dm:Stmt:=top 17
theorem wL:jn ["one","other","greater","lesser","rest"] ["one","other"] (iW Dm):=by bv_decide
noncomputable def D_common_divisor:{G // lD "common_divisor" "common_divisor" Dm 0 2 5 ["one","other"] oA G}:=by
 apply bZ;apply okN wL rfl rfl;intro P w K mg base Ad f fd dV F T c cdv A outer s H vs Q E hr;have hu:=hr.units;show(_,(gH (iE 2 wL.nd (nJ Gi rfl T.Bha ES %[pv 0|0])) (gH (iE 3 wL.nd (nJ Gi rfl T.Bha ES %[pv 1|0])) (gH (wC g9 (j4 (qa hu) (pv 3) jA (jB _)) (gH (iE 4 wL.nd (gR sL (pv 2) (pv 3))) (gH (iE 2 wL.nd (pv 3)) (gQ (iE 3 wL.nd (pv 4)))))) (gQ (iX (pv 2)))))),λPr D0 hD=>?_)
 try simp only[rd_K]
 with_reducible
  apply gX;apply lV;show Hi;show j3;apply gX;apply lV;show Hi;show j3;apply iy;apply vQ 1000000;apply iA;show s_ne;show bX;show sC rfl;apply gX;apply kh;show Hj;show bX;show bX;apply gX;show bX;apply nK;show bX;show kg;apply g6;show bX
noncomputable abbrev RN:Sp:=i5 K (gS Ad) (iF Ad) (lp 2 5 D_common_divisor.1)
abbrev vF:=kR P w K mg base 1 "common_divisor" ["one","other"] [] (RN K Ad)
abbrev B7:Stmt:=top 18
theorem yZ:jn ["one","other","shared","top","rest"] ["one","other"] (iW B7):=by bv_decide
noncomputable def D_plus:{G // lD "plus" "plus" B7 1 2 5 ["one","other"] (λP w K mg base Ad=>vF P w K mg base Ad) G}:=by
 apply bZ;apply okN yZ rfl rfl;intro P w K mg base Ad f fd dV F T Bac cdv A outer s H vs Q E hr;show(_,(gH (iE 2 yZ.nd (Bac.ev hr ⋯ rfl passF %[!0,!1|0])) (gH (iE 3 yZ.nd (gR nQ (gR qO (!0) (gR pz (!1) (pv 2))) (gR qO (!1) (gR pz (!0) (pv 2))))) (gH (iE 4 yZ.nd (Bac.ev hr ⋯ rfl passF %[pv 3,pv 2|0])) (gQ (iX (jF %[gR pz (pv 3) (pv 4),gR qO (gR pz (!0) (pv 2)) (gR pz (!1) (pv 4))|0])))))),λPr D0 hD=>?_)
 try simp only[rd_K]
 with_reducible
  apply gX;apply jq;apply kA;apply kA;show sNil;apply gX;apply kh;show nW;apply kh;show rp;show iq;apply kh;show qA;show iq;show bX;apply kh;show rp;show iq;apply kh;show qA;show iq;show bX;apply gX;apply jq;show nF;apply rM;apply b6;apply kh;show qA;show bX;show bX;apply b6;apply kh;show rp;apply kh;show qA;show iq;show bX;apply kh;show qA;show iq;show bX;show sNil
noncomputable abbrev Qu:Sp:=i5 K (gS Ad) (iF Ad) (lp 2 5 D_plus.1)
abbrev y8:=kR P w K mg base 2 "plus" ["one","other"] [] (Qu K Ad)
abbrev Cb:Stmt:=top 19
theorem Mi:jn ["one","other"] ["one","other"] (iW Cb):=by bv_decide
noncomputable def D_minus:{G // lD "minus" "minus" Cb 2 2 2 ["one","other"] (λP w K mg base Ad=>y8 P w K mg base Ad) G}:=by
 apply bZ;apply okN Mi rfl rfl;intro P w K mg base Ad f fd dV F T BcT cdv A outer s H vs Q E hr;show(_,(gQ (iX (BcT.ev hr ⋯ rfl passF %[pv 0,jF %[pq vP (!1),!1|0]|0]))),λPr D0 hD=>?_);try simp only[rd_K]
 with_reducible
  apply g6;apply jq;apply mx;apply b6;apply ip;apply b6;apply ra;show wW λ_=>rfl;show iq;apply kA;show sNil;show sNil
noncomputable abbrev Qr:Sp:=i5 K (gS Ad) (iF Ad) (lp 2 2 D_minus.1)
abbrev wy:=kR P w K mg base 3 "minus" ["one","other"] [] (Qr K Ad)
abbrev Ca:Stmt:=top 20
theorem A9:jn ["one","other","across","back"] ["one","other"] (iW Ca):=by bv_decide
noncomputable def D_times:{G // lD "times" "times" Ca 1 2 4 ["one","other"] (λP w K mg base Ad=>vF P w K mg base Ad) G}:=by
 apply bZ;apply okN A9 rfl rfl;intro P w K mg base Ad f fd dV F T Bac cdv A outer s H vs Q E hr;show(_,(gH (iE 2 A9.nd (Bac.ev hr ⋯ rfl passF %[!0,!1|0])) (gH (iE 3 A9.nd (Bac.ev hr ⋯ rfl passF %[!1,!0|0])) (gQ (iX (jF %[gR qO (gR pz (!0) (pv 2)) (gR pz (!1) (pv 3)),gR qO (gR pz (!0) (pv 3)) (gR pz (!1) (pv 2))|0]))))),λPr D0 hD=>?_)
 try simp only[rd_K]
 with_reducible
  apply gX;apply jq;apply kA;apply kA;show sNil;apply gX;apply jq;apply kA;apply kA;show sNil;apply rM;apply b6;apply kh;show rp;apply kh;show qA;show iq;show bX;apply kh;show qA;show iq;show bX;apply b6;apply kh;show rp;apply kh;show qA;show iq;show bX;apply kh;show qA;show iq;show bX;show sNil
noncomputable abbrev Qq:Sp:=i5 K (gS Ad) (iF Ad) (lp 2 4 D_times.1)
abbrev Bl:=kR P w K mg base 2 "times" ["one","other"] [] (Qq K Ad)
abbrev B6:Stmt:=top 21
theorem JS:jn ["one","other"] ["one","other"] (iW B6):=by bv_decide
noncomputable def D_over:{G // mL "over" "over" B6 2 2 2 ["one","other"] (λP w K mg base Ad=>Bl P w K mg base Ad) G}:=by
 apply bZ;apply m4 JS rfl rfl;intro P w K mg base Ad f fd dV F T Bck cdv A outer s H vs Q E hr;have hu:=hr.units;show(_,(gH (gM (j4 (mR hu) (!1) jA (jB _)) (gQ (oX cp T.x_NoNumber rfl T.m_NoNumber %[gP|0]))
   j8) (gH (gM (j4 uo (!1) jA (jB _)) (gQ (iX (Bck.ev hr ⋯ rfl pass1 %[pv 0,jF %[pq vP (!1),pq vP (!1)|0]|0])))
   j8) (gQ (iX (Bck.ev hr ⋯ rfl pass1 %[pv 0,jF %[!1,!1|0]|0]))))),λPr D0 hD=>?_)
 try simp only[rd_K]
 with_reducible
  apply ja;apply iA;show s_eq;show iq;show sC rfl;apply oW;show Oy;apply hM;show sNil;apply ja;apply iA;show qz;show iq;show sC rfl;apply g6;apply jq;apply mx;apply b6;apply ip;apply b6;apply ra;show wW λ_=>rfl;show iq;apply b6;apply ra;show wW λ_=>rfl;show iq;show sNil;show sNil;apply g6;apply jq;apply mx;apply b6;apply ip;apply kA;apply kA;show sNil;show sNil
noncomputable abbrev Qt:Sp:=i5 K (gS Ad) (iF Ad) (fnX 2 2 D_over.1)
abbrev FC:=kR P w K mg base 3 "over" ["one","other"] [] (Qt K Ad)
abbrev B9:Stmt:=top 22
theorem Mh:jn ["one","other"] ["one","other"] (iW B9):=by bv_decide
noncomputable def D_under:{G // lD "under" "under" B9 0 2 2 ["one","other"] oA G}:=by
 apply bZ;apply okN Mh rfl rfl;intro P w K mg base Ad f fd dV F T c cdv A outer s H vs Q E hr;show(_,(gQ (iX (pJ uo (gR qO (!0) (!1)) (gR qO (!1) (!0)) (jB _)))),λPr D0 hD=>?_);try simp only[rd_K]
 with_reducible
  apply g6;apply kh;show qz;apply kh;show rp;show iq;show iq;apply kh;show rp;show iq;show iq
noncomputable abbrev Qw:Sp:=i5 K (gS Ad) (iF Ad) (lp 2 2 D_under.1)
abbrev wx:=kR P w K mg base 1 "under" ["one","other"] [] (Qw K Ad)
abbrev Dh:Stmt:=top 23
theorem BN:jn ["one","top","bottom"] ["one"] (iW Dh):=by bv_decide
noncomputable def D_show_fraction:{G // lD "show_fraction" "show_fraction" Dh 0 1 3 ["one"] oA G}:=by
 apply bZ;apply okN BN rfl rfl;intro P w K mg base Ad f fd dV F T c cdv A outer s H vs Q E hr;have hu:=hr.units;show(_,(gH (iE 1 BN.nd (!0)) (gH (iE 2 BN.nd (!0)) (gH (gM (j4 (mR hu) (pv 2) jA (jB _)) (gQ (iX (LF (vw (pv 1)))))
   j8) (gQ (iX (AM (sJ (vw (pv 1)) (sJ gP (sJ (vw (pv 2)) Ax))))))))),λPr D0 hD=>?_)
 try simp only[rd_K]
 with_reducible
  apply gX;show iq;apply gX;show iq;apply ja;apply iA;show s_eq;show bX;show sC rfl;apply g6;apply ra;show vI;show bX;apply g6;apply rO;apply sI;apply ra;show vI;show bX;apply sI;show sC rfl;apply sI;apply ra;show vI;show bX;show AR
noncomputable abbrev RY:Sp:=i5 K (gS Ad) (iF Ad) (lp 1 3 D_show_fraction.1)
abbrev BP:=kR P w K mg base 1 "show_fraction" ["one"] [] (RY K Ad)
abbrev Dl:Stmt:=inClass (top 24) 0
theorem BQ:jn ["self","numbers","number","factor"] ["self","numbers"] (iW Dl):=by bv_decide
noncomputable def D_Scaleuu_inituu:{G // lD "__init__" "Scale.__init__" Dl 1 2 4 ["self","numbers"] (λP w K mg base Ad=>vF P w K mg base Ad) G}:=by
 apply bZ;apply okN BQ rfl rfl;intro P w K mg base Ad f fd dV F T Bac cdv A outer s H vs Q E hr;show(_,(gH (m5 (pv 0) jA rfl) (gH (m5 (pv 0) (lO pS) rfl) (gQ (nD g9 rfl (jP (pv 1)) (kQ 2 BQ.nd) (gH (iE 3 BQ.nd (gR pz (!2) (Bac.ev hr ⋯ rfl passF %[jg (pv 0) rfl,!2|0]))) (gQ (gM (j4 vS (pv 3) jA (jB _)) (gH (m5 (pv 0) (gR qO (jg (pv 0) rfl) (pv 3)) rfl) (gQ (oh (j7 gz gE gD qf (jg (pv 0) rfl) %[pv 3|0] (hs:=by show p4 rfl)))))
   j8))))))),λPr D0 hD=>?_)
 try simp only[rd_K]
 with_reducible
  apply iy;apply iV vv (wI (by assumption));show bX;show sC rfl;apply iy;apply iV yd (zz (by assumption));show bX;apply jd;show sNil;apply kH 1000000;apply mY;show bX;show kg;apply gX;apply kh;show qA;show iq;apply jq;apply b6;apply sFld vv (wI (by assumption));show bX;apply kA;show sNil;apply l0;apply iA;show qz;show bX;show sC rfl;apply iy;apply iV vv (wI (by assumption));show bX;apply kh;show rp;apply sFld vv (wI (by assumption));show bX;show bX;apply ma;apply oK ⋯;show qe;apply sFld yd (zz (by assumption));show bX;show j3;show sNext
noncomputable abbrev RM:Sp:=i5 K (gS Ad) (iF Ad) (lp 2 4 D_Scaleuu_inituu.1)
abbrev FV:=nB P w K mg base 2 "Scale" Ad.Scale ["self","numbers"] (RM K Ad)
abbrev DJ:Stmt:=inClass (top 24) 1
theorem vA:jn ["self","number","top","rest","factor","shared"] ["self","number"] (iW DJ):=by bv_decide
noncomputable def D_Scale_lifted:{G // lD "lifted" "Scale.lifted" DJ 1 2 6 ["self","number"] (λP w K mg base Ad=>vF P w K mg base Ad) G}:=by
 apply bZ;apply okN vA rfl rfl;intro P w K mg base Ad f fd dV F T Bac cdv A outer s H vs Q E hr;have hu:=hr.units;show(_,(gH (gM (j4 (mR hu) (gR sL (jg (pv 0) rfl) (!1)) jA (jB _)) (gQ (iX (jF %[gR qO (!1) (gR pz (jg (pv 0) rfl) (!1)),jA|0])))
   j8) (gH (iE 2 vA.nd (!1)) (gH (iE 3 vA.nd (!1)) (gH (nD g9 rfl (jP (jg (pv 0) rfl)) (kQ 4 vA.nd) (gH (iE 5 vA.nd (Bac.ev hr ⋯ rfl passF %[pv 3,pv 4|0])) (gH (iE 2 vA.nd (gR qO (pv 2) (gR pz (pv 4) (pv 5)))) (gQ (iE 3 vA.nd (gR pz (pv 3) (pv 5))))))) (gQ (iX (jF %[pv 2,pv 3|0]))))))),λPr D0 hD=>?_)
 try simp only[rd_K]
 with_reducible
  apply ja;apply iA;show s_eq;apply kh;show Hj;apply sFld vv (wI (by assumption));show bX;show iq;show sC rfl;apply rM;apply b6;apply kh;show rp;show iq;apply kh;show qA;apply sFld vv (wI (by assumption));show bX;show iq;apply qG;show sNil;apply gX;show iq;apply gX;show iq;apply iy;apply kH 1000000;apply mY;apply sFld yd (zz (by assumption));show bX;show kg;apply gX;apply jq;show nF;apply gX;apply kh;show rp;show bX;apply kh;show qA;show bX;show bX;apply nK;apply kh;show qA;show bX;show bX;show kg;apply rM;show nF
noncomputable abbrev R4:Sp:=i5 K (gS Ad) (iF Ad) (lp 2 6 D_Scale_lifted.1)
abbrev Br:=km P w K mg base 2 "lifted" (zr Ad) ["self","number"] (R4 K Ad)
abbrev Dg:Stmt:=inClass (top 24) 2
theorem vB:jn ["self","number","top","bottom","factor","shared"] ["self","number"] (iW Dg):=by bv_decide
noncomputable def D_Scale_lowered:{G // lD "lowered" "Scale.lowered" Dg 1 2 6 ["self","number"] (λP w K mg base Ad=>vF P w K mg base Ad) G}:=by
 apply bZ;apply okN vB rfl rfl;intro P w K mg base Ad f fd dV F T Bac cdv A outer s H vs Q E hr;show(_,(gH (iE 2 vB.nd (!1)) (gH (iE 3 vB.nd (!1)) (gH (nD g9 rfl (jP (jg (pv 0) rfl)) (kQ 4 vB.nd) (gH (iE 5 vB.nd (Bac.ev hr ⋯ rfl passF %[pv 2,pv 4|0])) (gH (iE 2 vB.nd (gR pz (pv 2) (pv 5))) (gQ (iE 3 vB.nd (gR qO (pv 3) (gR pz (pv 4) (pv 5)))))))) (gQ (iX (jF %[pv 2,pv 3|0])))))),λPr D0 hD=>?_)
 try simp only[rd_K]
 with_reducible
  apply gX;show iq;apply gX;show iq;apply iy;apply kH 1000000;apply mY;apply sFld yd (zz (by assumption));show bX;show kg;apply gX;apply jq;show nF;apply gX;apply kh;show qA;show bX;show bX;apply nK;apply kh;show rp;show bX;apply kh;show qA;show bX;show bX;show kg;apply rM;show nF
noncomputable abbrev RX:Sp:=i5 K (gS Ad) (iF Ad) (lp 2 6 D_Scale_lowered.1)
abbrev Ot:=km P w K mg base 2 "lowered" (zr Ad) ["self","number"] (RX K Ad)
abbrev Cj:Stmt:=top 29
theorem Ny:jn ["thing"] ["thing"] (iW Cj):=by bv_decide
noncomputable def D_is_name:{G // lD "is_name" "is_name" Cj 0 1 1 ["thing"] oA G}:=by
 apply bZ;apply okN Ny rfl rfl;intro P w K mg base Ad f fd dV F T c cdv A outer s H vs Q E hr;show(_,(gH (gM (ot (nH (nJ sO rfl T.Bad oM %[pv 0,sh (v:=.ty "str") rfl T.BgH xX rfl|0]))) (gQ (iX jw))
   j8) (gH (gM (PW.pt (lu (j4 uo (nJ qg rfl T.Bc2 pQ %[pv 0|0]) jA (jB _)) (pP (j4 vS (nJ qg rfl T.Bc2 pQ %[pv 0|0]) (n7 (v:=.int 8) rfl T.Bfn T.Bfo) (jB _))))) (gQ (iX jw))
   j8) (gQ (iX (nJ (Gh rfl) rfl T.Bhb ER %[qq (qu (own:=["sign"]) (cs:=[]) rfl (EY (pv 0)) (λ_ _ _ _=>(kQ 0 (show[("sign" : Str)].Nodup by decide))) (λ_ _ _ _=>qh) (λ_ _ _ _=>(pJ (EZ (K:=K) rfl) (pv 0) (n7 (v:=.str "abcdefghijklmnopqrstuvwxyz") rfl T.BeJ T.BeK) (by with_unfolding_all rfl))) (pH rfl) ⋯ rfl ⋯ hcs0)|0]))))),λPr D0 hD=>?_)
 try simp only[rd_K]
 with_reducible
  apply ja;apply mw;apply sB;apply lV;show sQ;apply mx;apply b6;show sC rfl;show sNil;apply g6;show sC rfl;apply ja;apply pj;apply iA;show qz;apply lV;show qV;show j3;show sC rfl;apply iA;show qz;apply lV;show qV;show j3;show sC rfl;apply g6;show sC rfl;apply g6;apply lV;show Hh;apply b6;apply mV 1000000;apply Fi;show bX;show kg;apply kh;show zQ;show bX;show sC rfl;show sNil
noncomputable abbrev QD:Sp:=i5 K (gS Ad) (iF Ad) (lp 1 1 D_is_name.1)
abbrev zC:=kR P w K mg base 1 "is_name" ["thing"] [] (QD K Ad)
abbrev CW:Stmt:=top 30
theorem OV:jn ["thing"] ["thing"] (iW CW):=by bv_decide
noncomputable def D_is_whole:{G // lD "is_whole" "is_whole" CW 0 1 1 ["thing"] oA G}:=by
 apply bZ;apply okN OV rfl rfl;intro P w K mg base Ad f fd dV F T c cdv A outer s H vs Q E hr;show(_,(gQ (iX (rm (nJ sO rfl T.Bad oM %[pv 0,sh (v:=.ty "int") rfl T.Bhd EO rfl|0]) (sd (Ay (nJ sO rfl T.Bad oM %[pv 0,sh (v:=.ty "bool") rfl T.Bhc Ky rfl|0])))))),λPr D0 hD=>?_);try simp only[rd_K]
 with_reducible
  apply g6;apply nq;apply lV;show sQ;apply mx;apply b6;show sC rfl;show sNil;apply rN;apply lV;show sQ;apply mx;apply b6;show sC rfl;show sNil
noncomputable abbrev Q3:Sp:=i5 K (gS Ad) (iF Ad) (lp 1 1 D_is_whole.1)
abbrev GM:=kR P w K mg base 1 "is_whole" ["thing"] [] (Q3 K Ad)
abbrev DB:Stmt:=top 31
theorem Pp:jn ["thing"] ["thing"] (iW DB):=by bv_decide
noncomputable def D_is_fraction:{G // lD "is_fraction" "is_fraction" DB 1 1 1 ["thing"] (λP w K mg base Ad=>vF P w K mg base Ad/\GM P w K mg base Ad) G}:=by
 apply bZ;apply okN Pp rfl rfl;intro P w K mg base Ad f fd dV F T ⟨Bac,Bbr⟩ cdv A outer s H vs Q E hr;have hu:=hr.units;show(_,(gH (gM (PW.pt (lu (ot (nH (nJ sO rfl T.Bad oM %[pv 0,sh (v:=.ty "tuple") rfl T.Bec wu rfl|0]))) (pP (j4 (qa hu) (nJ qg rfl T.Bc2 pQ %[pv 0|0]) jA (jB _))))) (gQ (iX jw))
   j8) (gH (gM (PW.pt (lu (ot (nH (Bbr.ev hr ⋯ rfl passF %[!0|0]))) (pP (ot (nH (Bbr.ev hr ⋯ rfl passF %[!0|0])))))) (gQ (iX jw))
   j8) (gQ (iX (rm (pJ E1 (!0) jA (jB _)) (sd (pJ (mR hu) (Bac.ev hr ⋯ rfl passF %[!0,!0|0]) jA (jB _)))))))),λPr D0 hD=>?_)
 try simp only[rd_K]
 with_reducible
  apply ja;apply pj;apply mw;apply sB;apply lV;show sQ;apply mx;apply b6;show sC rfl;show sNil;apply iA;show s_ne;apply lV;show qV;show j3;show sC rfl;apply g6;show sC rfl;apply ja;apply pj;apply mw;apply sB;apply jq;apply kA;show sNil;apply mw;apply sB;apply jq;apply kA;show sNil;apply g6;show sC rfl;apply g6;apply nq;apply kh;show qz;show iq;show sC rfl;apply kh;show s_eq;apply jq;apply kA;apply kA;show sNil;show sC rfl
noncomputable abbrev Ri:Sp:=i5 K (gS Ad) (iF Ad) (lp 1 1 D_is_fraction.1)
abbrev G6:=kR P w K mg base 2 "is_fraction" ["thing"] [] (Ri K Ad)
abbrev CV:Stmt:=top 32
theorem OW:jn ["thing"] ["thing"] (iW CV):=by bv_decide
noncomputable def D_is_bound:{G // lD "is_bound" "is_bound" CV 2 1 1 ["thing"] (λP w K mg base Ad=>G6 P w K mg base Ad) G}:=by
 apply bZ;apply okN OW rfl rfl;intro P w K mg base Ad f fd dV F T BaG cdv A outer s H vs Q E hr;show(_,(gQ (iX (rT (pJ qr (pv 0) nP (jB _)) (sd (BaG.ev hr ⋯ rfl passF %[pv 0|0]))))),λPr D0 hD=>?_);try simp only[rd_K]
 with_reducible
  apply g6;apply uI;apply kh;show qy;show bX;show sC rfl;apply jq;show j3
noncomputable abbrev Q2:Sp:=i5 K (gS Ad) (iF Ad) (lp 1 1 D_is_bound.1)
abbrev OC:=kR P w K mg base 3 "is_bound" ["thing"] [] (Q2 K Ad)
abbrev Cw:Stmt:=top 33
theorem OJ:jn ["one","other"] ["one","other"] (iW Cw):=by bv_decide
noncomputable def D_are_faces:{G // lD "are_faces" "are_faces" Cw 1 2 2 ["one","other"] (λP w K mg base Ad=>zC P w K mg base Ad) G}:=by
 apply bZ;apply okN OJ rfl rfl;intro P w K mg base Ad f fd dV F T Bax cdv A outer s H vs Q E hr;have hu:=hr.units;show(_,(gQ (iX (rm (Bax.ev hr ⋯ rfl passF %[pv 0|0]) (rm (Bax.ev hr ⋯ rfl passF %[pv 1|0]) (sd (pJ (qa hu) (pv 0) (pv 1) (jB _))))))),λPr D0 hD=>?_);try simp only[rd_K]
 with_reducible
  apply g6;apply nq;apply jq;show j3;apply nq;apply jq;show j3;apply kh;show s_ne;show bX;show bX
noncomputable abbrev QT:Sp:=i5 K (gS Ad) (iF Ad) (lp 2 2 D_are_faces.1)
abbrev GY:=kR P w K mg base 2 "are_faces" ["one","other"] [] (QT K Ad)
abbrev DS:Stmt:=top 34
theorem Pc:jn ["least","greatest"] ["least","greatest"] (iW DS):=by bv_decide
noncomputable def D_are_bounds:{G // lD "are_bounds" "are_bounds" DS 3 2 2 ["least","greatest"] (λP w K mg base Ad=>wx P w K mg base Ad/\OC P w K mg base Ad) G}:=by
 apply bZ;apply okN Pc rfl rfl;intro P w K mg base Ad f fd dV F T ⟨BaH,Bdn⟩ cdv A outer s H vs Q E hr;show(_,(gH (gM (PW.pt (lu (ot (nH (Bdn.ev hr ⋯ rfl passF %[pv 0|0]))) (pP (ot (nH (Bdn.ev hr ⋯ rfl passF %[pv 1|0])))))) (gQ (iX jw))
   j8) (gH (gM (PW.pt (lu (j4 qr (pv 0) nP (jB _)) (pP (j4 qr (pv 1) nP (jB _))))) (gQ (iX jw))
   j8) (gQ (iX (Ay (BaH.ev hr ⋯ rfl passF %[pv 1,pv 0|0])))))),λPr D0 hD=>?_)
 try simp only[rd_K]
 with_reducible
  apply ja;apply pj;apply mw;apply sB;apply jq;show j3;apply mw;apply sB;apply jq;show j3;apply g6;show sC rfl;apply ja;apply pj;apply iA;show qy;show bX;show sC rfl;apply iA;show qy;show bX;show sC rfl;apply g6;show sC rfl;apply g6;apply rN;apply jq;show nF
noncomputable abbrev Rq:Sp:=i5 K (gS Ad) (iF Ad) (lp 2 2 D_are_bounds.1)
abbrev PV:=kR P w K mg base 4 "are_bounds" ["least","greatest"] [] (Rq K Ad)
abbrev Cg:Stmt:=top 35
theorem Mp:jn ["thing"] ["thing"] (iW Cg):=by bv_decide
noncomputable def D_is_tie:{G // lD "is_tie" "is_tie" Cg 4 1 1 ["thing"] (λP w K mg base Ad=>zC P w K mg base Ad/\GY P w K mg base Ad/\PV P w K mg base Ad) G}:=by
 apply bZ;apply okN Mp rfl rfl;intro P w K mg base Ad f fd dV F T ⟨Bax,Bbt,Bc4⟩ cdv A outer s H vs Q E hr;have hu:=hr.units;show(_,(gH (gM (PW.pt (lu (ot (nH (nJ sO rfl T.Bad oM %[pv 0,sh (v:=.ty "tuple") rfl T.Bec wu rfl|0]))) (pP (j4 (qa hu) (nJ qg rfl T.Bc2 pQ %[pv 0|0]) jA (jB _))))) (gQ (iX jw))
   j8) (gQ (iX (rm (Bax.ev hr ⋯ rfl passF %[!0|0]) (rm (Bbt.ev hr ⋯ rfl passF %[!0,!0|0]) (sd (Bc4.ev hr ⋯ rfl passF %[!0,!0|0]))))))),λPr D0 hD=>?_)
 try simp only[rd_K]
 with_reducible
  apply ja;apply pj;apply mw;apply sB;apply lV;show sQ;apply mx;apply b6;show sC rfl;show sNil;apply iA;show s_ne;apply lV;show qV;show j3;show sC rfl;apply g6;show sC rfl;apply g6;apply nq;apply jq;apply kA;show sNil;apply nq;apply jq;apply kA;apply kA;show sNil;apply jq;apply kA;apply kA;show sNil
noncomputable abbrev QK:Sp:=i5 K (gS Ad) (iF Ad) (lp 1 1 D_is_tie.1)
abbrev F8:=kR P w K mg base 5 "is_tie" ["thing"] [] (QK K Ad)
abbrev DI:Stmt:=inClass (top 36) 0
theorem P3:jn ["self","row"] ["self","row"] (iW DI):=by bv_decide
noncomputable def D_Tieuu_inituu:{G // lD "__init__" "Tie.__init__" DI 0 2 2 ["self","row"] oA G}:=by
 apply bZ;apply okN P3 rfl rfl;intro P w K mg base Ad f fd dV F T c cdv A outer s H vs Q E hr;show(_,(gH (m5 (pv 0) (!1) rfl) (gH (m5 (pv 0) (!1) rfl) (gH (m5 (pv 0) (!1) rfl) (gH (m5 (pv 0) (!1) rfl) (gQ (m5 (pv 0) (!1) rfl)))))),λPr D0 hD=>?_)
 try simp only[rd_K]
 with_reducible
  apply iy;apply iV pd (pK (by assumption));show bX;show iq;apply iy;apply iV si (tH (by assumption));show bX;show iq;apply iy;apply iV sf (tG (by assumption));show bX;show iq;apply iy;apply iV x8 (Bd (by assumption));show bX;show iq;apply iV yg (BG (by assumption));show bX;show iq
noncomputable abbrev yu:Sp:=i5 K (gS Ad) (iF Ad) (lp 2 2 D_Tieuu_inituu.1)
abbrev Ov:=nB P w K mg base 1 "AtLeast" Ad.AtLeast ["self","row"] (yu K Ad)
abbrev N9:=nB P w K mg base 1 "AtMost" Ad.AtMost ["self","row"] (yu K Ad)
abbrev Ou:=nB P w K mg base 1 "Between" Ad.Between ["self","row"] (yu K Ad)
abbrev Lp:=nB P w K mg base 1 "Free" Ad.Free ["self","row"] (yu K Ad)
abbrev Lo:=nB P w K mg base 1 "Just" Ad.Just ["self","row"] (yu K Ad)
abbrev Cv:Stmt:=inClass (top 36) 3
theorem G1:jn ["self","told"] ["self"] (iW Cv):=by bv_decide
noncomputable def D_Tie_steps:{G // lD "steps" "Tie.steps" Cv 3 1 2 ["self"] (λP w K mg base Ad=>wy P w K mg base Ad) G}:=by
 apply bZ;apply okN G1 rfl rfl;intro P w K mg base Ad f fd dV F T Bay cdv A outer s H vs Q E hr;show(_,(gH (iE 1 G1.nd (lO pS)) (gH (gM (j4 wF (jg (pv 0) rfl) nP (jB _)) (gQ (oh (j7 gz gE gD qf (pv 1) %[jF %[jg (pv 0) rfl,jg (pv 0) rfl,jg (pv 0) rfl,jw|0]|0] (hs:=by show p4 rfl))))
   j8) (gH (gM (j4 wF (jg (pv 0) rfl) nP (jB _)) (gQ (oh (j7 gz gE gD qf (pv 1) %[jF %[jg (pv 0) rfl,jg (pv 0) rfl,Bay.ev hr ⋯ rfl passF %[n7 (v:=.ref _) rfl T.Bdu T.Bdv,jg (pv 0) rfl|0],jw|0]|0] (hs:=by show p4 rfl))))
   j8) (gQ (iX (pv 1)))))),λPr D0 hD=>?_)
 try simp only[rd_K]
 with_reducible
  apply gX;apply jd;show sNil;apply ja;apply iA;show wX;apply sFld yg (BG (by assumption));show bX;show sC rfl;apply ma;apply oK ⋯;show qe;show bX;apply b6;apply ip;apply b6;apply sFld si (tH (by assumption));show bX;apply b6;apply sFld sf (tG (by assumption));show bX;apply b6;apply sFld yg (BG (by assumption));show bX;apply b6;show sC rfl;show sNil;show sNil;apply ja;apply iA;show wX;apply sFld x8 (Bd (by assumption));show bX;show sC rfl;apply ma;apply oK ⋯;show qe;show bX;apply b6;apply ip;apply b6;apply sFld sf (tG (by assumption));show bX;apply b6;apply sFld si (tH (by assumption));show bX;apply b6;apply jq;apply b6;show ml sM;apply b6;apply sFld x8 (Bd (by assumption));show bX;show sNil;apply b6;show sC rfl;show sNil;show sNil;apply g6;show bX
noncomputable abbrev QS:Sp:=i5 K (gS Ad) (iF Ad) (lp 1 2 D_Tie_steps.1)
abbrev FU:=km P w K mg base 4 "steps" (qU Ad) ["self"] (QS K Ad)
abbrev Cf:Stmt:=top 42
theorem Bz:jn ["thing","least","greatest"] ["thing"] (iW Cf):=by bv_decide
noncomputable def D_tie_of:{G // mL "tie_of" "tie_of" Cf 5 1 3 ["thing"] (λP w K mg base Ad=>Ou P w K mg base Ad/\Lo P w K mg base Ad/\N9 P w K mg base Ad/\Ov P w K mg base Ad/\Lp P w K mg base Ad/\F8 P w K mg base Ad) G}:=by
 apply bZ;apply m4 Bz rfl rfl;intro P w K mg base Ad f fd dV F T ⟨k_Between,k_Just,k_AtMost,k_AtLeast,k_Free,Bdq⟩ cdv A outer s H vs Q E hr;have hu:=hr.units;show(_,(gH (gM (ot (nH (Bdq.ev hr ⋯ rfl pass1 %[pv 0|0]))) (gQ (oX cp T.x_NoTie rfl T.m_NoTie %[gP|0]))
   j8) (gH (iE 1 Bz.nd (!0)) (gH (iE 2 Bz.nd (!0)) (gH (gM (PW.pt (tF (j4 qr (pv 1) nP (jB _)) (tJ (j4 qr (pv 2) nP (jB _))))) (gQ (iX (k_Free.ev hr ⋯ rfl pass1 %[pv 0|0])))
   j8) (gH (gM (j4 qr (pv 2) nP (jB _)) (gQ (iX (k_AtLeast.ev hr ⋯ rfl pass1 %[pv 0|0])))
   j8) (gH (gM (j4 qr (pv 1) nP (jB _)) (gQ (iX (k_AtMost.ev hr ⋯ rfl pass1 %[pv 0|0])))
   j8) (gH (gM (j4 (mR hu) (pv 1) (pv 2) (jB _)) (gQ (iX (k_Just.ev hr ⋯ rfl pass1 %[pv 0|0])))
   j8) (gQ (iX (k_Between.ev hr ⋯ rfl pass1 %[pv 0|0])))))))))),λPr D0 hD=>?_)
 try simp only[rd_K]
 with_reducible
  apply ja;apply mw;apply sB;apply jq;show j3;apply oW;show ME;apply hM;show sNil;apply gX;show iq;apply gX;show iq;apply ja;apply rf;apply iA;show qy;show bX;show sC rfl;apply iA;show qy;show bX;show sC rfl;apply g6;apply pL;show K3;decide;show j3;apply ja;apply iA;show qy;show bX;show sC rfl;apply g6;apply pL;show Om;decide;show j3;apply ja;apply iA;show qy;show bX;show sC rfl;apply g6;apply pL;show NV;decide;show j3;apply ja;apply iA;show s_eq;show bX;show bX;apply g6;apply pL;show K0;decide;show j3;apply g6;apply pL;show Ol;decide;show j3
noncomputable abbrev QJ:Sp:=i5 K (gS Ad) (iF Ad) (fnX 1 3 D_tie_of.1)
abbrev Bs:=kR P w K mg base 6 "tie_of" ["thing"] [] (QJ K Ad)
abbrev CU:Stmt:=top 44
theorem BL:jn ["ties","found","tie"] ["ties"] (iW CU):=by bv_decide
noncomputable def D_faces_of:{G // lD "faces_of" "faces_of" CU 0 1 3 ["ties"] oA G}:=by
 apply bZ;apply okN BL rfl rfl;intro P w K mg base Ad f fd dV F T c cdv A outer s H vs Q E hr;have hu:=hr.units;show(_,(gH (iE 1 BL.nd qd) (gH (nD g9 rfl (jP (pv 0)) (kQ 2 BL.nd) (gH (o9 (kP hu) (pv 1) (jg (pv 2) rfl) jw rfl) (gQ (o9 (kP hu) (pv 1) (jg (pv 2) rfl) jw rfl)))) (gQ (iX (nJ (GF rfl) rfl T.Bgv Gj %[pv 1|0]))))),λPr D0 hD=>?_)
 try simp only[rd_K]
 with_reducible
  apply gX;show p8;apply iy;apply kH 1000000;apply mY;show bX;show kg;apply iy;apply pe;show bX;apply sFld si (tH (by assumption));show bX;show sC rfl;apply pe;show bX;apply sFld sf (tG (by assumption));show bX;show sC rfl;apply g6;apply lV;show Hg;show j3
noncomputable abbrev Q0:Sp:=i5 K (gS Ad) (iF Ad) (lp 1 3 D_faces_of.1)
abbrev OE:=kR P w K mg base 1 "faces_of" ["ties"] [] (Q0 K Ad)
abbrev Df:Stmt:=top 45
theorem yk:jn ["ties","told","row","tie","step"] ["ties"] (iW Df):=by bv_decide
noncomputable def D_steps_by_pair:{G // mL "steps_by_pair" "steps_by_pair" Df 6 1 5 ["ties"] (λP w K mg base Ad=>FU P w K mg base Ad/\Bs P w K mg base Ad) G}:=by
 apply bZ;apply m4 yk rfl rfl;intro P w K mg base Ad f fd dV F T ⟨m_steps,BbN⟩ cdv A outer s H vs Q E hr;have hu:=hr.units;show(_,(gH (iE 1 yk.nd LH) (gH (nD gA rfl (jP (pv 0)) (kQ 2 yk.nd) (gH (iE 3 yk.nd (BbN.ev hr ⋯ rfl pass1 %[pv 2|0])) (gQ (nD gA rfl (jP (m_steps.m0 hr ⋯ pass1 (pv 3))) (kQ 4 yk.nd) (gQ (o9 (kP hu) (pv 1) (jF %[jg (pv 3) rfl,!4|0]) (pv 4) rfl)))))) (gQ (iX (pv 1))))),λPr D0 hD=>?_)
 try simp only[rd_K]
 with_reducible
  apply gX;show HD;apply iy;apply kH 1000000;apply mY;show bX;show kg;apply gX;apply jq;show j3;apply kH 1000000;apply mY;apply iB _ yK E4;show bX;show sNil;show kg;apply pe;show bX;apply ip;apply b6;apply sFld pd (pK (by assumption));show bX;apply kA;show sNil;show bX;apply g6;show bX
noncomputable abbrev RW:Sp:=i5 K (gS Ad) (iF Ad) (fnX 1 5 D_steps_by_pair.1)
abbrev Hc:=kR P w K mg base 7 "steps_by_pair" ["ties"] [] (RW K Ad)
abbrev DR:Stmt:=top 46
theorem yn:jn ["ties","chain","known","steps","ahead","step"] ["ties","chain"] (iW DR):=by bv_decide
noncomputable def D_chain_ends:{G // mL "chain_ends" "chain_ends" DR 7 2 6 ["ties","chain"] (λP w K mg base Ad=>Hc P w K mg base Ad) G}:=by
 apply bZ;apply m4 yn rfl rfl;intro P w K mg base Ad f fd dV F T BaA cdv A outer s H vs Q E hr;have hu:=hr.units;show(_,(gH (iE 2 yn.nd (BaA.ev hr ⋯ rfl pass1 %[pv 0|0]) rfl (m1 rfl)) (gH (HH (BM (j:=3) (own:=["pair"]) (cs:=[(2,"known")]) yn.nd rfl (Or.inl rfl) rfl (jP (pv 1)) (λ_ _ _ _=>(kQ 0 (show[("pair" : Str),("known" : Str)].Nodup by decide))) (λ_ _ _ _=>qh) (λ_ _ _ _=>(F3 (kP hu) (pv 1) (pv 0) ⟨rfl,rfl,rfl,rfl⟩)) (pH rfl) ⋯ rfl ⋯ (qj rfl rfl rfl))) (gH (gM (PW.pt (lu (j4 (mR hu) (nJ qg rfl T.Bc2 pQ %[pv 3|0]) jA (jB _)) (pP (j4 (Jb hu) nP (pv 3) (by with_unfolding_all rfl))))) (gQ (iX nP))
   j8) (gH (nD gA rfl (HJ rfl T.Bhe EN %[pv 3,wD sl_W (pv 3) (v7 jA) v8|0]) (ur (K:=K) (n:=2) rfl rfl (qc (kQ 4 yn.nd) (qc (kQ 5 yn.nd) uq))) (gQ (gM (j4 (qa hu) (!4) (!5) (jB _)) (gQ (iX nP))
   j8))) (gQ (iX (jF %[kY ix_U (!3) jA,kY ix_U (kY ix_U (pv 3) (pq vP jA)) jA|0]))))))),λPr D0 hD=>?_)
 try simp only[rd_K]
 with_reducible
  apply gX;apply jq;show j3;apply gX;apply mV 1000000;apply mY;show bX;show kg;apply EB;show bX;show bX;apply ja;apply pj;apply iA;show s_eq;apply lV;show qV;show j3;show sC rfl;apply iA;show Qn;show sC rfl;show bX;apply g6;show sC rfl;apply iy;apply kH 1000000;apply Ll;apply mx;apply b6;apply rb;show bX;apply ph;show sC rfl;show v3;show sNil;apply oS;apply qN;show kg;apply qN;show kg;show gsNil;apply l0;apply iA;show s_ne;show iq;show iq;apply g6;show sC rfl;show sNext;apply rM;apply b6;apply kh;show s_ix;show iq;show sC rfl;apply b6;apply kh;show s_ix;apply kh;show s_ix;show bX;apply ra;show wW λ_=>rfl;show sC rfl;show sC rfl;show sNil
noncomputable abbrev Rp:Sp:=i5 K (gS Ad) (iF Ad) (fnX 2 6 D_chain_ends.1)
abbrev PU:=kR P w K mg base 8 "chain_ends" ["ties","chain"] [] (Rp K Ad)
abbrev Cu:Stmt:=top 47
theorem yc:jn ["ties","chain","known","total","pair"] ["ties","chain"] (iW Cu):=by bv_decide
noncomputable def D_chain_sum:{G // mL "chain_sum" "chain_sum" Cu 7 2 5 ["ties","chain"] (λP w K mg base Ad=>y8 P w K mg base Ad/\Hc P w K mg base Ad) G}:=by
 apply bZ;apply m4 yc rfl rfl;intro P w K mg base Ad f fd dV F T ⟨BcT,BaA⟩ cdv A outer s H vs Q E hr;have hu:=hr.units;show(_,(gH (iE 2 yc.nd (BaA.ev hr ⋯ rfl pass1 %[pv 0|0])) (gH (iE 3 yc.nd (n7 (v:=.ref _) rfl T.Bdu T.Bdv)) (gH (nD gA rfl (jP (pv 1)) (kQ 4 yc.nd) (gQ (iE 3 yc.nd (BcT.ev hr ⋯ rfl pass1 %[pv 3,kY ix_U (oG (kP hu) (pv 2) (pv 4) (λ_ _=>rfl)) jA|0])))) (gQ (iX (pv 3)))))),λPr D0 hD=>?_)
 try simp only[rd_K]
 with_reducible
  apply gX;apply jq;show j3;apply gX;show ml sM;apply iy;apply kH 1000000;apply mY;show bX;show kg;apply nK;apply jq;apply mx;apply b6;apply kh;show s_ix;apply kf;show bX;show bX;show sC rfl;show sNil;show kg;apply g6;show bX
noncomputable abbrev QR:Sp:=i5 K (gS Ad) (iF Ad) (fnX 2 5 D_chain_sum.1)
abbrev O4:=kR P w K mg base 8 "chain_sum" ["ties","chain"] [] (QR K Ad)
abbrev DO:Stmt:=inClass (top 49) 0
theorem P0:jn ["self","name","row","scale"] ["self","name","row","scale"] (iW DO):=by bv_decide
noncomputable def D_Stepuu_inituu:{G // lD "__init__" "Step.__init__" DO 2 4 4 ["self","name","row","scale"] (λP w K mg base Ad=>Br P w K mg base Ad) G}:=by
 apply bZ;apply okN P0 rfl rfl;intro P w K mg base Ad f fd dV F T BbO cdv A outer s H vs Q E hr;show(_,(gH (m5 (pv 0) (!2) rfl) (gH (m5 (pv 0) (!2) rfl) (gH (m5 (pv 0) (!2) rfl) (gH (m5 (pv 0) (kY ix_U (BbO.m hr ⋯ passF (pv 3) %[!2|0]) jA) rfl) (gQ (m5 (pv 0) (jF %[pv 1,!2|0]) rfl)))))),λPr D0 hD=>?_)
 try simp only[rd_K]
 with_reducible
  apply iy;apply iV uw (vq (by assumption));show bX;show iq;apply iy;apply iV uv (vp (by assumption));show bX;show iq;apply iy;apply iV AU (Fm (by assumption));show bX;show iq;apply iy;apply iV Bp (FN (by assumption));show bX;apply kh;show s_ix;apply iB _ x6 zk;show bX;apply kA;show sNil;show sC rfl;apply iV ze (AX (by assumption));show bX;apply ip;apply mx;apply kA;show sNil
noncomputable abbrev RU:Sp:=i5 K (gS Ad) (iF Ad) (lp 4 4 D_Stepuu_inituu.1)
abbrev Lm:=nB P w K mg base 3 "Step" Ad.Step ["self","name","row","scale"] (RU K Ad)
abbrev CT:Stmt:=top 50
theorem zL:jn ["ties","rows","tie","scale"] ["ties"] (iW CT):=by bv_decide
noncomputable def D_steps_of:{G // lD "steps_of" "steps_of" CT 4 1 4 ["ties"] (λP w K mg base Ad=>Lm P w K mg base Ad/\FV P w K mg base Ad/\FU P w K mg base Ad) G}:=by
 apply bZ;apply okN zL rfl rfl;intro P w K mg base Ad f fd dV F T ⟨k_Step,Beh,m_steps⟩ cdv A outer s H vs Q E hr;show(_,(gH (iE 1 zL.nd (lO pS)) (gH (nD g9 rfl (jP (pv 0)) (kQ 2 zL.nd rfl (m1 rfl)) (gQ (oh (j7 gz PySem.F.slot_list_extend PySem.F.type_list_extend Bt (pv 1) %[qq (qu (own:=["row"]) (cs:=[(2,"tie")]) rfl (jP (m_steps.m0 hr ⋯ passF (pv 2))) (λ_ _ _ _=>(kQ 0 (show[("row" : Str),("tie" : Str)].Nodup by decide))) (λ_ _ _ _=>qh) (λ_ _ _ _=>(jF %[Fx (K:=K) rfl (pv 1) rfl,pv 0|0])) (pH rfl) ⋯ rfl ⋯ (qj rfl rfl rfl))|0])))) (gH (iE 3 zL.nd (Beh.ev hr ⋯ rfl passF %[qq (qu (own:=["name","row"]) (cs:=[]) rfl (jP (pv 1)) (λ_ _ _ _=>(ur (K:=K) (n:=2) rfl rfl (qc (kQ 0 (show[("name" : Str),("row" : Str)].Nodup by decide) (hf:=m1 rfl)) (qc (kQ 1 (show[("name" : Str),("row" : Str)].Nodup by decide) (hf:=m1 rfl)) uq)))) (λ_ _ _ _=>qh) (λ_ _ _ _=>(kY (rY (K:=K) rfl) (pv 1) jA)) (pH rfl) ⋯ rfl ⋯ hcs0)|0]) rfl (m1 rfl)) (gQ (iX (qq (qu (own:=["name","row"]) (cs:=[(3,"scale")]) rfl (jP (pv 1)) (λ_ _ _ _=>(ur (K:=K) (n:=2) rfl rfl (qc (kQ 0 (show[("name" : Str),("row" : Str),("scale" : Str)].Nodup by decide) (hf:=m1 rfl)) (qc (kQ 1 (show[("name" : Str),("row" : Str),("scale" : Str)].Nodup by decide) (hf:=m1 rfl)) uq)))) (λ_ _ _ _=>qh) (λ_ _ _ _=>(k_Step.ev hr ⋯ rfl passF %[pv 0,pv 1,pv 2|0])) (pH rfl) ⋯ rfl ⋯ (qj rfl rfl rfl)))))))),λPr D0 hD=>?_)
 try simp only[rd_K]
 with_reducible
  apply gX;apply jd;show sNil;apply iy;apply kH 1000000;apply mY;show bX;show kg;apply ma;apply oK ⋯;show Bn;show bX;apply b6;apply mV 1000000;apply mY;apply iB _ yK E4;show bX;show sNil;show kg;apply ip;apply b6;apply sFld pd (pK (by assumption));show bX;show j3;show sNil;apply gX;apply pL;show FS;decide;apply b6;apply mV 1000000;apply mY;show bX;apply oS;apply qN;show kg;apply qN;show kg;show gsNil;show iq;show sNil;apply g6;apply mV 1000000;apply mY;show bX;apply oS;apply qN;show kg;apply qN;show kg;show gsNil;apply pL;show KY;decide;apply mx;show nF
noncomputable abbrev QZ:Sp:=i5 K (gS Ad) (iF Ad) (lp 1 4 D_steps_of.1)
abbrev GK:=kR P w K mg base 5 "steps_of" ["ties"] [] (QZ K Ad)
abbrev DA:Stmt:=top 51
theorem vz:jn ["lasts","face","passed","at","backward","turn"] ["lasts","face"] (iW DA):=by bv_decide
noncomputable def D_ring_behind:{G // lD "ring_behind" "ring_behind" DA 0 2 6 ["lasts","face"] oA G}:=by
 apply bZ;apply okN vz rfl rfl;intro P w K mg base Ad f fd dV F T c cdv A outer s H vs Q E hr;have hu:=hr.units;show(_,(gH (iE 2 vz.nd qd) (gH (iE 3 vz.nd (pv 1)) (gH (wC g9 (p9 (tM (kP hu) (pv 3) (pv 2)) (by with_unfolding_all rfl)) (gH (o9 (kP hu) (pv 2) (pv 3) jw rfl) (gQ (iE 3 vz.nd (jg (oG (kP hu) (pv 0) (pv 3) (λ_ _=>rfl)) rfl))))) (gH (iE 4 vz.nd (lO pS)) (gH (iE 5 vz.nd (pv 3)) (gH (wC g9 (PW.pt (lu (j4 (mR hu) (nJ qg rfl T.Bc2 pQ %[pv 4|0]) jA (jB _)) (pP (j4 (qa hu) (pv 5) (pv 3) (jB _))))) (gH (oh (j7 gz gE gD qf (pv 4) %[jg (oG (kP hu) (pv 0) (pv 5) (λ_ _=>rfl)) rfl|0] (hs:=by show p4 rfl))) (gQ (iE 5 vz.nd (jg (oG (kP hu) (pv 0) (pv 5) (λ_ _=>rfl)) rfl))))) (gQ (iX (J1 rfl rfl rfl rfl T.Bfs wg rfl T.n_reversed GI (pv 4)))))))))),λPr D0 hD=>?_)
 try simp only[rd_K]
 with_reducible
  apply gX;show p8;apply gX;show bX;apply iy;apply vQ 1000000;apply sB;apply tI;show bX;show bX;apply iy;apply pe;show bX;show bX;show sC rfl;apply nK;apply sFld uw (vq (by assumption));apply kf;show bX;show bX;show kg;apply gX;apply jd;show sNil;apply gX;show bX;apply iy;apply vQ 1000000;apply pj;apply iA;show s_eq;apply lV;show qV;show j3;show sC rfl;apply iA;show s_ne;show bX;show bX;apply sW;apply oK ⋯;show qe;show bX;apply b6;apply sFld ze (AX (by assumption));apply kf;show bX;show bX;show sNil;apply nK;apply sFld uw (vq (by assumption));apply kf;show bX;show bX;show kg;apply g6;apply xi;show bX
noncomputable abbrev Rh:Sp:=i5 K (gS Ad) (iF Ad) (lp 2 6 D_ring_behind.1)
abbrev P9:=kR P w K mg base 1 "ring_behind" ["lasts","face"] [] (Rh K Ad)
abbrev DQ:Stmt:=top 52
theorem sP:jn ["steps","starts","sums","face","lasts","changed","turn","step","total"] ["steps","starts"] (iW DQ):=by bv_decide
noncomputable def D_last_steps:{G // mL "last_steps" "last_steps" DQ 2 2 9 ["steps","starts"] (λP w K mg base Ad=>PK P w K mg base Ad/\P9 P w K mg base Ad) G}:=by
 apply bZ;apply m4 sP rfl rfl;intro P w K mg base Ad f fd dV F T ⟨k_Impossible,BcH⟩ cdv A outer s H vs Q E hr;have hu:=hr.units;show(_,(gH (iE 2 sP.nd qd) (gH (nD gA rfl (jP (pv 1)) (kQ 3 sP.nd) (gQ (o9 (kP hu) (pv 2) (pv 3) jA rfl))) (gH (iE 4 sP.nd qd) (gH (iE 5 sP.nd nP) (gH (nD gA rfl (Gv rfl T.BgG %[gR nQ (nJ qg rfl T.Bc2 pQ %[pv 0|0]) jA|0]) (kQ 6 sP.nd) (gH (iE 5 sP.nd nP) (gH (nD gA rfl (jP (pv 0)) (kQ 7 sP.nd) (gQ (gM (p9 (um (kP hu) (jg (pv 7) rfl) (pv 2)) (by with_unfolding_all rfl)) (gH (iE 8 sP.nd (gR nQ (oG (kP hu) (pv 2) (jg (pv 7) rfl) (λ_ _=>rfl)) (jg (pv 7) rfl))) (gQ (gM (PW.pt (lu (p9 (tM (kP hu) (jg (pv 7) rfl) (pv 2)) (by with_unfolding_all rfl)) (pP (j4 uo (pv 8) (oG (kP hu) (pv 2) (jg (pv 7) rfl) (λ_ _=>rfl)) (jB _))))) (gH (o9 (kP hu) (pv 2) (jg (pv 7) rfl) (pv 8) rfl) (gH (o9 (kP hu) (pv 4) (jg (pv 7) rfl) (pv 7) rfl) (gQ (iE 5 sP.nd (jg (pv 7) rfl)))))
   j8)))
   j8))) (gQ (gM (j4 qr (pv 5) nP (jB _)) (gQ (iX (pv 4)))
   j8))))) (gQ (Gu (k_Impossible.ev hr ⋯ rfl pass1 %[gP,BcH.ev hr ⋯ rfl pass1 %[pv 4,pv 5|0]|0])))))))),λPr D0 hD=>?_)
 try simp only[rd_K]
 with_reducible
  apply gX;show p8;apply iy;apply kH 1000000;apply mY;show bX;show kg;apply pe;show bX;show bX;show sC rfl;apply gX;show p8;apply gX;show sC rfl;apply iy;apply kH 1000000;apply KG;apply b6;apply kh;show nW;apply lV;show qV;show j3;show sC rfl;show sNil;show kg;apply gX;show sC rfl;apply iy;apply kH 1000000;apply mY;show bX;show kg;apply l0;apply sB;apply pV;apply sFld uw (vq (by assumption));show bX;show bX;apply gX;apply kh;show nW;apply kf;show bX;apply sFld uw (vq (by assumption));show bX;apply sFld Bp (FN (by assumption));show bX;apply l0;apply pj;apply sB;apply tI;apply sFld uv (vp (by assumption));show bX;show bX;apply iA;show qz;show bX;apply kf;show bX;apply sFld uv (vp (by assumption));show bX;apply iy;apply pe;show bX;apply sFld uv (vp (by assumption));show bX;show bX;apply iy;apply pe;show bX;apply sFld uv (vp (by assumption));show bX;show bX;apply nK;apply sFld uv (vp (by assumption));show bX;show kg;show sNext;show sNext;apply l0;apply iA;show qy;show bX;show sC rfl;apply g6;show bX;show sNext;apply FZ;show PB;assumption;show Txt.xi_Impossible (by assumption);apply hM;apply b6;apply jq;show nF;show sNil
noncomputable abbrev Ro:Sp:=i5 K (gS Ad) (iF Ad) (fnX 2 9 D_last_steps.1)
abbrev PR:=kR P w K mg base 3 "last_steps" ["steps","starts"] [] (Ro K Ad)
abbrev Dz:Stmt:=top 53
theorem sN:jn ["steps","starts","lasts","told","face","missing","at","step","ahead"] ["steps","starts"] (iW Dz):=by bv_decide
noncomputable def D_chains_from:{G // mL "chains_from" "chains_from" Dz 3 2 9 ["steps","starts"] (λP w K mg base Ad=>y8 P w K mg base Ad/\PR P w K mg base Ad) G}:=by
 apply bZ;apply m4 sN rfl rfl;intro P w K mg base Ad f fd dV F T ⟨BcT,Bc5⟩ cdv A outer s H vs Q E hr;have hu:=hr.units;show(_,(gH (iE 2 sN.nd (Bc5.ev hr ⋯ rfl pass1 %[pv 0,pv 1|0])) (gH (iE 3 sN.nd qd) (gH (nD gA rfl (jP (pv 1)) (kQ 4 sN.nd) (gQ (gM (p9 (tM (kP hu) (pv 4) (pv 2)) (by with_unfolding_all rfl)) (gQ (o9 (kP hu) (pv 3) (pv 4) (jF %[n7 (v:=.ref _) rfl T.Bdu T.Bdv,lO pS|0]) rfl))
   j8))) (gH (nD gA rfl (y3 (pv 2)) (kQ 4 sN.nd) (gH (iE 5 sN.nd (lO pS)) (gH (iE 6 sN.nd (pv 4)) (gH (wC gA (p9 (tM (kP hu) (pv 6) (pv 3)) (by with_unfolding_all rfl)) (gH (oh (j7 gz gE gD qf (pv 5) %[oG (kP hu) (pv 2) (pv 6) (λ_ _=>rfl)|0] (hs:=by show p4 rfl))) (gQ (iE 6 sN.nd (jg (oG (kP hu) (pv 2) (pv 6) (λ_ _=>rfl)) rfl))))) (gQ (nD gA rfl (Lz (K:=K) rfl rfl rfl T.n_reversed GI (pv 5)) (kQ 7 sN.nd) (gH (iE 8 sN.nd (oG (kP hu) (pv 3) (jg (pv 7) rfl) (λ_ _=>rfl))) (gQ (o9 (kP hu) (pv 3) (jg (pv 7) rfl) (jF %[BcT.ev hr ⋯ rfl pass1 %[!8,jg (pv 7) rfl|0],gR nQ (!8) (lO %[jg (pv 7) rfl|0])|0]) rfl))))))))) (gQ (iX (pv 3))))))),λPr D0 hD=>?_)
 try simp only[rd_K]
 with_reducible
  apply gX;apply jq;show nF;apply gX;show p8;apply iy;apply kH 1000000;apply mY;show bX;show kg;apply l0;apply sB;apply tI;show bX;show bX;apply pe;show bX;show bX;apply ip;apply b6;show ml sM;apply b6;apply jd;show sNil;show sNil;show sNext;apply iy;apply tX 1000000;show bX;intro _;show kg;intro _;apply gX;apply jd;show sNil;apply gX;show bX;apply iy;apply vQ 1000000;apply sB;apply tI;show bX;show bX;apply sW;apply oK ⋯;show qe;show bX;apply b6;apply kf;show bX;show bX;show sNil;apply nK;apply sFld uw (vq (by assumption));apply kf;show bX;show bX;show kg;apply kH 1000000;apply MW;show bX;show kg;apply gX;apply kf;show bX;apply sFld uw (vq (by assumption));show bX;apply pe;show bX;apply sFld uv (vp (by assumption));show bX;apply ip;apply b6;apply jq;apply kA;apply b6;apply sFld AU (Fm (by assumption));show bX;show sNil;apply b6;apply kh;show nW;show iq;apply jd;apply b6;apply sFld ze (AX (by assumption));show bX;show sNil;show sNil;apply g6;show bX
noncomputable abbrev Rg:Sp:=i5 K (gS Ad) (iF Ad) (fnX 2 9 D_chains_from.1)
abbrev G7:=kR P w K mg base 4 "chains_from" ["steps","starts"] [] (Rg K Ad)
abbrev Ct:Stmt:=top 55
theorem zJ:jn ["steps","faces","told","places","face"] ["steps","faces"] (iW Ct):=by bv_decide
noncomputable def D_places_of:{G // mL "places_of" "places_of" Ct 4 2 5 ["steps","faces"] (λP w K mg base Ad=>G7 P w K mg base Ad) G}:=by
 apply bZ;apply m4 zJ rfl rfl;intro P w K mg base Ad f fd dV F T BaV cdv A outer s H vs Q E hr;have hu:=hr.units;show(_,(gH (iE 2 zJ.nd (BaV.ev hr ⋯ rfl pass1 %[pv 0,pv 1|0])) (gH (iE 3 zJ.nd qd) (gH (nD gA rfl (y3 (pv 2)) (kQ 4 zJ.nd) (gQ (o9 (kP hu) (pv 3) (pv 4) (kY ix_U (oG (kP hu) (pv 2) (pv 4) (λ_ _=>rfl)) jA) rfl))) (gQ (iX (pv 3)))))),λPr D0 hD=>?_)
 try simp only[rd_K]
 with_reducible
  apply gX;apply jq;show nF;apply gX;show p8;apply iy;apply tX 1000000;show bX;intro _;show kg;intro _;apply pe;show bX;show bX;apply kh;show s_ix;apply kf;show bX;show bX;show sC rfl;apply g6;show bX
noncomputable abbrev QP:Sp:=i5 K (gS Ad) (iF Ad) (fnX 2 5 D_places_of.1)
abbrev GW:=kR P w K mg base 5 "places_of" ["steps","faces"] [] (QP K Ad)
abbrev Dy:Stmt:=top 56
theorem yi:jn ["chains","one","other","least","greatest"] ["chains","one","other"] (iW Dy):=by bv_decide
noncomputable def D_gap_between:{G // lD "gap_between" "gap_between" Dy 3 3 5 ["chains","one","other"] (λP w K mg base Ad=>wy P w K mg base Ad) G}:=by
 apply bZ;apply okN yi rfl rfl;intro P w K mg base Ad f fd dV F T Bay cdv A outer s H vs Q E hr;have hu:=hr.units;show(_,(gH (iE 3 yi.nd nP) (gH (iE 4 yi.nd nP) (gH (gM (p9 (um (kP hu) (pv 1) (oG (kP hu) (pv 0) (pv 2) (λ_ _=>rfl))) (by with_unfolding_all rfl)) (gQ (iE 3 yi.nd (Bay.ev hr ⋯ rfl passF %[n7 (v:=.ref _) rfl T.Bdu T.Bdv,kY ix_U (oG (kP hu) (oG (kP hu) (pv 0) (pv 2) (λ_ _=>rfl)) (pv 1) (λ_ _=>rfl)) jA|0])))
   j8) (gH (gM (p9 (um (kP hu) (pv 2) (oG (kP hu) (pv 0) (pv 1) (λ_ _=>rfl))) (by with_unfolding_all rfl)) (gQ (iE 4 yi.nd (kY ix_U (oG (kP hu) (oG (kP hu) (pv 0) (pv 1) (λ_ _=>rfl)) (pv 2) (λ_ _=>rfl)) jA)))
   j8) (gQ (iX (jF %[pv 3,pv 4|0]))))))),λPr D0 hD=>?_)
 try simp only[rd_K]
 with_reducible
  apply gX;show sC rfl;apply gX;show sC rfl;apply ja;apply sB;apply pV;show bX;apply kf;show bX;show bX;apply nK;apply jq;apply b6;show ml sM;apply b6;apply kh;show s_ix;apply kf;apply kf;show bX;show bX;show bX;show sC rfl;show sNil;show kg;apply ja;apply sB;apply pV;show bX;apply kf;show bX;show bX;apply nK;apply kh;show s_ix;apply kf;apply kf;show bX;show bX;show bX;show sC rfl;show kg;apply rM;show nF
noncomputable abbrev Rf:Sp:=i5 K (gS Ad) (iF Ad) (lp 3 5 D_gap_between.1)
abbrev Qc:=kR P w K mg base 4 "gap_between" ["chains","one","other"] [] (Rf K Ad)
abbrev DN:Stmt:=inClass (top 57) 0
theorem BO:jn ["self","ties","row","tie"] ["self","ties"] (iW DN):=by bv_decide
noncomputable def D_Bookuu_inituu:{G // mL "__init__" "Book.__init__" DN 6 2 4 ["self","ties"] (λP w K mg base Ad=>Bs P w K mg base Ad) G}:=by
 apply bZ;apply m4 BO rfl rfl;intro P w K mg base Ad f fd dV F T BbN cdv A outer s H vs Q E hr;have hu:=hr.units;show(_,(gH (m5 (pv 0) qd rfl) (gQ (nD gA rfl (jP (pv 1)) (kQ 2 BO.nd) (gH (iE 3 BO.nd (BbN.ev hr ⋯ rfl pass1 %[pv 2|0])) (gH (gM (p9 (um (kP hu) (jg (pv 3) rfl) (jg (pv 0) rfl)) (by with_unfolding_all rfl)) (gQ (oX cp T.BdK rfl T.BfD %[gP|0]))
   j8) (gQ (o9 (kP hu) (jg (pv 0) rfl) (jg (pv 3) rfl) (pv 3) rfl))))))),λPr D0 hD=>?_)
 try simp only[rd_K]
 with_reducible
  apply iy;apply iV uB (vC (by assumption));show bX;show p8;apply kH 1000000;apply mY;show bX;show kg;apply gX;apply jq;show j3;apply ja;apply sB;apply pV;apply sFld pd (pK (by assumption));show bX;apply sFld uB (vC (by assumption));show bX;apply oW;show Bi;apply hM;show sNil;apply pe;apply sFld uB (vC (by assumption));show bX;apply sFld pd (pK (by assumption));show bX;show bX
noncomputable abbrev RT:Sp:=i5 K (gS Ad) (iF Ad) (fnX 2 4 D_Bookuu_inituu.1)
abbrev Lq:=nB P w K mg base 7 "Book" Ad.Book ["self","ties"] (RT K Ad)
abbrev Cr:Stmt:=inClass (top 57) 1
theorem Pn:jn ["self"] ["self"] (iW Cr):=by bv_decide
noncomputable def D_Book_kept:{G // lD "kept" "Book.kept" Cr 0 1 1 ["self"] oA G}:=by
 apply bZ;apply okN Pn rfl rfl;intro P w K mg base Ad f fd dV F T c cdv A outer s H vs Q E hr;show(_,(gQ (iX (JZ rfl rfl rfl T.Bfs wg (jg (pv 0) rfl)))),λPr D0 hD=>?_);try simp only[rd_K]
 with_reducible
  apply g6;apply Hz;apply sFld uB (vC (by assumption));show bX
noncomputable abbrev QO:Sp:=i5 K (gS Ad) (iF Ad) (lp 1 1 D_Book_kept.1)
abbrev AJ:=km P w K mg base 1 "kept" (sj Ad) ["self"] (QO K Ad)
abbrev DP:Stmt:=inClass (top 57) 3
theorem Pf:jn ["self"] ["self"] (iW DP):=by bv_decide
noncomputable def D_Book_faces:{G // lD "faces" "Book.faces" DP 1 1 1 ["self"] (λP w K mg base Ad=>OE P w K mg base Ad/\AJ P w K mg base Ad) G}:=by
 apply bZ;apply okN Pf rfl rfl;intro P w K mg base Ad f fd dV F T ⟨Bei,m_kept⟩ cdv A outer s H vs Q E hr;show(_,(gQ (iX (Bei.ev hr ⋯ rfl passF %[m_kept.m0 hr ⋯ passF (pv 0)|0]))),λPr D0 hD=>?_);try simp only[rd_K]
 with_reducible
  apply g6;apply jq;apply b6;apply iB _ qt qP;show bX;show sNil;show sNil
noncomputable abbrev Rm:Sp:=i5 K (gS Ad) (iF Ad) (lp 1 1 D_Book_faces.1)
abbrev Bk:=km P w K mg base 2 "faces" (sj Ad) ["self"] (Rm K Ad)
abbrev CS:Stmt:=inClass (top 57) 4
theorem GP:jn ["self","tie","made"] ["self","tie"] (iW CS):=by bv_decide
noncomputable def D_Book_put:{G // mL "put" "Book.put" CS 6 2 3 ["self","tie"] (λP w K mg base Ad=>Bs P w K mg base Ad) G}:=by
 apply bZ;apply m4 GP rfl rfl;intro P w K mg base Ad f fd dV F T BbN cdv A outer s H vs Q E hr;have hu:=hr.units;show(_,(gH (iE 2 GP.nd (BbN.ev hr ⋯ rfl pass1 %[pv 1|0])) (gQ (o9 (kP hu) (jg (pv 0) rfl) (jg (pv 2) rfl) (pv 2) rfl))),λPr D0 hD=>?_)
 try simp only[rd_K]
 with_reducible
  apply gX;apply jq;show j3;apply pe;apply sFld uB (vC (by assumption));show bX;apply sFld pd (pK (by assumption));show bX;show bX
noncomputable abbrev QY:Sp:=i5 K (gS Ad) (iF Ad) (fnX 2 3 D_Book_put.1)
abbrev Kc:=km P w K mg base 7 "put" (sj Ad) ["self","tie"] (QY K Ad)
abbrev Cq:Stmt:=inClass (top 57) 5
theorem Po:jn ["self","name"] ["self","name"] (iW Cq):=by bv_decide
noncomputable def D_Book_drop:{G // mL "drop" "Book.drop" Cq 0 2 2 ["self","name"] oA G}:=by
 apply bZ;apply m4 Po rfl rfl;intro P w K mg base Ad f fd dV F T c cdv A outer s H vs Q E hr;have hu:=hr.units;show(_,(gH (gM (p9 (tM (kP hu) (pv 1) (jg (pv 0) rfl)) (by with_unfolding_all rfl)) (gQ (oX cp T.Bch rfl T.BdT %[gP|0]))
   j8) (gQ (oh (LG (jg (pv 0) rfl) (pv 1) ⟨rfl,rfl,rfl,rfl⟩)))),λPr D0 hD=>?_)
 try simp only[rd_K]
 with_reducible
  apply ja;apply sB;apply tI;show bX;apply sFld uB (vC (by assumption));show bX;apply oW;show zE;apply hM;show sNil;apply ma;apply xl;apply sFld uB (vC (by assumption));show bX;show bX
noncomputable abbrev QM:Sp:=i5 K (gS Ad) (iF Ad) (fnX 2 2 D_Book_drop.1)
abbrev KD:=km P w K mg base 1 "drop" (sj Ad) ["self","name"] (QM K Ad)
abbrev DH:Stmt:=inClass (top 57) 7
theorem G3:jn ["self","places"] ["self"] (iW DH):=by bv_decide
noncomputable def D_Book_placing:{G // mL "placing" "Book.placing" DH 5 1 2 ["self"] (λP w K mg base Ad=>GW P w K mg base Ad/\Bk P w K mg base Ad/\GK P w K mg base Ad/\AJ P w K mg base Ad) G}:=by
 apply bZ;apply m4 G3 rfl rfl;intro P w K mg base Ad f fd dV F T ⟨Bbz,m_faces,BbV,m_kept⟩ cdv A outer s H vs Q E hr;have hu:=hr.units;show(_,(gH (iE 1 G3.nd (Bbz.ev hr ⋯ rfl pass1 %[BbV.ev hr ⋯ rfl pass1 %[m_kept.m0 hr ⋯ pass1 (pv 0)|0],m_faces.m0 hr ⋯ pass1 (pv 0)|0]) rfl (m1 rfl)) (gQ (iX (qq (qu (own:=["face"]) (cs:=[(1,"places")]) rfl (jP (nJ (GF rfl) rfl T.Bgv Gj %[pv 1|0])) (λ_ _ _ _=>(kQ 0 (show[("face" : Str),("places" : Str)].Nodup by decide))) (λ_ _ _ _=>qh) (λ_ _ _ _=>(jF %[pv 0,oG (kP hu) (pv 1) (pv 0) (λ_ _=>rfl)|0])) (pH rfl) ⋯ rfl ⋯ (qj rfl rfl rfl)))))),λPr D0 hD=>?_)
 try simp only[rd_K]
 with_reducible
  apply gX;apply jq;apply b6;apply jq;apply b6;apply iB _ qt qP;show bX;show sNil;show sNil;apply b6;apply iB _ qt qP;show bX;show sNil;show sNil;apply g6;apply mV 1000000;apply mY;apply lV;show Hg;show j3;show kg;apply ip;apply mx;apply b6;apply kf;show bX;show bX;show sNil
noncomputable abbrev R3:Sp:=i5 K (gS Ad) (iF Ad) (fnX 1 2 D_Book_placing.1)
abbrev Os:=km P w K mg base 6 "placing" (sj Ad) ["self"] (R3 K Ad)
abbrev C8:Stmt:=inClass (top 57) 6
theorem G2:jn ["self","e"] ["self"] (iW C8):=by bv_decide
noncomputable def D_Book_ring:{G // lD "ring" "Book.ring" C8 6 1 2 ["self"] (λP w K mg base Ad=>Os P w K mg base Ad) G}:=by
 apply bZ;apply okN G2 rfl rfl;intro P w K mg base Ad f fd dV F T m_placing cdv A outer s H vs Q E hr;show(_,(gH (zj (i:=1) G2.nd rfl rfl (m_placing.tr0 hr ⋯ (pv 0)) rfl T.m_Impossible (λ_=>
   (gQ (iX (Bb (K:=K) rfl (pv 1) rfl))))) (gQ (iX nP))),λPr D0 hD=>?_)
 try simp only[rd_K]
 with_reducible
  apply iy;apply yW uA (G8 (by assumption));apply zg qt qP;intro _;show bX;intro _;show sNil;apply g6;apply An uA (GS (by assumption));show bX;apply g6;show sC rfl
noncomputable abbrev QL:Sp:=i5 K (gS Ad) (iF Ad) (lp 1 2 D_Book_ring.1)
abbrev KB:=km P w K mg base 7 "ring" (sj Ad) ["self"] (QL K Ad)
abbrev Ds:Stmt:=inClass (top 57) 8
theorem Hb:jn ["self","one","other","faces"] ["self","one","other"] (iW Ds):=by bv_decide
noncomputable def D_Book_check_faces:{G // mL "check_faces" "Book.check_faces" Ds 2 3 4 ["self","one","other"] (λP w K mg base Ad=>Bk P w K mg base Ad) G}:=by
 apply bZ;apply m4 Hb rfl rfl;intro P w K mg base Ad f fd dV F T m_faces cdv A outer s H vs Q E hr;show(_,(gH (iE 3 Hb.nd (m_faces.m0 hr ⋯ pass1 (pv 0))) (gQ (gM (PW.pt (lu (j4 Gw (pv 1) (pv 3) (by with_unfolding_all rfl)) (pP (j4 Gw (pv 2) (pv 3) (by with_unfolding_all rfl))))) (gQ (oX cp T.x_NoFace rfl T.m_NoFace %[gP|0]))
   j8))),λPr D0 hD=>?_)
 try simp only[rd_K]
 with_reducible
  apply gX;apply iB _ qt qP;show bX;show sNil;apply l0;apply pj;apply iA;show uH;show bX;show bX;apply iA;show uH;show bX;show bX;apply oW;show NS;apply hM;show sNil;show sNext
noncomputable abbrev R9:Sp:=i5 K (gS Ad) (iF Ad) (fnX 3 4 D_Book_check_faces.1)
abbrev P8:=km P w K mg base 3 "check_faces" (sj Ad) ["self","one","other"] (R9 K Ad)
abbrev Dk:Stmt:=inClass (top 57) 9
theorem zO:jn ["self","faces","steps","told","face"] ["self","faces"] (iW Dk):=by bv_decide
noncomputable def D_Book_chains_of:{G // mL "chains_of" "Book.chains_of" Dk 5 2 5 ["self","faces"] (λP w K mg base Ad=>G7 P w K mg base Ad/\GW P w K mg base Ad/\Bk P w K mg base Ad/\GK P w K mg base Ad/\AJ P w K mg base Ad) G}:=by
 apply bZ;apply m4 zO rfl rfl;intro P w K mg base Ad f fd dV F T ⟨BaV,Bbz,m_faces,BbV,m_kept⟩ cdv A outer s H vs Q E hr;have hu:=hr.units;show(_,(gH (iE 2 zO.nd (BbV.ev hr ⋯ rfl pass1 %[m_kept.m0 hr ⋯ pass1 (pv 0)|0])) (gH (oh (Bbz.ev hr ⋯ rfl pass1 %[pv 2,m_faces.m0 hr ⋯ pass1 (pv 0)|0])) (gH (iE 3 zO.nd qd) (gH (nD gA rfl (jP (pv 1)) (kQ 4 zO.nd) (gQ (o9 (kP hu) (pv 3) (pv 4) (BaV.ev hr ⋯ rfl pass1 %[pv 2,lO %[pv 4|0]|0]) rfl))) (gQ (iX (pv 3))))))),λPr D0 hD=>?_)
 try simp only[rd_K]
 with_reducible
  apply gX;apply jq;apply b6;apply iB _ qt qP;show bX;show sNil;show sNil;apply sW;apply jq;apply mx;apply b6;apply iB _ qt qP;show bX;show sNil;show sNil;apply gX;show p8;apply iy;apply kH 1000000;apply mY;show bX;show kg;apply pe;show bX;show bX;apply jq;apply mx;apply b6;apply jd;show j3;show sNil;apply g6;show bX
noncomputable abbrev RL:Sp:=i5 K (gS Ad) (iF Ad) (fnX 2 5 D_Book_chains_of.1)
abbrev OY:=km P w K mg base 6 "chains_of" (sj Ad) ["self","faces"] (RL K Ad)
abbrev CQ:Stmt:=inClass (top 57) 10
theorem OX:jn ["self","one","other"] ["self","one","other"] (iW CQ):=by bv_decide
noncomputable def D_Book_gap:{G // mL "gap" "Book.gap" CQ 6 3 3 ["self","one","other"] (λP w K mg base Ad=>Qc P w K mg base Ad/\OY P w K mg base Ad/\P8 P w K mg base Ad) G}:=by
 apply bZ;apply m4 OX rfl rfl;intro P w K mg base Ad f fd dV F T ⟨BcI,m_chains_of,m_check_faces⟩ cdv A outer s H vs Q E hr;show(_,(gH (oh (m_check_faces.m hr ⋯ pass1 (pv 0) %[pv 1,pv 2|0])) (gQ (iX (BcI.ev hr ⋯ rfl pass1 %[m_chains_of.m hr ⋯ pass1 (pv 0) %[lO %[pv 1,pv 2|0]|0],pv 1,pv 2|0])))),λPr D0 hD=>?_)
 try simp only[rd_K]
 with_reducible
  apply sW;apply iB _ qt qP;show bX;show nF;apply g6;apply jq;apply b6;apply iB _ qt qP;show bX;apply b6;apply jd;show nF;show sNil;show nF
noncomputable abbrev QX:Sp:=i5 K (gS Ad) (iF Ad) (fnX 3 3 D_Book_gap.1)
abbrev Kd:=km P w K mg base 7 "gap" (sj Ad) ["self","one","other"] (QX K Ad)
abbrev C7:Stmt:=inClass (top 74) 1
theorem OL:jn ["self"] ["self"] (iW C7):=by bv_decide
noncomputable def D_Gap_plain:{G // lD "plain" "Gap.plain" C7 0 1 1 ["self"] oA G}:=by
 apply bZ;apply okN OL rfl rfl;intro P w K mg base Ad f fd dV F T c cdv A outer s H vs Q E hr;show(_,(gQ (iX (jF %[jg (pv 0) rfl,jg (pv 0) rfl,jg (pv 0) rfl,jg (pv 0) rfl,jg (pv 0) rfl|0]))),λPr D0 hD=>?_);try simp only[rd_K]
 with_reducible
  apply rM;apply b6;apply sFld pd (pK (by assumption));show bX;apply b6;apply sFld yM (Av (by assumption));show bX;apply b6;apply sFld zo (Bc (by assumption));show bX;apply b6;apply sFld yN (Aw (by assumption));show bX;apply b6;apply sFld zf (AY (by assumption));show bX;show sNil
noncomputable abbrev Ra:Sp:=i5 K (gS Ad) (iF Ad) (lp 1 1 D_Gap_plain.1)
abbrev Oq:=km P w K mg base 1 "plain" (sq Ad) ["self"] (Ra K Ad)
abbrev CL:Stmt:=inClass (top 78) 2
theorem Pd:jn ["self"] ["self"] (iW CL):=by bv_decide
noncomputable def D_Thing_gaps:{G // lD "gaps" "Thing.gaps" CL 1 1 1 ["self"] (λP w K mg base Ad=>Oq P w K mg base Ad) G}:=by
 apply bZ;apply okN Pd rfl rfl;intro P w K mg base Ad f fd dV F T BeU cdv A outer s H vs Q E hr;show(_,(gQ (iX (AL (qq (qu (own:=["gap"]) (cs:=[]) rfl (Fw (jg (pv 0) rfl)) (λ_ _ _ _=>(kQ 0 (show[("gap" : Str)].Nodup by decide))) (λ_ _ _ _=>qh) (λ_ _ _ _=>(BeU.m0 hr ⋯ passF (pv 0))) (pH rfl) ⋯ rfl ⋯ hcs0))))),λPr D0 hD=>?_);try simp only[rd_K]
 with_reducible
  apply g6;apply Gy 1000000;apply sFld wJ (yj (by assumption));show bX;intro _;show kg;intro _;apply iB _ E6 IB;show bX;show sNil
noncomputable abbrev RJ:Sp:=i5 K (gS Ad) (iF Ad) (lp 1 1 D_Thing_gaps.1)
abbrev vZ:=km P w K mg base 2 "gaps" (vr Ad) ["self"] (RJ K Ad)
abbrev CK:Stmt:=inClass (top 73) 1
theorem Pe:jn ["self"] ["self"] (iW CK):=by bv_decide
noncomputable def D_Part_plain:{G // lD "plain" "Part.plain" CK 0 1 1 ["self"] oA G}:=by
 apply bZ;apply okN Pe rfl rfl;intro P w K mg base Ad f fd dV F T c cdv A outer s H vs Q E hr;show(_,(gQ (iX (jF %[jg (pv 0) rfl,jg (pv 0) rfl,jg (pv 0) rfl,jg (pv 0) rfl,jg (pv 0) rfl,jg (pv 0) rfl|0]))),λPr D0 hD=>?_);try simp only[rd_K]
 with_reducible
  apply rM;apply b6;apply sFld pd (pK (by assumption));show bX;apply b6;apply sFld si (tH (by assumption));show bX;apply b6;apply sFld sf (tG (by assumption));show bX;apply b6;apply sFld zd (AW (by assumption));show bX;apply b6;apply sFld AS (Fl (by assumption));show bX;apply b6;apply sFld Bx (Ge (by assumption));show bX;show sNil
noncomputable abbrev RI:Sp:=i5 K (gS Ad) (iF Ad) (lp 1 1 D_Part_plain.1)
abbrev MK:=km P w K mg base 1 "plain" (IsPart Ad) ["self"] (RI K Ad)
abbrev Dx:Stmt:=inClass (top 78) 1
theorem Pq:jn ["self"] ["self"] (iW Dx):=by bv_decide
noncomputable def D_Thing_parts:{G // lD "parts" "Thing.parts" Dx 1 1 1 ["self"] (λP w K mg base Ad=>MK P w K mg base Ad) G}:=by
 apply bZ;apply okN Pq rfl rfl;intro P w K mg base Ad f fd dV F T Bgd cdv A outer s H vs Q E hr;show(_,(gQ (iX (AL (qq (qu (own:=["part"]) (cs:=[]) rfl (Fw (jg (pv 0) rfl)) (λ_ _ _ _=>(kQ 0 (show[("part" : Str)].Nodup by decide))) (λ_ _ _ _=>qh) (λ_ _ _ _=>(Bgd.m0 hr ⋯ passF (pv 0))) (pH rfl) ⋯ rfl ⋯ hcs0))))),λPr D0 hD=>?_);try simp only[rd_K]
 with_reducible
  apply g6;apply Gy 1000000;apply sFld wK (ym (by assumption));show bX;intro _;show kg;intro _;apply iB _ Fj Jt;show bX;show sNil
noncomputable abbrev Rz:Sp:=i5 K (gS Ad) (iF Ad) (lp 1 1 D_Thing_parts.1)
abbrev uz:=km P w K mg base 2 "parts" (vr Ad) ["self"] (Rz K Ad)
abbrev CP:Stmt:=top 59
theorem zM:jn ["thing","numbers","part","gap"] ["thing"] (iW CP):=by bv_decide
noncomputable def D_scale_of:{G // lD "scale_of" "scale_of" CP 3 1 4 ["thing"] (λP w K mg base Ad=>FV P w K mg base Ad/\vZ P w K mg base Ad/\uz P w K mg base Ad) G}:=by
 apply bZ;apply okN zM rfl rfl;intro P w K mg base Ad f fd dV F T ⟨Beh,Bbo,Bak⟩ cdv A outer s H vs Q E hr;show(_,(gH (iE 1 zM.nd (lO pS)) (gH (nD g9 rfl (jP (Bak.m0 hr ⋯ passF (pv 0))) (kQ 2 zM.nd) (gQ (oh (j7 gz PySem.F.slot_list_extend PySem.F.type_list_extend Bt (pv 1) %[lO %[!2,!2|0]|0])))) (gH (nD g9 rfl (jP (Bbo.m0 hr ⋯ passF (pv 0))) (kQ 3 zM.nd) (gQ (oh (j7 gz PySem.F.slot_list_extend PySem.F.type_list_extend Bt (pv 1) %[lO %[!3,!3|0]|0])))) (gQ (iX (Beh.ev hr ⋯ rfl passF %[pv 1|0])))))),λPr D0 hD=>?_)
 try simp only[rd_K]
 with_reducible
  apply gX;apply jd;show sNil;apply iy;apply kH 1000000;apply mY;apply iB _ o3 pf;show bX;show sNil;show kg;apply ma;apply oK ⋯;show Bn;show bX;apply b6;apply jd;apply kA;apply kA;show sNil;show sNil;apply iy;apply kH 1000000;apply mY;apply iB _ o3 pf;show bX;show sNil;show kg;apply ma;apply oK ⋯;show Bn;show bX;apply b6;apply jd;apply kA;apply kA;show sNil;show sNil;apply g6;apply pL;show FS;decide;show j3
noncomputable abbrev QW:Sp:=i5 K (gS Ad) (iF Ad) (lp 1 4 D_scale_of.1)
abbrev Oz:=kR P w K mg base 4 "scale_of" ["thing"] [] (QW K Ad)
abbrev C6:Stmt:=inClass (top 78) 3
theorem OK:jn ["self","name"] ["self","name"] (iW C6):=by bv_decide
noncomputable def D_Thing_way:{G // mL "way" "Thing.way" C6 0 2 2 ["self","name"] oA G}:=by
 apply bZ;apply m4 OK rfl rfl;intro P w K mg base Ad f fd dV F T c cdv A outer s H vs Q E hr;have hu:=hr.units;show(_,(gH (gM (p9 (tM (kP hu) (pv 1) (jg (pv 0) rfl)) (by with_unfolding_all rfl)) (gQ (oX cp T.Bch rfl T.BdT %[gP|0]))
   j8) (gQ (iX (tL GG rfl T.Bfs wg %[oG (kP hu) (jg (pv 0) rfl) (pv 1) (λ_ _=>rfl)|0])))),λPr D0 hD=>?_)
 try simp only[rd_K]
 with_reducible
  apply ja;apply sB;apply tI;show bX;apply sFld x4 (y4 (by assumption));show bX;apply oW;show zE;apply hM;show sNil;apply g6;apply lV;show Hf;apply b6;apply kf;apply sFld x4 (y4 (by assumption));show bX;show bX;show sNil
noncomputable abbrev Q9:Sp:=i5 K (gS Ad) (iF Ad) (fnX 2 2 D_Thing_way.1)
abbrev EU:=km P w K mg base 1 "way" (vr Ad) ["self","name"] (Q9 K Ad)
abbrev CJ:Stmt:=top 60
theorem Pb:jn ["thing","gap_name"] ["thing","gap_name"] (iW CJ):=by bv_decide
noncomputable def D_part_names:{G // mL "part_names" "part_names" CJ 1 2 2 ["thing","gap_name"] (λP w K mg base Ad=>EU P w K mg base Ad) G}:=by
 apply bZ;apply m4 Pb rfl rfl;intro P w K mg base Ad f fd dV F T BgE cdv A outer s H vs Q E hr;show(_,(gQ (iX (qq (qu (own:=["name","forward"]) (cs:=[]) rfl (jP (BgE.m hr ⋯ pass1 (pv 0) %[pv 1|0])) (λ_ _ _ _=>(ur (K:=K) (n:=2) rfl rfl (qc (kQ 0 (show[("name" : Str),("forward" : Str)].Nodup by decide) (hf:=m1 rfl)) (qc (kQ 1 (show[("name" : Str),("forward" : Str)].Nodup by decide) (hf:=m1 rfl)) uq)))) (λ_ _ _ _=>qh) (λ_ _ _ _=>(pv 0)) (pH rfl) ⋯ rfl ⋯ hcs0)))),λPr D0 hD=>?_);try simp only[rd_K]
 with_reducible
  apply g6;apply mV 1000000;apply mY;apply iB _ o3 pf;show bX;show j3;apply oS;apply qN;show kg;apply qN;show kg;show gsNil;show bX
noncomputable abbrev RH:Sp:=i5 K (gS Ad) (iF Ad) (fnX 2 2 D_part_names.1)
abbrev PP:=kR P w K mg base 2 "part_names" ["thing","gap_name"] [] (RH K Ad)
abbrev DG:Stmt:=inClass (top 61) 0
theorem P4:jn ["self","name","rest","weights"] ["self","name","rest","weights"] (iW DG):=by bv_decide
noncomputable def D_Liduu_inituu:{G // lD "__init__" "Lid.__init__" DG 0 4 4 ["self","name","rest","weights"] oA G}:=by
 apply bZ;apply okN P4 rfl rfl;intro P w K mg base Ad f fd dV F T c cdv A outer s H vs Q E hr;show(_,(gH (m5 (pv 0) (pv 1) rfl) (gH (m5 (pv 0) (pv 2) rfl) (gH (m5 (pv 0) (pv 3) rfl) (gH (m5 (pv 0) (J0 rfl rfl rfl T.n_sum J8 (pv 3)) rfl) (gQ (m5 (pv 0) (n7 (v:=.ref _) rfl T.Bdu T.Bdv) rfl)))))),λPr D0 hD=>?_)
 try simp only[rd_K]
 with_reducible
  apply iy;apply iV pd (pK (by assumption));show bX;show bX;apply iy;apply iV wb (x5 (by assumption));show bX;show bX;apply iy;apply iV wH (ye (by assumption));show bX;show bX;apply iy;apply iV wc (xY (by assumption));show bX;apply xh;show bX;apply iV zH (BR (by assumption));show bX;show ml sM
noncomputable abbrev R1:Sp:=i5 K (gS Ad) (iF Ad) (lp 4 4 D_Liduu_inituu.1)
abbrev JF:=nB P w K mg base 1 "Lid" Ad.Lid ["self","name","rest","weights"] (R1 K Ad)
abbrev Dj:Stmt:=inClass (top 61) 1
theorem Qh:jn ["self"] ["self"] (iW Dj):=by bv_decide
noncomputable def D_Lid_full_level:{G // mL "full_level" "Lid.full_level" Dj 3 1 1 ["self"] (λP w K mg base Ad=>FC P w K mg base Ad) G}:=by
 apply bZ;apply m4 Qh rfl rfl;intro P w K mg base Ad f fd dV F T Bfw cdv A outer s H vs Q E hr;show(_,(gQ (iX (Bfw.ev hr ⋯ rfl pass1 %[jg (pv 0) rfl,jF %[jg (pv 0) rfl,jA|0]|0]))),λPr D0 hD=>?_);try simp only[rd_K]
 with_reducible
  apply g6;apply jq;apply b6;apply sFld wb (x5 (by assumption));show bX;apply b6;apply ip;apply b6;apply sFld wc (xY (by assumption));show bX;apply qG;show sNil;show sNil
noncomputable abbrev RK:Sp:=i5 K (gS Ad) (iF Ad) (fnX 1 1 D_Lid_full_level.1)
abbrev PH:=km P w K mg base 4 "full_level" (p5 Ad) ["self"] (RK K Ad)
abbrev CI:Stmt:=inClass (top 61) 2
theorem GU:jn ["self","part","level","weight"] ["self","part","level"] (iW CI):=by bv_decide
noncomputable def D_Lid_settle:{G // lD "settle" "Lid.settle" CI 3 3 4 ["self","part","level"] (λP w K mg base Ad=>wy P w K mg base Ad/\Bl P w K mg base Ad) G}:=by
 apply bZ;apply okN GU rfl rfl;intro P w K mg base Ad f fd dV F T ⟨Bay,Bck⟩ cdv A outer s H vs Q E hr;have hu:=hr.units;show(_,(gQ (gM (p9 (um (kP hu) (pv 1) (jg (pv 0) rfl)) (by with_unfolding_all rfl)) (gH (iE 3 GU.nd (oG (kP hu) (jg (pv 0) rfl) (pv 1) (λ_ _=>rfl))) (gH (m5 (pv 0) (Bay.ev hr ⋯ rfl passF %[jg (pv 0) rfl,Bck.ev hr ⋯ rfl passF %[pv 2,jF %[pv 3,jA|0]|0]|0]) rfl) (gH (m5 (pv 0) (gR I0 (jg (pv 0) rfl) (pv 3)) rfl) (gQ (m5 (pv 0) (pv 2) rfl)))))
   j8)),λPr D0 hD=>?_)
 try simp only[rd_K]
 with_reducible
  apply l0;apply sB;apply pV;show bX;apply sFld wH (ye (by assumption));show bX;apply gX;apply kf;apply sFld wH (ye (by assumption));show bX;show bX;apply iy;apply iV wb (x5 (by assumption));show bX;apply jq;apply b6;apply sFld wb (x5 (by assumption));show bX;apply b6;apply jq;apply mx;apply b6;apply ip;apply mx;apply qG;show sNil;show sNil;show sNil;apply iy;apply iV wc (xY (by assumption));show bX;apply kh;show Qp λ_ _=>rfl;apply sFld wc (xY (by assumption));show bX;show bX;apply iV zH (BR (by assumption));show bX;show bX;show sNext
noncomputable abbrev RG:Sp:=i5 K (gS Ad) (iF Ad) (lp 3 4 D_Lid_settle.1)
abbrev N4:=km P w K mg base 4 "settle" (p5 Ad) ["self","part","level"] (RG K Ad)
abbrev Dq:Stmt:=inClass (top 61) 3
theorem Qe:jn ["self","part","level"] ["self","part","level"] (iW Dq):=by bv_decide
noncomputable def D_Lid_has_stopped:{G // lD "has_stopped" "Lid.has_stopped" Dq 0 3 3 ["self","part","level"] oA G}:=by
 apply bZ;apply okN Qe rfl rfl;intro P w K mg base Ad f fd dV F T c cdv A outer s H vs Q E hr;have hu:=hr.units;show(_,(gQ (iX (rm (IX (um (kP hu) (pv 1) (jg (pv 0) rfl)) (by with_unfolding_all rfl)) (rm (pJ (mR hu) (jg (pv 0) rfl) (n7 (v:=.ref _) rfl T.Bdu T.Bdv) (jB _)) (sd (pJ (mR hu) (jg (pv 0) rfl) (pv 2) (jB _))))))),λPr D0 hD=>?_);try simp only[rd_K]
 with_reducible
  apply g6;apply nq;apply pV;show bX;apply sFld wH (ye (by assumption));show bX;apply nq;apply kh;show s_eq;apply sFld wb (x5 (by assumption));show bX;show ml sM;apply kh;show s_eq;apply sFld zH (BR (by assumption));show bX;show bX
noncomputable abbrev RQ:Sp:=i5 K (gS Ad) (iF Ad) (lp 3 3 D_Lid_has_stopped.1)
abbrev P7:=km P w K mg base 1 "has_stopped" (p5 Ad) ["self","part","level"] (RQ K Ad)
abbrev DF:Stmt:=inClass (top 78) 4
theorem wO:jn ["self","name","total","part","forward","size"] ["self","name"] (iW DF):=by bv_decide
noncomputable def D_Thing_middle:{G // mL "middle" "Thing.middle" DF 3 2 6 ["self","name"] (λP w K mg base Ad=>EU P w K mg base Ad/\y8 P w K mg base Ad/\wy P w K mg base Ad) G}:=by
 apply bZ;apply m4 wO rfl rfl;intro P w K mg base Ad f fd dV F T ⟨BgE,BcT,Bay⟩ cdv A outer s H vs Q E hr;have hu:=hr.units;show(_,(gH (iE 2 wO.nd (n7 (v:=.ref _) rfl T.Bdu T.Bdv)) (gH (nD gA rfl (jP (BgE.m hr ⋯ pass1 (pv 0) %[pv 1|0])) (ur (K:=K) (n:=2) rfl rfl (qc (kQ 3 wO.nd) (qc (kQ 4 wO.nd) uq))) (gH (iE 5 wO.nd (jg (oG (kP hu) (jg (pv 0) rfl) (pv 3) (λ_ _=>rfl)) rfl)) (gQ (iE 2 wO.nd (sH (nH (pv 4)) (BcT.ev hr ⋯ rfl pass1 %[pv 2,pv 5|0]) (Bay.ev hr ⋯ rfl pass1 %[pv 2,pv 5|0])))))) (gQ (iX (pv 2))))),λPr D0 hD=>?_)
 try simp only[rd_K]
 with_reducible
  apply gX;show ml sM;apply iy;apply kH 1000000;apply mY;apply iB _ o3 pf;show bX;show j3;apply oS;apply qN;show kg;apply qN;show kg;show gsNil;apply gX;apply sFld zd (AW (by assumption));apply kf;apply sFld wK (ym (by assumption));show bX;show bX;apply nK;apply sv;apply sB;show bX;apply jq;show nF;apply jq;show nF;show kg;apply g6;show bX
noncomputable abbrev R0:Sp:=i5 K (gS Ad) (iF Ad) (fnX 2 6 D_Thing_middle.1)
abbrev N5:=km P w K mg base 4 "middle" (vr Ad) ["self","name"] (R0 K Ad)
abbrev CG:Stmt:=inClass (top 78) 5
theorem yo:jn ["self","name","middle","gap","above","below"] ["self","name"] (iW CG):=by bv_decide
noncomputable def D_Thing_room:{G // mL "room" "Thing.room" CG 4 2 6 ["self","name"] (λP w K mg base Ad=>wx P w K mg base Ad/\wy P w K mg base Ad/\N5 P w K mg base Ad) G}:=by
 apply bZ;apply m4 yo rfl rfl;intro P w K mg base Ad f fd dV F T ⟨BaH,Bay,BfE⟩ cdv A outer s H vs Q E hr;have hu:=hr.units;show(_,(gH (iE 2 yo.nd (BfE.m hr ⋯ pass1 (pv 0) %[pv 1|0])) (gH (iE 3 yo.nd (oG (kP hu) (jg (pv 0) rfl) (pv 1) (λ_ _=>rfl))) (gH (iE 4 yo.nd (Bay.ev hr ⋯ rfl pass1 %[jg (pv 3) rfl,pv 2|0])) (gH (iE 5 yo.nd (Bay.ev hr ⋯ rfl pass1 %[pv 2,jg (pv 3) rfl|0])) (gQ (iX (sH (nH (BaH.ev hr ⋯ rfl pass1 %[pv 4,pv 5|0])) (pv 4) (pv 5)))))))),λPr D0 hD=>?_)
 try simp only[rd_K]
 with_reducible
  apply gX;apply iB _ o3 pf;show bX;show j3;apply gX;apply kf;apply sFld wJ (yj (by assumption));show bX;show bX;apply gX;apply jq;apply b6;apply sFld zf (AY (by assumption));show bX;show j3;apply gX;apply jq;apply mx;apply b6;apply sFld yN (Aw (by assumption));show bX;show sNil;apply g6;apply sv;apply sB;apply jq;show nF;show bX;show bX
noncomputable abbrev RF:Sp:=i5 K (gS Ad) (iF Ad) (fnX 2 6 D_Thing_room.1)
abbrev FE:=km P w K mg base 5 "room" (vr Ad) ["self","name"] (RF K Ad)
abbrev Ci:Stmt:=top 62
theorem vt:jn ["thing","scale","weights","part","lids","gap","room","on_way"] ["thing","scale"] (iW Ci):=by bv_decide
noncomputable def D_lids_of:{G // mL "lids_of" "lids_of" Ci 5 2 8 ["thing","scale"] (λP w K mg base Ad=>vZ P w K mg base Ad/\JF P w K mg base Ad/\Br P w K mg base Ad/\PP P w K mg base Ad/\wx P w K mg base Ad/\ML P w K mg base Ad/\FE P w K mg base Ad/\uz P w K mg base Ad) G}:=by
 apply bZ;apply m4 vt rfl rfl;intro P w K mg base Ad f fd dV F T ⟨Bbo,k_Lid,BbO,Bc9,BaH,k_Tight,Bfx,Bak⟩ cdv A outer s H vs Q E hr;have hu:=hr.units;show(_,(gH (iE 2 vt.nd qd rfl (m1 rfl)) (gH (nD gA rfl (jP (Bak.m0 hr ⋯ pass1 (pv 0))) (kQ 3 vt.nd) (gQ (o9 (kP hu) (pv 2) (!3) (!3) rfl))) (gH (iE 4 vt.nd (lO pS)) (gH (nD gA rfl (jP (Bbo.m0 hr ⋯ pass1 (pv 0))) (kQ 5 vt.nd) (gH (iE 6 vt.nd (Bfx.m hr ⋯ pass1 (pv 0) %[!5|0])) (gH (gM (nH (BaH.ev hr ⋯ rfl pass1 %[pv 6,n7 (v:=.ref _) rfl T.Bdu T.Bdv|0])) (gQ (Gu (k_Tight.ev hr ⋯ rfl pass1 %[gP,!5|0])))
   j8) (gH (iE 7 vt.nd (tL (Oo rfl) rfl T.n_dict Kx %[qq (qu (own:=["name"]) (cs:=[(2,"weights")]) rfl (jP (Bc9.ev hr ⋯ rfl pass1 %[pv 0,!5|0])) (λ_ _ _ _=>(kQ 0 (show[("name" : Str),("weights" : Str)].Nodup by decide))) (λ_ _ _ _=>qh) (λ_ _ _ _=>(jF %[pv 0,oG (kP hu) (pv 1) (pv 0) (λ_ _=>rfl)|0])) (pH rfl) ⋯ rfl ⋯ (qj rfl rfl rfl))|0])) (gQ (oh (j7 gz gE gD qf (pv 4) %[k_Lid.ev hr ⋯ rfl pass1 %[!5,BbO.m hr ⋯ pass1 (pv 1) %[pv 6|0],pv 7|0]|0] (hs:=by show p4 rfl)))))))) (gQ (iX (pv 4))))))),λPr D0 hD=>?_)
 try simp only[rd_K]
 with_reducible
  apply gX;show p8;apply iy;apply kH 1000000;apply mY;apply iB _ o3 pf;show bX;show sNil;show kg;apply pe;show bX;show iq;show iq;apply gX;apply jd;show sNil;apply iy;apply kH 1000000;apply mY;apply iB _ o3 pf;show bX;show sNil;show kg;apply gX;apply iB _ o3 pf;show bX;apply kA;show sNil;apply ja;apply sB;apply jq;apply mx;apply b6;show ml sM;show sNil;apply FZ;show MD;assumption;show Txt.xi_Tight (by assumption);apply hM;apply kA;show sNil;apply gX;apply lV;show Qz;apply b6;apply mV 1000000;apply mY;apply jq;apply mx;apply kA;show sNil;show kg;apply ip;apply mx;apply b6;apply kf;show bX;show bX;show sNil;show sNil;apply ma;apply oK ⋯;show qe;show bX;apply b6;apply pL;show HU;decide;apply kA;apply b6;apply iB _ x6 zk;show bX;show j3;show j3;show sNil;apply g6;show bX
noncomputable abbrev QC:Sp:=i5 K (gS Ad) (iF Ad) (fnX 2 8 D_lids_of.1)
abbrev Og:=kR P w K mg base 6 "lids_of" ["thing","scale"] [] (QC K Ad)
abbrev Dw:Stmt:=top 63
theorem BU:jn ["thing","scale","told","part"] ["thing","scale"] (iW Dw):=by bv_decide
noncomputable def D_most_levels:{G // mL "most_levels" "most_levels" Dw 3 2 4 ["thing","scale"] (λP w K mg base Ad=>uz P w K mg base Ad/\FC P w K mg base Ad/\Br P w K mg base Ad) G}:=by
 apply bZ;apply m4 BU rfl rfl;intro P w K mg base Ad f fd dV F T ⟨Bak,Bfw,BbO⟩ cdv A outer s H vs Q E hr;have hu:=hr.units;show(_,(gH (iE 2 BU.nd qd) (gH (nD gA rfl (jP (Bak.m0 hr ⋯ pass1 (pv 0))) (kQ 3 BU.nd) (gQ (o9 (kP hu) (pv 2) (!3) (Bfw.ev hr ⋯ rfl pass1 %[BbO.m hr ⋯ pass1 (pv 1) %[!3|0],jF %[!3,jA|0]|0]) rfl))) (gQ (iX (pv 2))))),λPr D0 hD=>?_)
 try simp only[rd_K]
 with_reducible
  apply gX;show p8;apply iy;apply kH 1000000;apply mY;apply iB _ o3 pf;show bX;show sNil;show kg;apply pe;show bX;show iq;apply jq;apply b6;apply iB _ x6 zk;show bX;apply kA;show sNil;apply b6;apply ip;apply kA;apply qG;show sNil;show sNil;apply g6;show bX
noncomputable abbrev Ry:Sp:=i5 K (gS Ad) (iF Ad) (fnX 2 4 D_most_levels.1)
abbrev Qb:=kR P w K mg base 4 "most_levels" ["thing","scale"] [] (Ry K Ad)
abbrev DE:Stmt:=top 64
theorem BV:jn ["mosts","lids","levels","stops","lid"] ["mosts","lids","levels"] (iW DE):=by bv_decide
noncomputable def D_coming_stops:{G // mL "coming_stops" "coming_stops" DE 4 3 5 ["mosts","lids","levels"] (λP w K mg base Ad=>PH P w K mg base Ad) G}:=by
 apply bZ;apply m4 BV rfl rfl;intro P w K mg base Ad f fd dV F T m_full_level cdv A outer s H vs Q E hr;have hu:=hr.units;show(_,(gH (JV (BM (j:=3) (own:=["name"]) (cs:=[(0,"mosts"),(2,"levels")]) BV.nd rfl (Or.inl rfl) rfl (y3 (pv 0)) (λ_ _ _ _=>(kQ 0 (show[("name" : Str),("mosts" : Str),("levels" : Str)].Nodup by decide))) (λ_ _ _ _=>AK (p9 (tM (kP hu) (pv 0) (pv 2)) (by with_unfolding_all rfl))) (λ_ _ _ _=>(jF %[oG (kP hu) (pv 1) (pv 0) (λ_ _=>rfl),lO %[pv 0|0]|0])) (pH rfl) ⋯ rfl ⋯ (xK rfl rfl rfl rfl rfl rfl))) (gH (nD gA rfl (jP (pv 1)) (kQ 4 BV.nd) (gQ (gM (j4 vS (jg (pv 4) rfl) jA (jB _)) (gQ (oh (j7 gz gE gD qf (pv 3) %[jF %[m_full_level.m0 hr ⋯ pass1 (pv 4),AL (qu (own:=["name"]) (cs:=[(2,"levels")]) rfl (y3 (jg (pv 4) rfl)) (λ_ _ _ _=>(kQ 0 (show[("name" : Str),("levels" : Str)].Nodup by decide))) (λ_ _ _ _=>AK (p9 (tM (kP hu) (pv 0) (pv 1)) (by with_unfolding_all rfl))) (λ_ _ _ _=>(pv 0)) (pH rfl) ⋯ rfl ⋯ (qj rfl rfl rfl))|0]|0] (hs:=by show p4 rfl))))
   j8))) (gQ (iX (pv 3))))),λPr D0 hD=>?_)
 try simp only[rd_K]
 with_reducible
  apply iy;apply Lu;apply Gz 1000000;show bX;intro _;show kg;intro _;apply sB;apply tI;show bX;show bX;intro _;apply ip;apply b6;apply kf;show bX;show bX;apply b6;apply jd;show j3;show sNil;apply iy;apply kH 1000000;apply mY;show bX;show kg;apply l0;apply iA;show qz;apply sFld wc (xY (by assumption));show bX;show sC rfl;apply ma;apply oK ⋯;show qe;show bX;apply b6;apply ip;apply b6;apply iB _ yL Aq;show bX;show sNil;apply b6;apply Gz 1000000;apply sFld wH (ye (by assumption));show bX;intro _;show kg;intro _;apply sB;apply tI;show bX;show bX;intro _;show bX;show sNil;show sNil;show sNext;apply g6;show bX
noncomputable abbrev Rl:Sp:=i5 K (gS Ad) (iF Ad) (fnX 3 5 D_coming_stops.1)
abbrev PZ:=kR P w K mg base 5 "coming_stops" ["mosts","lids","levels"] [] (Rl K Ad)
abbrev Dv:Stmt:=top 65
theorem zI:jn ["stops","found","stop"] ["stops"] (iW Dv):=by bv_decide
noncomputable def D_first_level:{G // lD "first_level" "first_level" Dv 1 1 3 ["stops"] (λP w K mg base Ad=>wx P w K mg base Ad) G}:=by
 apply bZ;apply okN zI rfl rfl;intro P w K mg base Ad f fd dV F T BaH cdv A outer s H vs Q E hr;show(_,(gH (iE 1 zI.nd (kY ix_U (!0) jA)) (gH (nD g9 rfl (jP (pv 0)) (kQ 2 zI.nd) (gQ (gM (nH (BaH.ev hr ⋯ rfl passF %[!2,pv 1|0])) (gQ (iE 1 zI.nd (!2)))
   j8))) (gQ (iX (pv 1))))),λPr D0 hD=>?_)
 try simp only[rd_K]
 with_reducible
  apply gX;apply kh;show s_ix;show iq;show sC rfl;apply iy;apply kH 1000000;apply mY;show bX;show kg;apply l0;apply sB;apply jq;apply kA;show j3;apply nK;show iq;show kg;show sNext;apply g6;show bX
noncomputable abbrev Rx:Sp:=i5 K (gS Ad) (iF Ad) (lp 1 3 D_first_level.1)
abbrev Qd:=kR P w K mg base 2 "first_level" ["stops"] [] (Rx K Ad)
abbrev CF:Stmt:=top 66
theorem zF:jn ["stops","level","names","stop","name"] ["stops","level"] (iW CF):=by bv_decide
noncomputable def D_stopped_at:{G // lD "stopped_at" "stopped_at" CF 0 2 5 ["stops","level"] oA G}:=by
 apply bZ;apply okN zF rfl rfl;intro P w K mg base Ad f fd dV F T c cdv A outer s H vs Q E hr;have hu:=hr.units;show(_,(gH (iE 2 zF.nd qd) (gH (nD g9 rfl (jP (pv 0)) (kQ 3 zF.nd) (gQ (gM (j4 (mR hu) (!3) (pv 1) (jB _)) (gQ (nD g9 rfl (jP (!3)) (kQ 4 zF.nd) (gQ (o9 (kP hu) (pv 2) (pv 4) jw rfl))))
   j8))) (gQ (iX (tL (On rfl) rfl T.Bfs wg %[pv 2|0]))))),λPr D0 hD=>?_)
 try simp only[rd_K]
 with_reducible
  apply gX;show p8;apply iy;apply kH 1000000;apply mY;show bX;show kg;apply l0;apply iA;show s_eq;show iq;show bX;apply kH 1000000;apply mY;show iq;show kg;apply pe;show bX;show bX;show sC rfl;show sNext;apply g6;apply lV;show QA;show j3
noncomputable abbrev RE:Sp:=i5 K (gS Ad) (iF Ad) (lp 2 5 D_stopped_at.1)
abbrev PL:=kR P w K mg base 1 "stopped_at" ["stops","level"] [] (RE K Ad)
abbrev DD:Stmt:=top 67
theorem wN:jn ["mosts","lids","levels","stops","level","name","lid"] ["mosts","lids"] (iW DD):=by bv_decide
noncomputable def D_risen_levels:{G // mL "risen_levels" "risen_levels" DD 5 2 7 ["mosts","lids"] (λP w K mg base Ad=>PL P w K mg base Ad/\N4 P w K mg base Ad/\Qd P w K mg base Ad/\PZ P w K mg base Ad) G}:=by
 apply bZ;apply m4 wN rfl rfl;intro P w K mg base Ad f fd dV F T ⟨Bdb,m_settle,BcJ,Bcl⟩ cdv A outer s H vs Q E hr;have hu:=hr.units;show(_,(gH (iE 2 wN.nd qd) (gH (wC gA (j4 uo (nJ Gg rfl T.Bc2 pQ %[pv 2|0]) (nJ Gg rfl T.Bc2 pQ %[pv 0|0]) (jB _)) (gH (iE 3 wN.nd (Bcl.ev hr ⋯ rfl pass1 %[pv 0,pv 1,pv 2|0])) (gH (iE 4 wN.nd (BcJ.ev hr ⋯ rfl pass1 %[pv 3|0])) (gQ (nD gA rfl (jP (Bdb.ev hr ⋯ rfl pass1 %[pv 3,pv 4|0])) (kQ 5 wN.nd) (gH (o9 (kP hu) (pv 2) (pv 5) (pv 4) rfl) (gQ (nD gA rfl (jP (pv 1)) (kQ 6 wN.nd) (gQ (oh (m_settle.m hr ⋯ pass1 (pv 6) %[pv 5,pv 4|0]))))))))))) (gQ (iX (pv 2))))),λPr D0 hD=>?_)
 try simp only[rd_K]
 with_reducible
  apply gX;show p8;apply iy;apply vQ 1000000;apply iA;show qz;apply lV;show He;show j3;apply lV;show He;show j3;apply gX;apply jq;apply mx;show nF;apply gX;apply jq;show j3;apply kH 1000000;apply mY;apply jq;show nF;show kg;apply iy;apply pe;show bX;show bX;show bX;apply kH 1000000;apply mY;show bX;show kg;apply ma;apply iB _ yL Aq;show bX;show nF;apply g6;show bX
noncomputable abbrev Rk:Sp:=i5 K (gS Ad) (iF Ad) (fnX 2 7 D_risen_levels.1)
abbrev PY:=kR P w K mg base 6 "risen_levels" ["mosts","lids"] [] (Rk K Ad)
abbrev CN:Stmt:=top 68
theorem GN:jn ["lids","name","level","full"] ["lids","name","level"] (iW CN):=by bv_decide
noncomputable def D_gap_stop:{G // lD "gap_stop" "gap_stop" CN 1 3 4 ["lids","name","level"] (λP w K mg base Ad=>P7 P w K mg base Ad) G}:=by
 apply bZ;apply okN GN rfl rfl;intro P w K mg base Ad f fd dV F T m_has_stopped cdv A outer s H vs Q E hr;show(_,(gH (BM (j:=3) (own:=["lid"]) (cs:=[(1,"name"),(2,"level")]) GN.nd rfl (Or.inl rfl) rfl (jP (pv 0)) (λ_ _ _ _=>(kQ 0 (show[("lid" : Str),("name" : Str),("level" : Str)].Nodup by decide))) (λ_ _ _ _=>AK (nH (m_has_stopped.m hr ⋯ passF (pv 0) %[pv 1,pv 2|0]))) (λ_ _ _ _=>(Fx (K:=K) rfl (pv 0) rfl)) (pH rfl) ⋯ rfl ⋯ (xK rfl rfl rfl rfl rfl rfl)) (gQ (iX (jF %[gP,!3|0])))),λPr D0 hD=>?_)
 try simp only[rd_K]
 with_reducible
  apply gX;apply HF 1000000;apply mY;show bX;show kg;apply sB;apply iB _ yL Aq;show bX;show nF;apply sFld pd (pK (by assumption));show bX;apply rM;apply hM;apply kA;show sNil
noncomputable abbrev QV:Sp:=i5 K (gS Ad) (iF Ad) (lp 3 4 D_gap_stop.1)
abbrev OD:=kR P w K mg base 2 "gap_stop" ["lids","name","level"] [] (QV K Ad)
abbrev B8:Stmt:=top 69
theorem sG:jn ["thing","scale","lids","mosts","levels","told","part","name","level","slack"] ["thing"] (iW B8):=by bv_decide
noncomputable def D_share:{G // mL "share" "share" B8 6 1 10 ["thing"] (λP w K mg base Ad=>uz P w K mg base Ad/\OD P w K mg base Ad/\Ot P w K mg base Ad/\Bl P w K mg base Ad/\PY P w K mg base Ad/\Qb P w K mg base Ad/\Og P w K mg base Ad/\Oz P w K mg base Ad) G}:=by
 apply bZ;apply m4 sG rfl rfl;intro P w K mg base Ad f fd dV F T ⟨Bak,Bek,m_lowered,Bck,Bcm,BcK,BeX,Bel⟩ cdv A outer s H vs Q E hr;have hu:=hr.units;show(_,(gH (iE 1 sG.nd (Bel.ev hr ⋯ rfl pass1 %[pv 0|0])) (gH (iE 2 sG.nd (BeX.ev hr ⋯ rfl pass1 %[pv 0,pv 1|0])) (gH (iE 3 sG.nd (BcK.ev hr ⋯ rfl pass1 %[pv 0,pv 1|0])) (gH (iE 4 sG.nd (Bcm.ev hr ⋯ rfl pass1 %[pv 3,pv 2|0])) (gH (iE 5 sG.nd (lO pS)) (gH (nD gA rfl (jP (Bak.m0 hr ⋯ pass1 (pv 0))) (kQ 6 sG.nd) (gH (iE 7 sG.nd (!6)) (gH (iE 8 sG.nd (oG (kP hu) (pv 4) (pv 7) (λ_ _=>rfl))) (gQ (gM (j4 (mR hu) (pv 8) (oG (kP hu) (pv 3) (pv 7) (λ_ _=>rfl)) (jB _)) (gQ (oh (j7 gz gE gD qf (pv 5) %[jF %[pv 7,!6,jF %[gP|0]|0]|0] (hs:=by show p4 rfl)))) (gH (iE 9 sG.nd (m_lowered.m hr ⋯ pass1 (pv 1) %[Bck.ev hr ⋯ rfl pass1 %[pv 8,jF %[!6,jA|0]|0]|0])) (gQ (oh (j7 gz gE gD qf (pv 5) %[jF %[pv 7,pv 9,Bek.ev hr ⋯ rfl pass1 %[pv 2,pv 7,pv 8|0]|0]|0] (hs:=by show p4 rfl)))))))))) (gQ (iX (pv 5))))))))),λPr D0 hD=>?_)
 try simp only[rd_K]
 with_reducible
  apply gX;apply jq;show j3;apply gX;apply jq;show nF;apply gX;apply jq;show nF;apply gX;apply jq;show nF;apply gX;apply jd;show sNil;apply iy;apply kH 1000000;apply mY;apply iB _ o3 pf;show bX;show sNil;show kg;apply gX;show iq;apply gX;apply kf;show bX;show bX;apply l0;apply iA;show s_eq;show bX;apply kf;show bX;show bX;apply ma;apply oK ⋯;show qe;show bX;apply b6;apply ip;apply mx;apply kA;apply b6;apply ip;apply hM;show sNil;show sNil;show sNil;apply gX;apply iB _ x6 zk;show bX;apply b6;apply jq;apply mx;apply b6;apply ip;apply kA;apply qG;show sNil;show sNil;show sNil;apply ma;apply oK ⋯;show qe;show bX;apply b6;apply ip;apply mx;apply mx;apply b6;apply jq;apply mx;show nF;show sNil;show sNil;apply g6;show bX
noncomputable abbrev Qv:Sp:=i5 K (gS Ad) (iF Ad) (fnX 1 10 D_share.1)
abbrev MM:=kR P w K mg base 7 "share" ["thing"] [] (Qv K Ad)
abbrev Cp:Stmt:=top 71
theorem Nx:jn ["thing"] ["thing"] (iW Cp):=by bv_decide
noncomputable def D_is_part:{G // lD "is_part" "is_part" Cp 2 1 1 ["thing"] (λP w K mg base Ad=>wx P w K mg base Ad/\G6 P w K mg base Ad/\GM P w K mg base Ad/\zC P w K mg base Ad/\GY P w K mg base Ad) G}:=by
 apply bZ;apply okN Nx rfl rfl;intro P w K mg base Ad f fd dV F T ⟨BaH,BaG,Bbr,Bax,Bbt⟩ cdv A outer s H vs Q E hr;have hu:=hr.units;show(_,(gH (gM (PW.pt (lu (ot (nH (nJ sO rfl T.Bad oM %[pv 0,sh (v:=.ty "tuple") rfl T.Bec wu rfl|0]))) (pP (j4 (qa hu) (nJ qg rfl T.Bc2 pQ %[pv 0|0]) jA (jB _))))) (gQ (iX jw))
   j8) (gH (gM (PW.pt (lu (ot (nH (Bax.ev hr ⋯ rfl passF %[!0|0]))) (pP (ot (nH (Bbt.ev hr ⋯ rfl passF %[!0,!0|0])))))) (gQ (iX jw))
   j8) (gH (gM (PW.pt (lu (ot (nH (BaG.ev hr ⋯ rfl passF %[!0|0]))) (lu (ot (nH (BaG.ev hr ⋯ rfl passF %[!0|0]))) (pP (ot (nH (Bbr.ev hr ⋯ rfl passF %[!0|0]))))))) (gQ (iX jw))
   j8) (gQ (iX (rm (Ay (BaH.ev hr ⋯ rfl passF %[!0,n7 (v:=.ref _) rfl T.Bdu T.Bdv|0])) (sd (pJ E1 (!0) jA (jB _))))))))),λPr D0 hD=>?_)
 try simp only[rd_K]
 with_reducible
  apply ja;apply pj;apply mw;apply sB;apply lV;show sQ;apply mx;apply b6;show sC rfl;show sNil;apply iA;show s_ne;apply lV;show qV;show j3;show sC rfl;apply g6;show sC rfl;apply ja;apply pj;apply mw;apply sB;apply jq;apply kA;show sNil;apply mw;apply sB;apply jq;apply kA;apply kA;show sNil;apply g6;show sC rfl;apply ja;apply pj;apply mw;apply sB;apply jq;apply kA;show sNil;apply pj;apply mw;apply sB;apply jq;apply kA;show sNil;apply mw;apply sB;apply jq;apply kA;show sNil;apply g6;show sC rfl;apply g6;apply nq;apply rN;apply jq;apply kA;apply b6;show ml sM;show sNil;apply kh;show qz;show iq;show sC rfl
noncomputable abbrev QB:Sp:=i5 K (gS Ad) (iF Ad) (lp 1 1 D_is_part.1)
abbrev Oi:=kR P w K mg base 3 "is_part" ["thing"] [] (QB K Ad)
abbrev Ce:Stmt:=top 72
theorem Mq:jn ["thing"] ["thing"] (iW Ce):=by bv_decide
noncomputable def D_is_gap:{G // lD "is_gap" "is_gap" Ce 5 1 1 ["thing"] (λP w K mg base Ad=>F8 P w K mg base Ad) G}:=by
 apply bZ;apply okN Mq rfl rfl;intro P w K mg base Ad f fd dV F T Bdq cdv A outer s H vs Q E hr;show(_,(gQ (iX (rm (Bdq.ev hr ⋯ rfl passF %[pv 0|0]) (rm (pJ wF (!0) nP (jB _)) (sd (pJ wF (!0) nP (jB _))))))),λPr D0 hD=>?_);try simp only[rd_K]
 with_reducible
  apply g6;apply nq;apply jq;show j3;apply nq;apply kh;show wX;show iq;show sC rfl;apply kh;show wX;show iq;show sC rfl
noncomputable abbrev QI:Sp:=i5 K (gS Ad) (iF Ad) (lp 1 1 D_is_gap.1)
abbrev Nn:=kR P w K mg base 6 "is_gap" ["thing"] [] (QI K Ad)
abbrev DM:Stmt:=inClass (top 73) 0
theorem P1:jn ["self","row"] ["self","row"] (iW DM):=by bv_decide
noncomputable def D_Partuu_inituu:{G // lD "__init__" "Part.__init__" DM 0 2 2 ["self","row"] oA G}:=by
 apply bZ;apply okN P1 rfl rfl;intro P w K mg base Ad f fd dV F T c cdv A outer s H vs Q E hr;show(_,(gH (m5 (pv 0) (!1) rfl) (gH (m5 (pv 0) (!1) rfl) (gH (m5 (pv 0) (!1) rfl) (gH (m5 (pv 0) (!1) rfl) (gH (m5 (pv 0) (!1) rfl) (gQ (m5 (pv 0) (!1) rfl))))))),λPr D0 hD=>?_)
 try simp only[rd_K]
 with_reducible
  apply iy;apply iV pd (pK (by assumption));show bX;show iq;apply iy;apply iV si (tH (by assumption));show bX;show iq;apply iy;apply iV sf (tG (by assumption));show bX;show iq;apply iy;apply iV zd (AW (by assumption));show bX;show iq;apply iy;apply iV AS (Fl (by assumption));show bX;show iq;apply iV Bx (Ge (by assumption));show bX;show iq
noncomputable abbrev RS:Sp:=i5 K (gS Ad) (iF Ad) (lp 2 2 D_Partuu_inituu.1)
abbrev Ln:=nB P w K mg base 1 "Part" Ad.Part ["self","row"] (RS K Ad)
abbrev DC:Stmt:=inClass (top 74) 0
theorem P5:jn ["self","row"] ["self","row"] (iW DC):=by bv_decide
noncomputable def D_Gapuu_inituu:{G // lD "__init__" "Gap.__init__" DC 0 2 2 ["self","row"] oA G}:=by
 apply bZ;apply okN P5 rfl rfl;intro P w K mg base Ad f fd dV F T c cdv A outer s H vs Q E hr;show(_,(gH (m5 (pv 0) (!1) rfl) (gH (m5 (pv 0) (!1) rfl) (gH (m5 (pv 0) (!1) rfl) (gH (m5 (pv 0) (!1) rfl) (gQ (m5 (pv 0) (!1) rfl)))))),λPr D0 hD=>?_)
 try simp only[rd_K]
 with_reducible
  apply iy;apply iV pd (pK (by assumption));show bX;show iq;apply iy;apply iV yM (Av (by assumption));show bX;show iq;apply iy;apply iV zo (Bc (by assumption));show bX;show iq;apply iy;apply iV yN (Aw (by assumption));show bX;show iq;apply iV zf (AY (by assumption));show bX;show iq
noncomputable abbrev Rj:Sp:=i5 K (gS Ad) (iF Ad) (lp 2 2 D_Gapuu_inituu.1)
abbrev JG:=nB P w K mg base 1 "Gap" Ad.Gap ["self","row"] (Rj K Ad)
abbrev Co:Stmt:=top 75
theorem Nw:jn ["thing"] ["thing"] (iW Co):=by bv_decide
noncomputable def D_part_of:{G // mL "part_of" "part_of" Co 3 1 1 ["thing"] (λP w K mg base Ad=>Ln P w K mg base Ad/\Oi P w K mg base Ad) G}:=by
 apply bZ;apply m4 Nw rfl rfl;intro P w K mg base Ad f fd dV F T ⟨BgM,BeY⟩ cdv A outer s H vs Q E hr;show(_,(gH (gM (ot (nH (BeY.ev hr ⋯ rfl pass1 %[pv 0|0]))) (gQ (oX cp T.BdU rfl T.Bgw %[gP|0]))
   j8) (gQ (iX (BgM.ev hr ⋯ rfl pass1 %[pv 0|0])))),λPr D0 hD=>?_)
 try simp only[rd_K]
 with_reducible
  apply ja;apply mw;apply sB;apply jq;show j3;apply oW;show NR;apply hM;show sNil;apply g6;apply pL;show KZ;decide;show j3
noncomputable abbrev QG:Sp:=i5 K (gS Ad) (iF Ad) (fnX 1 1 D_part_of.1)
abbrev Ow:=kR P w K mg base 4 "part_of" ["thing"] [] (QG K Ad)
abbrev Cd:Stmt:=top 76
theorem Mr:jn ["thing"] ["thing"] (iW Cd):=by bv_decide
noncomputable def D_gap_of:{G // mL "gap_of" "gap_of" Cd 6 1 1 ["thing"] (λP w K mg base Ad=>JG P w K mg base Ad/\Nn P w K mg base Ad) G}:=by
 apply bZ;apply m4 Mr rfl rfl;intro P w K mg base Ad f fd dV F T ⟨Bg2,BfF⟩ cdv A outer s H vs Q E hr;show(_,(gH (gM (ot (nH (BfF.ev hr ⋯ rfl pass1 %[pv 0|0]))) (gQ (oX cp T.BeL rfl T.BgI %[gP|0]))
   j8) (gQ (iX (Bg2.ev hr ⋯ rfl pass1 %[pv 0|0])))),λPr D0 hD=>?_)
 try simp only[rd_K]
 with_reducible
  apply ja;apply mw;apply sB;apply jq;show j3;apply oW;show MF;apply hM;show sNil;apply g6;apply pL;show HV;decide;show j3
noncomputable abbrev QH:Sp:=i5 K (gS Ad) (iF Ad) (fnX 1 1 D_gap_of.1)
abbrev Np:=kR P w K mg base 7 "gap_of" ["thing"] [] (QH K Ad)
abbrev Dp:Stmt:=inClass (top 77) 0
theorem Qf:jn ["self"] ["self"] (iW Dp):=by bv_decide
noncomputable def D_Jointsuu_inituu:{G // lD "__init__" "Joints.__init__" Dp 0 1 1 ["self"] oA G}:=by
 apply bZ;apply okN Qf rfl rfl;intro P w K mg base Ad f fd dV F T c cdv A outer s H vs Q E hr;show(_,(gQ (m5 (pv 0) qd rfl)),λPr D0 hD=>?_);try simp only[rd_K]
 with_reducible
  apply iV x9 (zp (by assumption));show bX;show p8
noncomputable abbrev RP:Sp:=i5 K (gS Ad) (iF Ad) (lp 1 1 D_Jointsuu_inituu.1)
abbrev N8:=nB P w K mg base 1 "Joints" Ad.Joints ["self"] (RP K Ad)
abbrev DX:Stmt:=inClass (top 77) 1
theorem Pt:jn ["self","part"] ["self","part"] (iW DX):=by bv_decide
noncomputable def D_Joints_link:{G // lD "link" "Joints.link" DX 0 2 2 ["self","part"] oA G}:=by
 apply bZ;apply okN Pt rfl rfl;intro P w K mg base Ad f fd dV F T c cdv A outer s H vs Q E hr;show(_,(gH (oh (j7 gz gE gD qf (Fy (jg (pv 0) rfl) (jg (pv 1) rfl) (lO pS) ⟨rfl,rfl,rfl,rfl⟩) %[jF %[jg (pv 1) rfl,jF %[jg (pv 1) rfl,jw|0]|0]|0] (hs:=by show p4 rfl))) (gQ (oh (j7 gz gE gD qf (Fy (jg (pv 0) rfl) (jg (pv 1) rfl) (lO pS) ⟨rfl,rfl,rfl,rfl⟩) %[jF %[jg (pv 1) rfl,jF %[jg (pv 1) rfl,jw|0]|0]|0] (hs:=by show p4 rfl))))),λPr D0 hD=>?_)
 try simp only[rd_K]
 with_reducible
  apply sW;apply oK ⋯;show qe;apply EA;apply sFld x9 (zp (by assumption));show bX;apply sFld si (tH (by assumption));show bX;apply jd;show sNil;apply b6;apply ip;apply b6;apply sFld sf (tG (by assumption));show bX;apply b6;apply ip;apply b6;apply sFld pd (pK (by assumption));show bX;apply b6;show sC rfl;show sNil;show sNil;show sNil;apply ma;apply oK ⋯;show qe;apply EA;apply sFld x9 (zp (by assumption));show bX;apply sFld sf (tG (by assumption));show bX;apply jd;show sNil;apply b6;apply ip;apply b6;apply sFld si (tH (by assumption));show bX;apply b6;apply ip;apply b6;apply sFld pd (pK (by assumption));show bX;apply b6;show sC rfl;show sNil;show sNil;show sNil
noncomputable abbrev Rw:Sp:=i5 K (gS Ad) (iF Ad) (lp 2 2 D_Joints_link.1)
abbrev KC:=km P w K mg base 1 "link" (zD Ad) ["self","part"] (Rw K Ad)
abbrev Dt:Stmt:=inClass (top 77) 2
theorem yp:jn ["self","one","other","found","waiting","face","lead"] ["self","one","other"] (iW Dt):=by bv_decide
noncomputable def D_Joints_way_between:{G // lD "way_between" "Joints.way_between" Dt 0 3 7 ["self","one","other"] oA G}:=by
 apply bZ;apply okN yp rfl rfl;intro P w K mg base Ad f fd dV F T c cdv A outer s H vs Q E hr;have hu:=hr.units;show(_,(gH (iE 3 yp.nd (Ji (Ly (pv 1) (lO pS) JW) rfl rfl (by simp) ⋯)) (gH (iE 4 yp.nd (lO %[pv 1|0])) (gH (wC g9 (j4 vS (nJ qg rfl T.Bc2 pQ %[pv 4|0]) jA (jB _)) (gH (iE 5 yp.nd (IY gz PySem.F.slot_list_pop PySem.F.type_list_pop IA (pv 4))) (gQ (nD g9 rfl (jP (LJ (kP hu) (jg (pv 0) rfl) (pv 5) (lO pS) ⟨rfl,rfl,rfl,rfl⟩)) (kQ 6 yp.nd) (gQ (gM (p9 (tM (kP hu) (!6) (pv 3)) (by with_unfolding_all rfl)) (gH (o9 (kP hu) (pv 3) (!6) (gR nQ (oG (kP hu) (pv 3) (pv 5) (λ_ _=>rfl)) (lO %[!6|0])) rfl) (gQ (oh (j7 gz gE gD qf (pv 4) %[!6|0] (hs:=by show p4 rfl)))))
   j8)))))) (gQ (iX (F3 (kP hu) (pv 3) (pv 2) ⟨rfl,rfl,rfl,rfl⟩)))))),λPr D0 hD=>?_)
 try simp only[rd_K]
 with_reducible
  apply gX;apply HB;show bX;apply jd;show sNil;apply gX;apply jd;show j3;apply iy;apply vQ 1000000;apply iA;show qz;apply lV;show qV;show j3;show sC rfl;apply gX;apply zY ⋯;show m_pop;show bX;apply kH 1000000;apply mY;apply HE;apply sFld x9 (zp (by assumption));show bX;show bX;apply jd;show sNil;show kg;apply l0;apply sB;apply tI;show iq;show bX;apply iy;apply pe;show bX;show iq;apply kh;show nW;apply kf;show bX;show bX;apply jd;apply kA;show sNil;apply ma;apply oK ⋯;show qe;show bX;apply kA;show sNil;show sNext;apply g6;apply EB;show bX;show bX
noncomputable abbrev R7:Sp:=i5 K (gS Ad) (iF Ad) (lp 3 7 D_Joints_way_between.1)
abbrev Py:=km P w K mg base 1 "way_between" (zD Ad) ["self","one","other"] (R7 K Ad)
abbrev Di:Stmt:=inClass (top 78) 0
theorem vE:jn ["self","parts","gaps","joints","row","part","gap","found"] ["self","parts","gaps"] (iW Di):=by bv_decide
noncomputable def D_Thinguu_inituu:{G // mL "__init__" "Thing.__init__" Di 7 3 8 ["self","parts","gaps"] (λP w K mg base Ad=>Py P w K mg base Ad/\Np P w K mg base Ad/\KC P w K mg base Ad/\Ow P w K mg base Ad/\N8 P w K mg base Ad) G}:=by
 apply bZ;apply m4 vE rfl rfl;intro P w K mg base Ad f fd dV F T ⟨BbP,BfG,BgN,BeZ,BfH⟩ cdv A outer s H vs Q E hr;have hu:=hr.units;show(_,(gH (iE 3 vE.nd (BfH.ev0 hr ⋯ rfl pass1)) (gH (m5 (pv 0) qd rfl) (gH (nD gA rfl (jP (pv 1)) (kQ 4 vE.nd) (gH (iE 5 vE.nd (BeZ.ev hr ⋯ rfl pass1 %[pv 4|0])) (gH (gM (p9 (um (kP hu) (jg (pv 5) rfl) (jg (pv 0) rfl)) (by with_unfolding_all rfl)) (gQ (oX cp T.BdK rfl T.BfD %[gP|0]))
   j8) (gH (gM (j4 wF (BbP.m hr ⋯ pass1 (pv 3) %[jg (pv 5) rfl,jg (pv 5) rfl|0]) nP (jB _)) (gQ (oX cp T.BdV rfl T.Bgx %[gP|0]))
   j8) (gH (oh (BgN.m hr ⋯ pass1 (pv 3) %[pv 5|0])) (gQ (o9 (kP hu) (jg (pv 0) rfl) (jg (pv 5) rfl) (pv 5) rfl))))))) (gH (m5 (pv 0) qd rfl) (gH (m5 (pv 0) qd rfl) (gQ (nD gA rfl (jP (pv 2)) (kQ 4 vE.nd) (gH (iE 6 vE.nd (BfG.ev hr ⋯ rfl pass1 %[pv 4|0])) (gH (gM (p9 (um (kP hu) (jg (pv 6) rfl) (jg (pv 0) rfl)) (by with_unfolding_all rfl)) (gQ (oX cp T.BdK rfl T.BfD %[gP|0]))
   j8) (gH (iE 7 vE.nd (BbP.m hr ⋯ pass1 (pv 3) %[jg (pv 6) rfl,jg (pv 6) rfl|0])) (gH (gM (j4 qr (pv 7) nP (jB _)) (gQ (oX cp T.BeM rfl T.BgJ %[gP|0]))
   j8) (gH (o9 (kP hu) (jg (pv 0) rfl) (jg (pv 6) rfl) (pv 6) rfl) (gQ (o9 (kP hu) (jg (pv 0) rfl) (jg (pv 6) rfl) (pv 7) rfl)))))))))))))),λPr D0 hD=>?_)
 try simp only[rd_K]
 with_reducible
  apply gX;apply pL;show NT;decide;show sNil;apply iy;apply iV wK (ym (by assumption));show bX;show p8;apply iy;apply kH 1000000;apply mY;show bX;show kg;apply gX;apply jq;show j3;apply ja;apply sB;apply pV;apply sFld pd (pK (by assumption));show bX;apply sFld wK (ym (by assumption));show bX;apply oW;show Bi;apply hM;show sNil;apply ja;apply iA;show wX;apply iB _ zu Bu;show bX;apply b6;apply sFld si (tH (by assumption));show bX;apply b6;apply sFld sf (tG (by assumption));show bX;show sNil;show sC rfl;apply oW;show NU;apply hM;show sNil;apply sW;apply iB _ zu Bu;show bX;show j3;apply pe;apply sFld wK (ym (by assumption));show bX;apply sFld pd (pK (by assumption));show bX;show bX;apply iy;apply iV wJ (yj (by assumption));show bX;show p8;apply iy;apply iV x4 (y4 (by assumption));show bX;show p8;apply kH 1000000;apply mY;show bX;show kg;apply gX;apply jq;show j3;apply ja;apply sB;apply pV;apply sFld pd (pK (by assumption));show bX;apply sFld wJ (yj (by assumption));show bX;apply oW;show Bi;apply hM;show sNil;apply gX;apply iB _ zu Bu;show bX;apply b6;apply sFld yM (Av (by assumption));show bX;apply b6;apply sFld zo (Bc (by assumption));show bX;show sNil;apply ja;apply iA;show qy;show bX;show sC rfl;apply oW;show MG;apply hM;show sNil;apply iy;apply pe;apply sFld wJ (yj (by assumption));show bX;apply sFld pd (pK (by assumption));show bX;show bX;apply pe;apply sFld x4 (y4 (by assumption));show bX;apply sFld pd (pK (by assumption));show bX;show bX
noncomputable abbrev RZ:Sp:=i5 K (gS Ad) (iF Ad) (fnX 3 8 D_Thinguu_inituu.1)
abbrev zq:=nB P w K mg base 8 "Thing" Ad.Thing ["self","parts","gaps"] (RZ K Ad)
abbrev CD:Stmt:=top 80
theorem GT:jn ["thing","name","part"] ["thing","name"] (iW CD):=by bv_decide
noncomputable def D_part_named:{G // mL "part_named" "part_named" CD 2 2 3 ["thing","name"] (λP w K mg base Ad=>uz P w K mg base Ad) G}:=by
 apply bZ;apply m4 GT rfl rfl;intro P w K mg base Ad f fd dV F T Bak cdv A outer s H vs Q E hr;have hu:=hr.units;show(_,(gH (nD gA rfl (jP (Bak.m0 hr ⋯ pass1 (pv 0))) (kQ 2 GT.nd) (gQ (gM (j4 (mR hu) (!2) (pv 1) (jB _)) (gQ (iX (pv 2)))
   j8))) (gQ (oX cp T.Bch rfl T.BdT %[gP|0]))),λPr D0 hD=>?_)
 try simp only[rd_K]
 with_reducible
  apply iy;apply kH 1000000;apply mY;apply iB _ o3 pf;show bX;show sNil;show kg;apply l0;apply iA;show s_eq;show iq;show bX;apply g6;show bX;show sNext;apply oW;show zE;apply hM;show sNil
noncomputable abbrev RD:Sp:=i5 K (gS Ad) (iF Ad) (fnX 2 3 D_part_named.1)
abbrev G9:=kR P w K mg base 3 "part_named" ["thing","name"] [] (RD K Ad)
abbrev C5:Stmt:=top 81
theorem G0:jn ["thing","name","gap"] ["thing","name"] (iW C5):=by bv_decide
noncomputable def D_gap_named:{G // mL "gap_named" "gap_named" C5 2 2 3 ["thing","name"] (λP w K mg base Ad=>vZ P w K mg base Ad) G}:=by
 apply bZ;apply m4 G0 rfl rfl;intro P w K mg base Ad f fd dV F T Bbo cdv A outer s H vs Q E hr;have hu:=hr.units;show(_,(gH (nD gA rfl (jP (Bbo.m0 hr ⋯ pass1 (pv 0))) (kQ 2 G0.nd) (gQ (gM (j4 (mR hu) (!2) (pv 1) (jB _)) (gQ (iX (pv 2)))
   j8))) (gQ (oX cp T.Bch rfl T.BdT %[gP|0]))),λPr D0 hD=>?_)
 try simp only[rd_K]
 with_reducible
  apply iy;apply kH 1000000;apply mY;apply iB _ o3 pf;show bX;show sNil;show kg;apply l0;apply iA;show s_eq;show iq;show bX;apply g6;show bX;show sNext;apply oW;show zE;apply hM;show sNil
noncomputable abbrev Q8:Sp:=i5 K (gS Ad) (iF Ad) (fnX 2 3 D_gap_named.1)
abbrev O3:=kR P w K mg base 3 "gap_named" ["thing","name"] [] (Q8 K Ad)
abbrev CM:Stmt:=top 82
theorem OU:jn ["rows","row"] ["rows","row"] (iW CM):=by bv_decide
noncomputable def D_with_row:{G // lD "with_row" "with_row" CM 0 2 2 ["rows","row"] oA G}:=by
 apply bZ;apply okN OU rfl rfl;intro P w K mg base Ad f fd dV F T c cdv A outer s H vs Q E hr;have hu:=hr.units;show(_,(gQ (iX (qq (qu (own:=["other"]) (cs:=[(1,"row")]) rfl (jP (pv 0)) (λ_ _ _ _=>(kQ 0 (show[("other" : Str),("row" : Str)].Nodup by decide))) (λ_ _ _ _=>qh) (λ_ _ _ _=>(sH (j4 (Jc (K:=K) rfl hu) (kY (rY (K:=K) rfl) (pv 0) jA) (kY (rY (K:=K) rfl) (pv 1) jA) (jB _)) (pv 1) (pv 0))) (pH rfl) ⋯ rfl ⋯ (qj rfl rfl rfl))))),λPr D0 hD=>?_);try simp only[rd_K]
 with_reducible
  apply g6;apply mV 1000000;apply mY;show bX;show kg;apply sv;apply iA;show s_eq;show iq;show iq;show bX;show bX
noncomputable abbrev Re:Sp:=i5 K (gS Ad) (iF Ad) (lp 2 2 D_with_row.1)
abbrev GJ:=kR P w K mg base 1 "with_row" ["rows","row"] [] (Re K Ad)
abbrev Cc:Stmt:=top 83
theorem BA:jn ["part","size","more","less"] ["part","size"] (iW Cc):=by bv_decide
noncomputable def D_is_off:{G // lD "is_off" "is_off" Cc 3 2 4 ["part","size"] (λP w K mg base Ad=>wx P w K mg base Ad/\wy P w K mg base Ad) G}:=by
 apply bZ;apply okN BA rfl rfl;intro P w K mg base Ad f fd dV F T ⟨BaH,Bay⟩ cdv A outer s H vs Q E hr;show(_,(gH (iE 2 BA.nd (Bay.ev hr ⋯ rfl passF %[pv 1,!0|0])) (gH (iE 3 BA.nd (Bay.ev hr ⋯ rfl passF %[!0,pv 1|0])) (gQ (iX (rT (BaH.ev hr ⋯ rfl passF %[!0,pv 2|0]) (sd (BaH.ev hr ⋯ rfl passF %[!0,pv 3|0]))))))),λPr D0 hD=>?_)
 try simp only[rd_K]
 with_reducible
  apply gX;apply jq;apply mx;apply kA;show sNil;apply gX;apply jq;apply kA;show j3;apply g6;apply uI;apply jq;apply kA;show j3;apply jq;apply kA;show j3
noncomputable abbrev Qs:Sp:=i5 K (gS Ad) (iF Ad) (lp 2 4 D_is_off.1)
abbrev Nm:=kR P w K mg base 4 "is_off" ["part","size"] [] (Qs K Ad)
abbrev De:Stmt:=top 84
theorem BK:jn ["thing","name","size","part","row"] ["thing","name","size"] (iW De):=by bv_decide
noncomputable def D_measured:{G // mL "measured" "measured" De 9 3 5 ["thing","name","size"] (λP w K mg base Ad=>zq P w K mg base Ad/\vZ P w K mg base Ad/\GJ P w K mg base Ad/\uz P w K mg base Ad/\Nm P w K mg base Ad/\G9 P w K mg base Ad) G}:=by
 apply bZ;apply m4 BK rfl rfl;intro P w K mg base Ad f fd dV F T ⟨BbE,Bbo,Bb1,Bak,BfI,Bbh⟩ cdv A outer s H vs Q E hr;show(_,(gH (iE 3 BK.nd (Bbh.ev hr ⋯ rfl pass1 %[pv 0,pv 1|0])) (gH (gM (nH (BfI.ev hr ⋯ rfl pass1 %[pv 3,pv 2|0])) (gQ (oX cp T.x_Off rfl T.m_Off %[gP|0]))
   j8) (gH (iE 4 BK.nd (jF %[!3,!3,!3,pv 2,n7 (v:=.ref _) rfl T.Bdu T.Bdv,!3|0])) (gQ (iX (BbE.ev hr ⋯ rfl pass1 %[Bb1.ev hr ⋯ rfl pass1 %[Bak.m0 hr ⋯ pass1 (pv 0),pv 4|0],Bbo.m0 hr ⋯ pass1 (pv 0)|0])))))),λPr D0 hD=>?_)
 try simp only[rd_K]
 with_reducible
  apply gX;apply jq;show nF;apply ja;apply sB;apply jq;show nF;apply oW;show HS;apply hM;show sNil;apply gX;apply ip;apply kA;apply kA;apply kA;apply mx;apply b6;show ml sM;apply kA;show sNil;apply g6;apply pL;show yb;decide;apply b6;apply jq;apply b6;apply iB _ o3 pf;show bX;show sNil;show j3;apply b6;apply iB _ o3 pf;show bX;show sNil;show sNil
noncomputable abbrev Rc:Sp:=i5 K (gS Ad) (iF Ad) (fnX 3 5 D_measured.1)
abbrev OB:=kR P w K mg base 10 "measured" ["thing","name","size"] [] (Rc K Ad)
abbrev Cn:Stmt:=top 85
theorem BD:jn ["thing","name","low","high","gap","row"] ["thing","name","low","high"] (iW Cn):=by bv_decide
noncomputable def D_changed:{G // mL "changed" "changed" Cn 9 4 6 ["thing","name","low","high"] (λP w K mg base Ad=>zq P w K mg base Ad/\GJ P w K mg base Ad/\vZ P w K mg base Ad/\uz P w K mg base Ad/\O3 P w K mg base Ad) G}:=by
 apply bZ;apply m4 BD rfl rfl;intro P w K mg base Ad f fd dV F T ⟨BbE,Bb1,Bbo,Bak,BdL⟩ cdv A outer s H vs Q E hr;show(_,(gH (iE 4 BD.nd (BdL.ev hr ⋯ rfl pass1 %[pv 0,pv 1|0])) (gH (iE 5 BD.nd (jF %[!4,!4,!4,pv 2,pv 3|0])) (gQ (iX (BbE.ev hr ⋯ rfl pass1 %[Bak.m0 hr ⋯ pass1 (pv 0),Bb1.ev hr ⋯ rfl pass1 %[Bbo.m0 hr ⋯ pass1 (pv 0),pv 5|0]|0]))))),λPr D0 hD=>?_)
 try simp only[rd_K]
 with_reducible
  apply gX;apply jq;show nF;apply gX;apply ip;apply kA;apply kA;apply kA;show nF;apply g6;apply pL;show yb;decide;apply b6;apply iB _ o3 pf;show bX;show sNil;apply b6;apply jq;apply b6;apply iB _ o3 pf;show bX;show sNil;show j3;show sNil
noncomputable abbrev QF:Sp:=i5 K (gS Ad) (iF Ad) (fnX 4 6 D_changed.1)
abbrev Oj:=kR P w K mg base 10 "changed" ["thing","name","low","high"] [] (QF K Ad)
abbrev Dr:Stmt:=top 89
theorem Qm:jn ["text"] ["text"] (iW Dr):=by bv_decide
noncomputable def D_is_written_whole:{G // lD "is_written_whole" "is_written_whole" Dr 0 1 1 ["text"] oA G}:=by
 apply bZ;apply okN Qm rfl rfl;intro P w K mg base Ad f fd dV F T c cdv A outer s H vs Q E hr;have hu:=hr.units;show(_,(gH (gM (PW.pt (lu (j4 uo (nJ qg rfl T.Bc2 pQ %[pv 0|0]) jA (jB _)) (pP (j4 vS (nJ qg rfl T.Bc2 pQ %[pv 0|0]) (n7 (v:=.int 60) rfl T.m_MOST_FIGURES T.r_MOST_FIGURES) (jB _))))) (gQ (iX jw))
   j8) (gH (gM (ot (nH (nJ (Gh rfl) rfl T.Bhb ER %[qq (qu (own:=["sign"]) (cs:=[]) rfl (EY (pv 0)) (λ_ _ _ _=>(kQ 0 (show[("sign" : Str)].Nodup by decide))) (λ_ _ _ _=>qh) (λ_ _ _ _=>(pJ (EZ (K:=K) rfl) (pv 0) (n7 (v:=.str "0123456789") rfl T.m_FIGURES T.r_FIGURES) (by with_unfolding_all rfl))) (pH rfl) ⋯ rfl ⋯ hcs0)|0]))) (gQ (iX jw))
   j8) (gQ (iX (rT (pJ (mR hu) (pv 0) gP (jB _)) (sd (pJ (qa hu) (!0) gP (jB _)))))))),λPr D0 hD=>?_)
 try simp only[rd_K]
 with_reducible
  apply ja;apply pj;apply iA;show qz;apply lV;show qV;show j3;show sC rfl;apply iA;show qz;apply lV;show qV;show j3;show sC rfl;apply g6;show sC rfl;apply ja;apply mw;apply sB;apply lV;show Hh;apply b6;apply mV 1000000;apply Fi;show bX;show kg;apply kh;show zQ;show bX;show sC rfl;show sNil;apply g6;show sC rfl;apply g6;apply uI;apply kh;show s_eq;show bX;show sC rfl;apply kh;show s_ne;show iq;show sC rfl
noncomputable abbrev R8:Sp:=i5 K (gS Ad) (iF Ad) (lp 1 1 D_is_written_whole.1)
abbrev Ql:=kR P w K mg base 1 "is_written_whole" ["text"] [] (R8 K Ad)
abbrev CC:Stmt:=top 90
theorem Pa:jn ["text"] ["text"] (iW CC):=by bv_decide
noncomputable def D_read_whole:{G // mL "read_whole" "read_whole" CC 1 1 1 ["text"] (λP w K mg base Ad=>Ql P w K mg base Ad) G}:=by
 apply bZ;apply m4 Pa rfl rfl;intro P w K mg base Ad f fd dV F T Bbp cdv A outer s H vs Q E hr;show(_,(gH (gM (PW.pt (lu (ot (nH (nJ sO rfl T.Bad oM %[pv 0,sh (v:=.ty "str") rfl T.BgH xX rfl|0]))) (pP (ot (nH (Bbp.ev hr ⋯ rfl pass1 %[pv 0|0])))))) (gQ (oX cp T.x_NoRow rfl T.m_NoRow %[gP|0]))
   j8) (gQ (iX (tL N0 rfl T.Bhd EO %[pv 0|0])))),λPr D0 hD=>?_)
 try simp only[rd_K]
 with_reducible
  apply ja;apply pj;apply mw;apply sB;apply lV;show sQ;apply mx;apply b6;show sC rfl;show sNil;apply mw;apply sB;apply jq;show j3;apply oW;show ux;apply hM;show sNil;apply g6;apply lV;show Qy;show j3
noncomputable abbrev RC:Sp:=i5 K (gS Ad) (iF Ad) (fnX 1 1 D_read_whole.1)
abbrev BS:=kR P w K mg base 2 "read_whole" ["text"] [] (RC K Ad)
abbrev DW:Stmt:=top 91
theorem G4:jn ["text","bottom"] ["text"] (iW DW):=by bv_decide
noncomputable def D_read_bottom:{G // mL "read_bottom" "read_bottom" DW 2 1 2 ["text"] (λP w K mg base Ad=>BS P w K mg base Ad) G}:=by
 apply bZ;apply m4 G4 rfl rfl;intro P w K mg base Ad f fd dV F T Bat cdv A outer s H vs Q E hr;show(_,(gH (iE 1 G4.nd (Bat.ev hr ⋯ rfl pass1 %[pv 0|0])) (gH (gM (j4 uo (pv 1) jA (jB _)) (gQ (oX cp T.x_NoRow rfl T.m_NoRow %[gP|0]))
   j8) (gQ (iX (pv 1))))),λPr D0 hD=>?_)
 try simp only[rd_K]
 with_reducible
  apply gX;apply jq;show j3;apply ja;apply iA;show qz;show bX;show sC rfl;apply oW;show ux;apply hM;show sNil;apply g6;show bX
noncomputable abbrev Rv:Sp:=i5 K (gS Ad) (iF Ad) (fnX 1 2 D_read_bottom.1)
abbrev Qa:=kR P w K mg base 3 "read_bottom" ["text"] [] (Rv K Ad)
abbrev DL:Stmt:=top 92
theorem yl:jn ["text","below","pieces","top","bottom"] ["text"] (iW DL):=by bv_decide
noncomputable def D_read_fraction:{G // mL "read_fraction" "read_fraction" DL 3 1 5 ["text"] (λP w K mg base Ad=>vF P w K mg base Ad/\Qa P w K mg base Ad/\BS P w K mg base Ad) G}:=by
 apply bZ;apply m4 yl rfl rfl;intro P w K mg base Ad f fd dV F T ⟨Bac,BcL,Bat⟩ cdv A outer s H vs Q E hr;have hu:=hr.units;show(_,(gH (gM (ot (nH (nJ sO rfl T.Bad oM %[pv 0,sh (v:=.ty "str") rfl T.BgH xX rfl|0]))) (gQ (oX cp T.x_NoRow rfl T.m_NoRow %[gP|0]))
   j8) (gH (iE 1 yl.nd (j7 jx PySem.F.slot_str_startswith PySem.F.type_str_startswith M3 (pv 0) %[gP|0])) (gH (iE 2 yl.nd (j7 jx PySem.F.slot_str_partition PySem.F.type_str_partition Js (sH (nH (pv 1)) (wD sl_W (pv 0) (v7 jA) v8) (pv 0)) %[gP|0])) (gH (iE 3 yl.nd (Bat.ev hr ⋯ rfl pass1 %[!2|0])) (gH (iE 4 yl.nd (sH (j4 (mR hu) (!2) gP (jB _)) jA (BcL.ev hr ⋯ rfl pass1 %[!2|0]))) (gH (gM (j4 (qa hu) (Bac.ev hr ⋯ rfl pass1 %[pv 3,pv 4|0]) jA (jB _)) (gQ (oX cp T.x_NoRow rfl T.m_NoRow %[gP|0]))
   j8) (gH (gM (PW.pt (tF (nH (pv 1)) (tJ (j4 (mR hu) (pv 3) jA (jB _))))) (gQ (oX cp T.x_NoRow rfl T.m_NoRow %[gP|0]))
   j8) (gQ (iX (jF %[sH (nH (pv 1)) (pq vP (pv 3)) (pv 3),pv 4|0])))))))))),λPr D0 hD=>?_)
 try simp only[rd_K]
 with_reducible
  apply ja;apply mw;apply sB;apply lV;show sQ;apply mx;apply b6;show sC rfl;show sNil;apply oW;show ux;apply hM;show sNil;apply gX;apply oK ⋯;show LU;show bX;apply hM;show sNil;apply gX;apply oK ⋯;show IC;apply sv;apply sB;show bX;apply rb;show bX;apply ph;show sC rfl;show v3;show bX;apply hM;show sNil;apply gX;apply jq;apply kA;show sNil;apply gX;apply sv;apply iA;show s_eq;show iq;show sC rfl;show sC rfl;apply jq;apply kA;show sNil;apply ja;apply iA;show s_ne;apply jq;show nF;show sC rfl;apply oW;show ux;apply hM;show sNil;apply ja;apply rf;apply sB;show bX;apply iA;show s_eq;show bX;show sC rfl;apply oW;show ux;apply hM;show sNil;apply rM;apply b6;apply sv;apply sB;show bX;apply ra;show wW λ_=>rfl;show bX;show bX;show j3
noncomputable abbrev R6:Sp:=i5 K (gS Ad) (iF Ad) (fnX 1 5 D_read_fraction.1)
abbrev Qj:=kR P w K mg base 4 "read_fraction" ["text"] [] (R6 K Ad)
abbrev C4:Stmt:=top 97
theorem OI:jn ["word"] ["word"] (iW C4):=by bv_decide
noncomputable def D_read_name:{G // mL "read_name" "read_name" C4 1 1 1 ["word"] (λP w K mg base Ad=>zC P w K mg base Ad) G}:=by
 apply bZ;apply m4 OI rfl rfl;intro P w K mg base Ad f fd dV F T Bax cdv A outer s H vs Q E hr;show(_,(gH (gM (ot (nH (Bax.ev hr ⋯ rfl pass1 %[pv 0|0]))) (gQ (oX cp T.x_NoRow rfl T.m_NoRow %[gP|0]))
   j8) (gQ (iX (pv 0)))),λPr D0 hD=>?_)
 try simp only[rd_K]
 with_reducible
  apply ja;apply mw;apply sB;apply jq;show j3;apply oW;show ux;apply hM;show sNil;apply g6;show bX
noncomputable abbrev Q7:Sp:=i5 K (gS Ad) (iF Ad) (fnX 1 1 D_read_name.1)
abbrev O2:=kR P w K mg base 2 "read_name" ["word"] [] (Q7 K Ad)
abbrev C3:Stmt:=top 98
theorem OH:jn ["kind","word"] ["kind","word"] (iW C3):=by bv_decide
noncomputable def D_read_word:{G // mL "read_word" "read_word" C3 4 2 2 ["kind","word"] (λP w K mg base Ad=>Qj P w K mg base Ad/\BS P w K mg base Ad/\O2 P w K mg base Ad) G}:=by
 apply bZ;apply m4 OH rfl rfl;intro P w K mg base Ad f fd dV F T ⟨Bb9,Bat,BdM⟩ cdv A outer s H vs Q E hr;have hu:=hr.units;show(_,(gH (gM (j4 (mR hu) (pv 0) gP (jB _)) (gQ (iX (BdM.ev hr ⋯ rfl pass1 %[pv 1|0])))
   j8) (gH (gM (j4 (mR hu) (pv 0) gP (jB _)) (gQ (iX (Bat.ev hr ⋯ rfl pass1 %[pv 1|0])))
   j8) (gH (gM (PW.pt (tF (j4 (mR hu) (pv 0) gP (jB _)) (tJ (j4 (mR hu) (pv 1) (n7 (v:=.str "-") rfl T.m_LACKING T.r_LACKING) (jB _))))) (gQ (iX nP))
   j8) (gQ (iX (Bb9.ev hr ⋯ rfl pass1 %[pv 1|0])))))),λPr D0 hD=>?_)
 try simp only[rd_K]
 with_reducible
  apply ja;apply iA;show s_eq;show bX;show sC rfl;apply g6;apply jq;show j3;apply ja;apply iA;show s_eq;show bX;show sC rfl;apply g6;apply jq;show j3;apply ja;apply rf;apply iA;show s_eq;show bX;show sC rfl;apply iA;show s_eq;show bX;show sC rfl;apply g6;show sC rfl;apply g6;apply jq;show j3
noncomputable abbrev Q6:Sp:=i5 K (gS Ad) (iF Ad) (fnX 2 2 D_read_word.1)
abbrev O1:=kR P w K mg base 5 "read_word" ["kind","word"] [] (Q6 K Ad)
abbrev Dd:Stmt:=top 99
theorem BJ:jn ["row","words","form"] ["row"] (iW Dd):=by bv_decide
noncomputable def D_read_row:{G // mL "read_row" "read_row" Dd 5 1 3 ["row"] (λP w K mg base Ad=>O1 P w K mg base Ad) G}:=by
 apply bZ;apply m4 BJ rfl rfl;intro P w K mg base Ad f fd dV F T BdN cdv A outer s H vs Q E hr;have hu:=hr.units;show(_,(gH (gM (ot (nH (nJ sO rfl T.Bad oM %[pv 0,sh (v:=.ty "str") rfl T.BgH xX rfl|0]))) (gQ (oX cp T.x_NoRow rfl T.m_NoRow %[gP|0]))
   j8) (gH (iE 1 BJ.nd (j7 jx PySem.F.slot_str_split PySem.F.type_str_split LQ (pv 0) %[gP|0])) (gH (iE 2 BJ.nd (Jg (D:=AA) ⋯ (n7 (v:=.ref _) rfl T.m_FORMS T.r_FORMS) (!1) ⟨rfl,rfl,rfl,rfl⟩)) (gH (gM (PW.pt (lu (j4 qr (pv 2) nP (jB _)) (pP (j4 (qa hu) (nJ qg rfl T.Bc2 pQ %[pv 1|0]) (gR nQ (nJ qg rfl T.Bc2 pQ %[pv 2|0]) jA) (jB _))))) (gQ (oX cp T.x_NoRow rfl T.m_NoRow %[gP|0]))
   j8) (gQ (iX (gR nQ (lO %[!1|0]) (qq (LK (own:=["kind","word"]) (cs:=[]) rfl rfl (JX rfl T.Bhe EN %[pv 2,wD sl_W (pv 1) (v7 jA) v8|0]) (λ_ _ _ _=>(ur (K:=K) (n:=2) rfl rfl (qc (kQ 0 (show[("kind" : Str),("word" : Str)].Nodup by decide) (hf:=m1 rfl)) (qc (kQ 1 (show[("kind" : Str),("word" : Str)].Nodup by decide) (hf:=m1 rfl)) uq)))) (λ_ _ _ _=>qh) (λ_ _ _ _=>(BdN.ev hr ⋯ rfl passC %[pv 0,pv 1|0])) (pH rfl) ⋯ rfl ⋯ hcs0))))))))),λPr D0 hD=>?_)
 try simp only[rd_K]
 with_reducible
  apply ja;apply mw;apply sB;apply lV;show sQ;apply mx;apply b6;show sC rfl;show sNil;apply oW;show ux;apply hM;show sNil;apply gX;apply oK ⋯;show Jv;show bX;apply hM;show sNil;apply gX;apply xk 16 ⟨_,FQ,Txt.q_FORMS (by assumption)⟩;show ml FQ;show iq;apply ja;apply pj;apply iA;show qy;show bX;show sC rfl;apply iA;show s_ne;apply lV;show qV;show j3;apply kh;show nW;apply lV;show qV;show j3;show sC rfl;apply oW;show ux;apply hM;show sNil;apply g6;apply kh;show nW;apply jd;apply kA;show sNil;apply mV 1000000;apply MV;apply mx;apply b6;apply rb;show bX;apply ph;show sC rfl;show v3;show sNil;apply oS;apply qN;show kg;apply qN;show kg;show gsNil;apply jq;show nF
noncomputable abbrev Rb:Sp:=i5 K (gS Ad) (iF Ad) (fnX 1 3 D_read_row.1)
abbrev OA:=kR P w K mg base 6 "read_row" ["row"] [] (Rb K Ad)
abbrev CB:Stmt:=top 100
theorem O9:jn ["bound"] ["bound"] (iW CB):=by bv_decide
noncomputable def D_show_bound:{G // lD "show_bound" "show_bound" CB 1 1 1 ["bound"] (λP w K mg base Ad=>BP P w K mg base Ad) G}:=by
 apply bZ;apply okN O9 rfl rfl;intro P w K mg base Ad f fd dV F T Baf cdv A outer s H vs Q E hr;show(_,(gQ (iX (sH (j4 qr (pv 0) nP (jB _)) (n7 (v:=.str "-") rfl T.m_LACKING T.r_LACKING) (Baf.ev hr ⋯ rfl passF %[pv 0|0])))),λPr D0 hD=>?_);try simp only[rd_K]
 with_reducible
  apply g6;apply sv;apply iA;show qy;show bX;show sC rfl;show sC rfl;apply jq;show j3
noncomputable abbrev RB:Sp:=i5 K (gS Ad) (iF Ad) (lp 1 1 D_show_bound.1)
abbrev PN:=kR P w K mg base 2 "show_bound" ["bound"] [] (RB K Ad)
abbrev C0:Stmt:=top 101
theorem GZ:jn ["step","name"] ["step"] (iW C0):=by bv_decide
noncomputable def D_show_step:{G // lD "show_step" "show_step" C0 0 1 2 ["step"] oA G}:=by
 apply bZ;apply okN GZ rfl rfl;intro P w K mg base Ad f fd dV F T c cdv A outer s H vs Q E hr;show(_,(gH (iE 1 GZ.nd (!0)) (gQ (iX (sH (nH (!0)) (pv 1) (AM (sJ gP (sJ (vw (pv 1)) Ax))))))),λPr D0 hD=>?_)
 try simp only[rd_K]
 with_reducible
  apply gX;show iq;apply g6;apply sv;apply sB;show iq;show bX;apply rO;apply sI;show sC rfl;apply sI;apply ra;show vI;show bX;show AR
noncomputable abbrev Q5:Sp:=i5 K (gS Ad) (iF Ad) (lp 1 2 D_show_step.1)
abbrev OZ:=kR P w K mg base 1 "show_step" ["step"] [] (Q5 K Ad)
abbrev CZ:Stmt:=top 102
theorem OG:jn ["ring"] ["ring"] (iW CZ):=by bv_decide
noncomputable def D_show_ring:{G // lD "show_ring" "show_ring" CZ 1 1 1 ["ring"] (λP w K mg base Ad=>OZ P w K mg base Ad) G}:=by
 apply bZ;apply okN OG rfl rfl;intro P w K mg base Ad f fd dV F T BdO cdv A outer s H vs Q E hr;show(_,(gH (gM (j4 qr (pv 0) nP (jB _)) (gQ (iX gP))
   j8) (gQ (iX (j7 jx PySem.F.slot_str_join PySem.F.type_str_join AO gP %[qq (qu (own:=["step"]) (cs:=[]) rfl (jP (pv 0)) (λ_ _ _ _=>(kQ 0 (show[("step" : Str)].Nodup by decide))) (λ_ _ _ _=>qh) (λ_ _ _ _=>(BdO.ev hr ⋯ rfl passF %[pv 0|0])) (pH rfl) ⋯ rfl ⋯ hcs0)|0])))),λPr D0 hD=>?_)
 try simp only[rd_K]
 with_reducible
  apply ja;apply iA;show qy;show bX;show sC rfl;apply g6;show sC rfl;apply g6;apply oK ⋯;show Ar;show sC rfl;apply b6;apply mV 1000000;apply mY;show bX;show kg;apply jq;show j3;show sNil
noncomputable abbrev Q4:Sp:=i5 K (gS Ad) (iF Ad) (lp 1 1 D_show_ring.1)
abbrev O0:=kR P w K mg base 2 "show_ring" ["ring"] [] (Q4 K Ad)
abbrev CA:Stmt:=top 103
theorem zG:jn ["row","name","slack","stop"] ["row"] (iW CA):=by bv_decide
noncomputable def D_show_share:{G // lD "show_share" "show_share" CA 1 1 4 ["row"] (λP w K mg base Ad=>BP P w K mg base Ad) G}:=by
 apply bZ;apply okN zG rfl rfl;intro P w K mg base Ad f fd dV F T Baf cdv A outer s H vs Q E hr;show(_,(gH (iE 1 zG.nd (!0)) (gH (iE 2 zG.nd (Baf.ev hr ⋯ rfl passF %[!0|0])) (gH (iE 3 zG.nd (kY ix_U (!0) (pq vP jA))) (gQ (iX (AM (sJ (vw (pv 1)) (sJ gP (sJ (vw (pv 2)) (sJ gP (sJ (vw (pv 3)) Ax))))))))))),λPr D0 hD=>?_)
 try simp only[rd_K]
 with_reducible
  apply gX;show iq;apply gX;apply jq;apply kA;show sNil;apply gX;apply kh;show s_ix;show iq;apply ra;show wW λ_=>rfl;show sC rfl;apply g6;apply rO;apply sI;apply ra;show vI;show bX;apply sI;show sC rfl;apply sI;apply ra;show vI;show bX;apply sI;show sC rfl;apply sI;apply ra;show vI;show bX;show AR
noncomputable abbrev RA:Sp:=i5 K (gS Ad) (iF Ad) (lp 1 4 D_show_share.1)
abbrev PM:=kR P w K mg base 2 "show_share" ["row"] [] (RA K Ad)
abbrev DK:Stmt:=inClass (top 104) 0
theorem P2:jn ["self"] ["self"] (iW DK):=by bv_decide
noncomputable def D_Deskuu_inituu:{G // mL "__init__" "Desk.__init__" DK 9 1 1 ["self"] (λP w K mg base Ad=>zq P w K mg base Ad/\Lq P w K mg base Ad) G}:=by
 apply bZ;apply m4 P2 rfl rfl;intro P w K mg base Ad f fd dV F T ⟨BbE,k_Book⟩ cdv A outer s H vs Q E hr;show(_,(gH (m5 (pv 0) (k_Book.ev hr ⋯ rfl pass1 %[lO pS|0]) rfl) (gQ (m5 (pv 0) (BbE.ev hr ⋯ rfl pass1 %[lO pS,lO pS|0]) rfl))),λPr D0 hD=>?_)
 try simp only[rd_K]
 with_reducible
  apply iy;apply iV vm (we (by assumption));show bX;apply pL;show K5;decide;apply b6;apply jd;show sNil;show sNil;apply iV qv (qQ (by assumption));show bX;apply pL;show yb;decide;apply b6;apply jd;show sNil;apply b6;apply jd;show sNil;show sNil
noncomputable abbrev R5:Sp:=i5 K (gS Ad) (iF Ad) (fnX 1 1 D_Deskuu_inituu.1)
abbrev FF:=nB P w K mg base 10 "Desk" Ad.Desk ["self"] (R5 K Ad)
abbrev DV:Stmt:=inClass (top 104) 3
theorem Pw:jn ["self","first","rest"] ["self","first","rest"] (iW DV):=by bv_decide
noncomputable def D_Desk_answer:{G // mL "answer" "Desk.answer" DV 7 3 3 ["self","first","rest"] (λP w K mg base Ad=>BP P w K mg base Ad/\G9 P w K mg base Ad/\MM P w K mg base Ad/\PM P w K mg base Ad/\FE P w K mg base Ad/\O0 P w K mg base Ad/\KB P w K mg base Ad/\Kd P w K mg base Ad/\PN P w K mg base Ad) G}:=by
 apply bZ;apply m4 Pw rfl rfl;intro P w K mg base Ad f fd dV F T ⟨Baf,Bbh,Bge,Bde,Bfx,BdP,m_ring,m_gap,Bdf⟩ cdv A outer s H vs Q E hr;have hu:=hr.units;show(_,(gH (gM (j4 (mR hu) (pv 1) gP (jB _)) (gQ (iX (sH (j4 qr (m_ring.m0 hr ⋯ pass1 (jg (pv 0) rfl)) nP (jB _)) gP gP)))
   j8) (gH (gM (j4 (mR hu) (pv 1) gP (jB _)) (gQ (iX (j7 jx PySem.F.slot_str_join PySem.F.type_str_join AO gP %[qq (qu (own:=["bound"]) (cs:=[]) rfl (jP (m_gap.m hr ⋯ pass1 (jg (pv 0) rfl) %[!2,!2|0])) (λ_ _ _ _=>(kQ 0 (show[("bound" : Str)].Nodup by decide))) (λ_ _ _ _=>qh) (λ_ _ _ _=>(Bdf.ev hr ⋯ rfl passF %[pv 0|0])) (pH rfl) ⋯ rfl ⋯ hcs0)|0])))
   j8) (gH (gM (j4 (mR hu) (pv 1) gP (jB _)) (gQ (iX (BdP.ev hr ⋯ rfl pass1 %[m_ring.m0 hr ⋯ pass1 (jg (pv 0) rfl)|0])))
   j8) (gH (gM (j4 (mR hu) (pv 1) gP (jB _)) (gQ (iX (Baf.ev hr ⋯ rfl pass1 %[Bfx.m hr ⋯ pass1 (jg (pv 0) rfl) %[!2|0]|0])))
   j8) (gH (gM (j4 (mR hu) (pv 1) gP (jB _)) (gQ (iX (j7 jx PySem.F.slot_str_join PySem.F.type_str_join AO gP %[qq (qu (own:=["row"]) (cs:=[]) rfl (jP (Bge.ev hr ⋯ rfl pass1 %[jg (pv 0) rfl|0])) (λ_ _ _ _=>(kQ 0 (show[("row" : Str)].Nodup by decide))) (λ_ _ _ _=>qh) (λ_ _ _ _=>(Bde.ev hr ⋯ rfl passF %[pv 0|0])) (pH rfl) ⋯ rfl ⋯ hcs0)|0])))
   j8) (gQ (iX (Baf.ev hr ⋯ rfl pass1 %[kY ix_U (Bbh.ev hr ⋯ rfl pass1 %[jg (pv 0) rfl,!2|0]) jA|0])))))))),λPr D0 hD=>?_)
 try simp only[rd_K]
 with_reducible
  apply ja;apply iA;show s_eq;show bX;show sC rfl;apply g6;apply sv;apply iA;show qy;apply iB _ qt qP;apply sFld vm (we (by assumption));show bX;show sNil;show sC rfl;show sC rfl;show sC rfl;apply ja;apply iA;show s_eq;show bX;show sC rfl;apply g6;apply oK ⋯;show Ar;show sC rfl;apply b6;apply mV 1000000;apply mY;apply iB _ qt qP;apply sFld vm (we (by assumption));show bX;apply kA;apply kA;show sNil;show kg;apply EC;decide;show j3;show sNil;apply ja;apply iA;show s_eq;show bX;show sC rfl;apply g6;apply jq;apply b6;apply iB _ qt qP;apply sFld vm (we (by assumption));show bX;show sNil;show sNil;apply ja;apply iA;show s_eq;show bX;show sC rfl;apply g6;apply jq;apply b6;apply iB _ o3 pf;apply sFld qv (qQ (by assumption));show bX;apply kA;show sNil;show sNil;apply ja;apply iA;show s_eq;show bX;show sC rfl;apply g6;apply oK ⋯;show Ar;show sC rfl;apply b6;apply mV 1000000;apply mY;apply jq;apply b6;apply sFld qv (qQ (by assumption));show bX;show sNil;show kg;apply EC;decide;show j3;show sNil;apply g6;apply jq;apply b6;apply kh;show s_ix;apply jq;apply b6;apply sFld qv (qQ (by assumption));show bX;apply kA;show sNil;show sC rfl;show sNil
noncomputable abbrev Ru:Sp:=i5 K (gS Ad) (iF Ad) (fnX 3 3 D_Desk_answer.1)
abbrev N7:=km P w K mg base 8 "answer" (vn Ad) ["self","first","rest"] (Ru K Ad)
abbrev DU:Stmt:=inClass (top 104) 2
theorem Pu:jn ["self","first","rest"] ["self","first","rest"] (iW DU):=by bv_decide
noncomputable def D_Desk_change:{G // mL "change" "Desk.change" DU 10 3 3 ["self","first","rest"] (λP w K mg base Ad=>Kc P w K mg base Ad/\KD P w K mg base Ad/\zq P w K mg base Ad/\vZ P w K mg base Ad/\uz P w K mg base Ad/\OB P w K mg base Ad/\Oj P w K mg base Ad) G}:=by
 apply bZ;apply m4 Pu rfl rfl;intro P w K mg base Ad f fd dV F T ⟨m_put,m_drop,BbE,Bbo,Bak,Bem,Be3⟩ cdv A outer s H vs Q E hr;have hu:=hr.units;show(_,(gQ (gM (j4 (mR hu) (pv 1) gP (jB _)) (gQ (oh (m_put.m hr ⋯ pass1 (jg (pv 0) rfl) %[tL BH rfl T.Bec wu %[pv 2|0]|0]))) (gQ (gM (j4 (mR hu) (pv 1) gP (jB _)) (gQ (oh (m_drop.m hr ⋯ pass1 (jg (pv 0) rfl) %[!2|0]))) (gQ (gM (j4 (mR hu) (pv 1) gP (jB _)) (gQ (m5 (pv 0) (BbE.ev hr ⋯ rfl pass1 %[gR nQ (Bak.m0 hr ⋯ pass1 (jg (pv 0) rfl)) (lO %[tL BH rfl T.Bec wu %[pv 2|0]|0]),Bbo.m0 hr ⋯ pass1 (jg (pv 0) rfl)|0]) rfl)) (gQ (gM (j4 (mR hu) (pv 1) gP (jB _)) (gQ (m5 (pv 0) (BbE.ev hr ⋯ rfl pass1 %[Bak.m0 hr ⋯ pass1 (jg (pv 0) rfl),gR nQ (Bbo.m0 hr ⋯ pass1 (jg (pv 0) rfl)) (lO %[tL BH rfl T.Bec wu %[pv 2|0]|0])|0]) rfl)) (gQ (gM (j4 (mR hu) (pv 1) gP (jB _)) (gQ (m5 (pv 0) (Bem.ev hr ⋯ rfl pass1 %[jg (pv 0) rfl,!2,!2|0]) rfl)) (gQ (m5 (pv 0) (Be3.ev hr ⋯ rfl pass1 %[jg (pv 0) rfl,!2,!2,!2|0]) rfl)))))))))))),λPr D0 hD=>?_)
 try simp only[rd_K]
 with_reducible
  apply l0;apply iA;show s_eq;show bX;show sC rfl;apply ma;apply iB _ qt qP;apply sFld vm (we (by assumption));show bX;apply b6;apply lV;show B5;show j3;show sNil;apply l0;apply iA;show s_eq;show bX;show sC rfl;apply ma;apply iB _ qt qP;apply sFld vm (we (by assumption));show bX;apply kA;show sNil;apply l0;apply iA;show s_eq;show bX;show sC rfl;apply iV qv (qQ (by assumption));show bX;apply pL;show yb;decide;apply b6;apply kh;show nW;apply iB _ o3 pf;apply sFld qv (qQ (by assumption));show bX;show sNil;apply jd;apply b6;apply lV;show B5;show j3;show sNil;apply b6;apply iB _ o3 pf;apply sFld qv (qQ (by assumption));show bX;show sNil;show sNil;apply l0;apply iA;show s_eq;show bX;show sC rfl;apply iV qv (qQ (by assumption));show bX;apply pL;show yb;decide;apply b6;apply iB _ o3 pf;apply sFld qv (qQ (by assumption));show bX;show sNil;apply b6;apply kh;show nW;apply iB _ o3 pf;apply sFld qv (qQ (by assumption));show bX;show sNil;apply jd;apply b6;apply lV;show B5;show j3;show sNil;show sNil;apply l0;apply iA;show s_eq;show bX;show sC rfl;apply iV qv (qQ (by assumption));show bX;apply jq;apply b6;apply sFld qv (qQ (by assumption));show bX;apply kA;apply kA;show sNil;apply iV qv (qQ (by assumption));show bX;apply jq;apply b6;apply sFld qv (qQ (by assumption));show bX;apply kA;apply kA;apply kA;show sNil
noncomputable abbrev Rt:Sp:=i5 K (gS Ad) (iF Ad) (fnX 3 3 D_Desk_change.1)
abbrev N6:=km P w K mg base 11 "change" (vn Ad) ["self","first","rest"] (Rt K Ad)
abbrev Da:Stmt:=inClass (top 104) 1
theorem GO:jn ["self","row","words"] ["self","row"] (iW Da):=by bv_decide
noncomputable def D_Desk_say:{G // mL "say" "Desk.say" Da 11 2 3 ["self","row"] (λP w K mg base Ad=>N7 P w K mg base Ad/\N6 P w K mg base Ad/\OA P w K mg base Ad) G}:=by
 apply bZ;apply m4 GO rfl rfl;intro P w K mg base Ad f fd dV F T ⟨m_answer,m_change,Ben⟩ cdv A outer s H vs Q E hr;show(_,(gH (iE 2 GO.nd (Ben.ev hr ⋯ rfl pass1 %[pv 1|0])) (gH (gM (j4 Az (!2) (n7 (v:=.ref _) rfl T.m_CHANGES T.r_CHANGES) (by with_unfolding_all rfl)) (gH (oh (m_change.m hr ⋯ pass1 (pv 0) %[!2,wD sl_W (pv 2) (v7 jA) v8|0])) (gQ (iX gP)))
   j8) (gQ (iX (m_answer.m hr ⋯ pass1 (pv 0) %[!2,wD sl_W (pv 2) (v7 jA) v8|0]))))),λPr D0 hD=>?_)
 try simp only[rd_K]
 with_reducible
  apply gX;apply jq;show j3;apply ja;apply iA;show zQ;show iq;show ml NM;apply sW;apply iB _ vk v9;show bX;apply kA;apply b6;apply rb;show bX;apply ph;show sC rfl;show v3;show sNil;apply g6;show sC rfl;apply g6;apply iB _ vk v9;show bX;apply kA;apply b6;apply rb;show bX;apply ph;show sC rfl;show v3;show sNil
noncomputable abbrev Hl:Sp:=i5 K (gS Ad) (iF Ad) (fnX 2 3 D_Desk_say.1)
abbrev vX:=km P w K mg base 12 "say" (vn Ad) ["self","row"] (Hl K Ad)
abbrev Cz:Stmt:=top 106
theorem tK:jn ["_law_cell","_law_some"] ["_law_cell"] (iW Cz):=by bv_decide
noncomputable def D_law_no_row:{G:Int->L2.St->CH->jE // ∀{P:gN}{w:ik}{K:bY}{mg:Str->Option bV}{base:Heap}{Ad:nR}{f:Addr}{fd:iC}{dV:bV}(F:"_law_no_row"∘Cz)(T:Txt K mg Ad),1∘["_law_cell"]∘(yD K (gS Ad) (iF Ad) 52 2 G)}:=by
 apply bZ;intro P w K mg base Ad f fd dV F T;show F.okn tK (λvs H Q E h=>by let(_,_,_,_,_,_,rfl,_):=h;rfl) (λcdv A outer s H vs Q E hr h=>?_);let(c,r,Pr,D0,ι,h0,rfl,er,hR,p):=h;show(_,(gH (iE 1 tK.nd (lO %[gP,gP,gP,gP,gP,gP,gP,gP|0])) (gH (iE 1 tK.nd (gR nQ (pv 1) (lO %[gP,gP,gP,gP,gP|0]))) (gH (iE 1 tK.nd (gR nQ (pv 1) (lO %[gP,gP,gP,gP|0]))) (gH (oh (j7 gz gE gD qf (pv 1) %[gP|0] (hs:=by show p4 rfl))) (gH (iE 1 tK.nd (gR nQ (pv 1) (lO %[gP,gP,gP,gP,gP|0]))) (gH (iE 1 tK.nd (gR nQ (pv 1) (lO %[gP,gP,gP,gP,gP,gP,gP|0]))) (gH (iE 1 tK.nd (gR nQ (pv 1) (lO %[gP,gP,gP,gP,gP,gP,gP,gP|0]))) (gH (iE 1 tK.nd (gR nQ (pv 1) (lO (vD gP (vD gP (vD gP (vD gP (vD gP (vD nP (IZ %[jw,lO %[gP|0],jF %[gP|0]|0])))))))))) (gH (iE 1 tK.nd (gR nQ (pv 1) (lO %[gR nQ (gR nQ gP (gR qO gP jA)) gP,gR nQ (gR nQ gP (gR qO gP jA)) gP,gP,gP|0]))) (gQ (iX (kY ix_U (pv 1) (gR sL (pv 0) jA))))))))))))),?_)
 try simp only[rd_K]
 show Fk (N:=["_law_cell","_law_some"]) rfl hR p ?_
 with_reducible
  apply mj;apply mP (lC ⋯);apply Sm.p;apply jd;apply hM;apply hM;apply hM;apply hM;apply hM;apply hM;apply hM;apply hM;show sNil;apply mj;apply mP (lC ⋯);apply oY;show nW;apply Sm.p;show bX;apply Sm.p;apply jd;apply hM;apply hM;apply hM;apply hM;apply hM;show sNil;apply mj;apply mP (lC ⋯);apply oY;show nW;apply Sm.p;show bX;apply Sm.p;apply jd;apply hM;apply hM;apply hM;apply hM;show sNil;apply mj;apply qK;apply Sm.p;apply oK ⋯;show qe;show bX;apply hM;show sNil;apply mj;apply mP (lC ⋯);apply oY;show nW;apply Sm.p;show bX;apply Sm.p;apply jd;apply hM;apply hM;apply hM;apply hM;apply hM;show sNil;apply mj;apply mP (lC ⋯);apply oY;show nW;apply Sm.p;show bX;apply Sm.p;apply jd;apply hM;apply hM;apply hM;apply hM;apply hM;apply hM;apply hM;show sNil;apply mj;apply mP (lC ⋯);apply oY;show nW;apply Sm.p;show bX;apply Sm.p;apply jd;apply hM;apply hM;apply hM;apply hM;apply hM;apply hM;apply hM;apply hM;show sNil;apply mj;apply mP (lC ⋯);apply oY;show nW;apply Sm.p;show bX;apply Sm.p;apply jd;apply hM;apply hM;apply hM;apply hM;apply hM;apply b6;show sC rfl;apply qG;apply b6;show sC rfl;apply b6;apply jd;apply hM;show sNil;apply b6;apply ip;apply hM;show sNil;show sNil;apply mj;apply mP (lC ⋯);apply oY;show nW;apply Sm.p;show bX;apply Sm.p;apply jd;apply b6;apply kh;show nW;apply kh;show nW;show sC rfl;apply kh;show rp;show sC rfl;show sC rfl;show sC rfl;apply b6;apply kh;show nW;apply kh;show nW;show sC rfl;apply kh;show rp;show sC rfl;show sC rfl;show sC rfl;apply hM;apply hM;show sNil;apply xn;apply oY;show s_ix;apply Sm.p;show bX;show uO (λ_ h=>h) ⋯ (by assumption)
noncomputable abbrev QU:Sp:=yD K (gS Ad) (iF Ad) 52 2 D_law_no_row.1
abbrev PQ:=kR P w K mg base 1 "_law_no_row" ["_law_cell"] [] (QU K Ad)
abbrev Cm:Stmt:=top 107
theorem rA:jn ["_law_cell","_law_some"] ["_law_cell"] (iW Cm):=by bv_decide
noncomputable def D_law_row:{G:Int->L2.St->CH->jE // ∀{P:gN}{w:ik}{K:bY}{mg:Str->Option bV}{base:Heap}{Ad:nR}{f:Addr}{fd:iC}{dV:bV}(F:"_law_row"∘Cm)(T:Txt K mg Ad),1∘["_law_cell"]∘(yD K (gS Ad) (iF Ad) 39 2 G)}:=by
 apply bZ;intro P w K mg base Ad f fd dV F T;show F.okn rA (λvs H Q E h=>by let(_,_,_,_,_,_,rfl,_):=h;rfl) (λcdv A outer s H vs Q E hr h=>?_);let(c,r,Pr,D0,ι,h0,rfl,er,hR,p):=h;show(_,(gH (iE 1 rA.nd (lO %[jF %[gP,gP|0],jF %[gP,gP|0],jF %[gP,gP|0],jF %[gP,gP|0]|0])) (gH (iE 1 rA.nd (gR nQ (pv 1) (lO %[jF %[gP,gP|0],jF %[gP,gP|0],jF %[gP,gP|0]|0]))) (gH (iE 1 rA.nd (gR nQ (pv 1) (lO %[jF %[gP,gP|0],jF %[gP,gP|0],jF %[gP,gP|0]|0]))) (gH (iE 1 rA.nd (gR nQ (pv 1) (lO %[jF %[gP,gP|0],jF %[gP,gP|0],jF %[gP,gP|0]|0]))) (gH (iE 1 rA.nd (gR nQ (pv 1) (lO %[jF %[gP,gP|0],jF %[gP,gP|0],jF %[gP,gP|0]|0]))) (gH (iE 1 rA.nd (gR nQ (pv 1) (lO %[jF %[gP,gP|0],jF %[gP,gP|0],jF %[gP,gP|0]|0]))) (gH (iE 1 rA.nd (gR nQ (pv 1) (lO %[jF %[gP,gP|0],jF %[gP,gP|0],jF %[gP,gP|0]|0]))) (gH (iE 1 rA.nd (gR nQ (pv 1) (lO %[jF %[gP,gP|0],jF %[gP,gP|0],jF %[gP,gP|0]|0]))) (gH (iE 1 rA.nd (gR nQ (pv 1) (lO %[jF %[gP,gP|0],jF %[gP,gP|0],jF %[gP,gP|0]|0]))) (gH (iE 1 rA.nd (gR nQ (pv 1) (lO %[jF %[gP,gP|0],jF %[gP,gP|0],jF %[gP,gP|0],jF %[gP,gP|0]|0]))) (gH (iE 1 rA.nd (gR nQ (pv 1) (lO %[jF %[gP,gP|0],jF %[gP,gP|0],jF %[gP,gP|0],jF %[gP,gP|0]|0]))) (gQ (iX (kY ix_U (gR nQ (pv 1) (lO %[jF %[gP,gP|0],jF %[gP,gP|0],jF %[gP,gP|0]|0])) (gR sL (pv 0) jA))))))))))))))),?_)
 try simp only[rd_K]
 show Fk (N:=["_law_cell","_law_some"]) rfl hR p ?_
 with_reducible
  apply mj;apply mP (lC ⋯);apply Sm.p;apply jd;apply b6;apply ip;apply hM;apply hM;show sNil;apply b6;apply ip;apply hM;apply hM;show sNil;apply b6;apply ip;apply hM;apply hM;show sNil;apply b6;apply ip;apply hM;apply hM;show sNil;show sNil;apply mj;apply mP (lC ⋯);apply oY;show nW;apply Sm.p;show bX;apply Sm.p;apply jd;apply b6;apply ip;apply hM;apply hM;show sNil;apply b6;apply ip;apply hM;apply hM;show sNil;apply b6;apply ip;apply hM;apply hM;show sNil;show sNil;apply mj;apply mP (lC ⋯);apply oY;show nW;apply Sm.p;show bX;apply Sm.p;apply jd;apply b6;apply ip;apply hM;apply hM;show sNil;apply b6;apply ip;apply hM;apply hM;show sNil;apply b6;apply ip;apply hM;apply hM;show sNil;show sNil;apply mj;apply mP (lC ⋯);apply oY;show nW;apply Sm.p;show bX;apply Sm.p;apply jd;apply b6;apply ip;apply hM;apply hM;show sNil;apply b6;apply ip;apply hM;apply hM;show sNil;apply b6;apply ip;apply hM;apply hM;show sNil;show sNil;apply mj;apply mP (lC ⋯);apply oY;show nW;apply Sm.p;show bX;apply Sm.p;apply jd;apply b6;apply ip;apply hM;apply hM;show sNil;apply b6;apply ip;apply hM;apply hM;show sNil;apply b6;apply ip;apply hM;apply hM;show sNil;show sNil;apply mj;apply mP (lC ⋯);apply oY;show nW;apply Sm.p;show bX;apply Sm.p;apply jd;apply b6;apply ip;apply hM;apply hM;show sNil;apply b6;apply ip;apply hM;apply hM;show sNil;apply b6;apply ip;apply hM;apply hM;show sNil;show sNil;apply mj;apply mP (lC ⋯);apply oY;show nW;apply Sm.p;show bX;apply Sm.p;apply jd;apply b6;apply ip;apply hM;apply hM;show sNil;apply b6;apply ip;apply hM;apply hM;show sNil;apply b6;apply ip;apply hM;apply hM;show sNil;show sNil;apply mj;apply mP (lC ⋯);apply oY;show nW;apply Sm.p;show bX;apply Sm.p;apply jd;apply b6;apply ip;apply hM;apply hM;show sNil;apply b6;apply ip;apply hM;apply hM;show sNil;apply b6;apply ip;apply hM;apply hM;show sNil;show sNil;apply mj;apply mP (lC ⋯);apply oY;show nW;apply Sm.p;show bX;apply Sm.p;apply jd;apply b6;apply ip;apply hM;apply hM;show sNil;apply b6;apply ip;apply hM;apply hM;show sNil;apply b6;apply ip;apply hM;apply hM;show sNil;show sNil;apply mj;apply mP (lC ⋯);apply oY;show nW;apply Sm.p;show bX;apply Sm.p;apply jd;apply b6;apply ip;apply hM;apply hM;show sNil;apply b6;apply ip;apply hM;apply hM;show sNil;apply b6;apply ip;apply hM;apply hM;show sNil;apply b6;apply ip;apply hM;apply hM;show sNil;show sNil;apply mj;apply mP (lC ⋯);apply oY;show nW;apply Sm.p;show bX;apply Sm.p;apply jd;apply b6;apply ip;apply hM;apply hM;show sNil;apply b6;apply ip;apply hM;apply hM;show sNil;apply b6;apply ip;apply hM;apply hM;show sNil;apply b6;apply ip;apply hM;apply hM;show sNil;show sNil;apply xn;apply oY;show s_ix;apply oY;show nW;apply Sm.p;show bX;apply Sm.p;apply jd;apply b6;apply ip;apply hM;apply hM;show sNil;apply b6;apply ip;apply hM;apply hM;show sNil;apply b6;apply ip;apply hM;apply hM;show sNil;show sNil;show uO (λ_ h=>h) ⋯ (by assumption)
noncomputable abbrev QE:Sp:=yD K (gS Ad) (iF Ad) 39 2 D_law_row.1
abbrev Oh:=kR P w K mg base 1 "_law_row" ["_law_cell"] [] (QE K Ad)
abbrev DT:Stmt:=top 108
theorem yh:jn ["_law_desk","_law_row_here","_law_caught","e","_law_words"] ["_law_desk","_law_row_here"] (iW DT):=by bv_decide
noncomputable def D_law_refused:{G // lD "_law_refused" "_law_refused" DT 12 2 5 ["_law_desk","_law_row_here"] (λP w K mg base Ad=>vX P w K mg base Ad) G}:=by
 apply bZ;apply okN yh rfl rfl;intro P w K mg base Ad f fd dV F T m_say cdv A outer s H vs Q E hr;have hu:=hr.units;show(_,(gH (iE 2 yh.nd nP) (gH (zj (i:=3) yh.nd rfl rfl (m_say.tr hr ⋯ (pv 0) %[pv 1|0]) rfl T.m_SlackError (λ_=>
   (gQ (iE 2 yh.nd (lO %[qS (K:=K) rfl rfl T.Bad oM %[pv 3,n7 (v:=.ref _) rfl T.m_NoRow rfl|0],qS (K:=K) rfl rfl T.Bad oM %[pv 3,n7 (v:=.ref _) rfl T.m_NoTie rfl|0],qS (K:=K) rfl rfl T.Bad oM %[pv 3,n7 (v:=.ref _) rfl T.BdT rfl|0],qS (K:=K) rfl rfl T.Bad oM %[pv 3,n7 (v:=.ref _) rfl T.Bgw rfl|0],qS (K:=K) rfl rfl T.Bad oM %[pv 3,n7 (v:=.ref _) rfl T.BfD rfl|0],qS (K:=K) rfl rfl T.Bad oM %[pv 3,n7 (v:=.ref _) rfl T.Bgx rfl|0],qS (K:=K) rfl rfl T.Bad oM %[pv 3,n7 (v:=.ref _) rfl T.BgI rfl|0],qS (K:=K) rfl rfl T.Bad oM %[pv 3,n7 (v:=.ref _) rfl T.BgJ rfl|0],qS (K:=K) rfl rfl T.Bad oM %[pv 3,n7 (v:=.ref _) rfl T.m_Off rfl|0],qS (K:=K) rfl rfl T.Bad oM %[pv 3,n7 (v:=.ref _) rfl T.m_NoFace rfl|0],qS (K:=K) rfl rfl T.Bad oM %[pv 3,n7 (v:=.ref _) rfl T.m_Impossible rfl|0],qS (K:=K) rfl rfl T.Bad oM %[pv 3,n7 (v:=.ref _) rfl T.m_Tight rfl|0],qS (K:=K) rfl rfl T.Bad oM %[pv 3,n7 (v:=.ref _) rfl T.m_NoNumber rfl|0],qS (K:=K) rfl rfl T.Bad oM %[pv 3,sh (v:=.ty "ValueError") rfl T.n_ValueError PF rfl|0]|0]))))) (gH (gM (PW.pt (lu (j4 qr (pv 2) nP (jB _)) (lu (j4 (qa hu) (j7 gz PySem.F.slot_list_count PySem.F.type_list_count LR (pv 2) %[jw|0]) jA (jB _)) (pP (ot (nH (!2))))))) (gQ (iX gP))
   j8) (gH (iE 4 yh.nd (lO %[gP,gP,gP,gP,gP,gP,gP,gP,gP,gP,gP,gP,gP|0])) (gQ (iX (kY ix_U (pv 4) (j7 gz PySem.F.slot_list_index PySem.F.type_list_index M4 (pv 2) %[jw|0])))))))),λPr D0 hD=>?_)
 try simp only[rd_K]
 with_reducible
  apply gX;show sC rfl;apply iy;apply yW hx (xJ (by assumption));apply zg vk v9;intro _;show bX;intro _;show j3;apply nK;apply jd;apply b6;apply lV;show qW 17 rfl hx tab (mW (by assumption)) (qR (by assumption)) (qM (by assumption));apply mx;apply b6;show ml MA;show sNil;apply b6;apply lV;show qW 17 rfl hx tab (mW (by assumption)) (qR (by assumption)) (qM (by assumption));apply mx;apply b6;show ml Mz;show sNil;apply b6;apply lV;show qW 17 rfl hx tab (mW (by assumption)) (qR (by assumption)) (qM (by assumption));apply mx;apply b6;show ml NO;show sNil;apply b6;apply lV;show qW 17 rfl hx tab (mW (by assumption)) (qR (by assumption)) (qM (by assumption));apply mx;apply b6;show ml NN;show sNil;apply b6;apply lV;show qW 17 rfl hx tab (mW (by assumption)) (qR (by assumption)) (qM (by assumption));apply mx;apply b6;show ml Mw;show sNil;apply b6;apply lV;show qW 17 rfl hx tab (mW (by assumption)) (qR (by assumption)) (qM (by assumption));apply mx;apply b6;show ml NQ;show sNil;apply b6;apply lV;show qW 17 rfl hx tab (mW (by assumption)) (qR (by assumption)) (qM (by assumption));apply mx;apply b6;show ml MB;show sNil;apply b6;apply lV;show qW 17 rfl hx tab (mW (by assumption)) (qR (by assumption)) (qM (by assumption));apply mx;apply b6;show ml MC;show sNil;apply b6;apply lV;show qW 17 rfl hx tab (mW (by assumption)) (qR (by assumption)) (qM (by assumption));apply mx;apply b6;show ml HQ;show sNil;apply b6;apply lV;show qW 17 rfl hx tab (mW (by assumption)) (qR (by assumption)) (qM (by assumption));apply mx;apply b6;show ml NP;show sNil;apply b6;apply lV;show qW 17 rfl hx tab (mW (by assumption)) (qR (by assumption)) (qM (by assumption));apply mx;apply b6;show ml Pz;show sNil;apply b6;apply lV;show qW 17 rfl hx tab (mW (by assumption)) (qR (by assumption)) (qM (by assumption));apply mx;apply b6;show ml My;show sNil;apply b6;apply lV;show qW 17 rfl hx tab (mW (by assumption)) (qR (by assumption)) (qM (by assumption));apply mx;apply b6;show ml Ox;show sNil;apply b6;apply lV;show qW 17 rfl hx tab (mW (by assumption)) (qR (by assumption)) (qM (by assumption));apply mx;apply b6;show sC rfl;show sNil;show sNil;show kg;apply ja;apply pj;apply iA;show qy;show bX;show sC rfl;apply pj;apply iA;show s_ne;apply oK ⋯;show Jw;show bX;apply b6;show sC rfl;show sNil;show sC rfl;apply mw;apply sB;show iq;apply g6;show sC rfl;apply gX;apply jd;apply hM;apply hM;apply hM;apply hM;apply hM;apply hM;apply hM;apply hM;apply hM;apply hM;apply hM;apply hM;apply hM;show sNil;apply g6;apply kh;show s_ix;show bX;apply oK ⋯;show LV;show bX;apply b6;show sC rfl;show sNil
noncomputable abbrev Rr:Sp:=i5 K (gS Ad) (iF Ad) (lp 2 5 D_law_refused.1)
abbrev G5:=kR P w K mg base 13 "_law_refused" ["_law_desk","_law_row_here"] [] (Rr K Ad)
abbrev Cy:Stmt:=top 109
theorem wM:jn ["_law_desk","_law_low","_law_chain","e","_law_ties","_law_ends"] ["_law_desk","_law_low"] (iW Cy):=by bv_decide
noncomputable def D_law_around:{G // lD "_law_around" "_law_around" Cy 12 2 6 ["_law_desk","_law_low"] (λP w K mg base Ad=>O4 P w K mg base Ad/\PU P w K mg base Ad/\vX P w K mg base Ad) G}:=by
 apply bZ;apply okN wM rfl rfl;intro P w K mg base Ad f fd dV F T ⟨BdR,Bdg,m_say⟩ cdv A outer s H vs Q E hr;have hu:=hr.units;show(_,(gH (iE 2 wM.nd nP) (gH (zj (i:=3) wM.nd rfl rfl (m_say.tr hr ⋯ (pv 0) %[gP|0]) rfl T.m_Impossible (λ_=>
   (gQ (iE 2 wM.nd (Bb (K:=K) rfl (pv 3) rfl))))) (gH (iE 4 wM.nd (lO %[jF %[gP,gP,gP,jF %[jA,jA|0],jF %[jA,jA|0]|0],jF %[gP,gP,gP,jF %[jA,jA|0],nP|0],jF %[gP,gP,gP,jF %[jA,jA|0],pv 1|0]|0])) (gH (gM (PW.pt (lu (ot (nH (nJ sO rfl T.Bad oM %[pv 2,sh (v:=.ty "list") rfl T.Bfs wg rfl|0]))) (pP (j4 (mR hu) (nJ qg rfl T.Bc2 pQ %[pv 2|0]) jA (jB _))))) (gQ (iX jw))
   j8) (gH (iE 5 wM.nd (Bdg.ev hr ⋯ rfl passF %[pv 4,pv 2|0])) (gQ (iX (rm (pJ wF (pv 5) nP (jB _)) (rm (pJ (mR hu) (!5) (!5) (jB _)) (sd (pJ uo (kY ix_U (BdR.ev hr ⋯ rfl passF %[pv 4,pv 2|0]) jA) jA (jB _)))))))))))),λPr D0 hD=>?_)
 try simp only[rd_K]
 with_reducible
  apply gX;show sC rfl;apply iy;apply yW uA (G8 (by assumption));apply zg vk v9;intro _;show bX;intro _;apply hM;show sNil;apply nK;apply An uA (GS (by assumption));show bX;show kg;apply gX;apply jd;apply b6;apply ip;apply hM;apply hM;apply hM;apply b6;apply ip;apply qG;apply qG;show sNil;apply b6;apply ip;apply qG;apply qG;show sNil;show sNil;apply b6;apply ip;apply hM;apply hM;apply hM;apply b6;apply ip;apply qG;apply qG;show sNil;apply b6;show sC rfl;show sNil;apply b6;apply ip;apply hM;apply hM;apply hM;apply b6;apply ip;apply qG;apply qG;show sNil;show j3;show sNil;apply ja;apply pj;apply mw;apply sB;apply lV;show sQ;apply mx;apply b6;show sC rfl;show sNil;apply iA;show s_eq;apply lV;show qV;show j3;show sC rfl;apply g6;show sC rfl;apply gX;apply jq;show nF;apply g6;apply nq;apply kh;show wX;show bX;show sC rfl;apply nq;apply kh;show s_eq;show iq;show iq;apply kh;show qz;apply kh;show s_ix;apply jq;show nF;show sC rfl;show sC rfl
noncomputable abbrev Hn:Sp:=i5 K (gS Ad) (iF Ad) (lp 2 6 D_law_around.1)
abbrev Ha:=kR P w K mg base 13 "_law_around" ["_law_desk","_law_low"] [] (Hn K Ad)
abbrev CY:Stmt:=top 110
theorem zK:jn ["_law_desk","_law_value","e"] ["_law_desk"] (iW CY):=by bv_decide
noncomputable def D_law_tight:{G // lD "_law_tight" "_law_tight" CY 12 1 3 ["_law_desk"] (λP w K mg base Ad=>vX P w K mg base Ad) G}:=by
 apply bZ;apply okN zK rfl rfl;intro P w K mg base Ad f fd dV F T m_say cdv A outer s H vs Q E hr;show(_,(gH (iE 1 zK.nd nP) (gH (zj (i:=2) zK.nd rfl rfl (m_say.tr hr ⋯ (pv 0) %[gP|0]) rfl T.m_Tight (λ_=>
   (gQ (iE 1 zK.nd (Bb (K:=K) rfl (pv 2) rfl))))) (gQ (iX (pv 1))))),λPr D0 hD=>?_)
 try simp only[rd_K]
 with_reducible
  apply gX;show sC rfl;apply iy;apply yW wo (MH (by assumption));apply zg vk v9;intro _;show bX;intro _;apply hM;show sNil;apply nK;apply An wo (L7 (by assumption));show bX;show kg;apply g6;show bX
noncomputable abbrev Hk:Sp:=i5 K (gS Ad) (iF Ad) (lp 1 3 D_law_tight.1)
abbrev GX:=kR P w K mg base 13 "_law_tight" ["_law_desk"] [] (Hk K Ad)
abbrev C9:Stmt:=top 112
theorem yf:jn ["_law_desk","_law_way","_law_due","_law_row_here","_law_answer"] ["_law_desk","_law_way"] (iW C9):=by bv_decide
noncomputable def D_law_told:{G // mL "_law_told" "_law_told" C9 13 2 5 ["_law_desk","_law_way"] (λP w K mg base Ad=>G5 P w K mg base Ad/\vX P w K mg base Ad) G}:=by
 apply bZ;apply m4 yf rfl rfl;intro P w K mg base Ad f fd dV F T ⟨Bau,m_say⟩ cdv A outer s H vs Q E hr;have hu:=hr.units;show(_,(gH (iE 2 yf.nd (lO %[jF %[gP,gP|0],jF %[gP,gP|0],jF %[gP,gP|0],jF %[gP,gP|0],jF %[gP,gP|0]|0])) (gH (iE 2 yf.nd (gR nQ (pv 2) (lO %[jF %[gP,gP|0],jF %[gP,gP|0],jF %[gP,gP|0],jF %[gP,gP|0]|0]))) (gH (nD gA rfl (jP (pv 2)) (ur (K:=K) (n:=2) rfl rfl (qc (kQ 3 yf.nd) (qc (kQ 4 yf.nd) uq))) (gQ (gM (PW.pt (tF (j4 (mR hu) (pv 1) jA (jB _)) (tJ (j4 Az (pv 3) (jF %[gP,gP,gP,gP,gP|0]) (by with_unfolding_all rfl))))) (gQ (gM (PW.pt (tF (j4 (mR hu) (wD sl_W (pv 3) v8 (v7 jA)) gP (jB _)) (tJ (j4 (qa hu) (Bau.ev hr ⋯ rfl pass1 %[pv 0,pv 3|0]) gP (jB _))))) (gQ (iX jw))
   j8)) (gQ (gM (PW.pt (tF (j4 (mR hu) (pv 1) jA (jB _)) (tJ (j4 (mR hu) (pv 3) gP (jB _))))) (gQ (gM (j4 (qa hu) (Bau.ev hr ⋯ rfl pass1 %[pv 0,pv 3|0]) gP (jB _)) (gQ (iX jw))
   j8)) (gQ (gM (j4 (qa hu) (m_say.m hr ⋯ pass1 (pv 0) %[pv 3|0]) (pv 4) (jB _)) (gQ (iX jw))
   j8))))))) (gQ (iX jw))))),λPr D0 hD=>?_)
 try simp only[rd_K]
 with_reducible
  apply gX;apply jd;apply b6;apply ip;apply hM;apply hM;show sNil;apply b6;apply ip;apply hM;apply hM;show sNil;apply b6;apply ip;apply hM;apply hM;show sNil;apply b6;apply ip;apply hM;apply hM;show sNil;apply b6;apply ip;apply hM;apply hM;show sNil;show sNil;apply gX;apply kh;show nW;show bX;apply jd;apply b6;apply ip;apply hM;apply hM;show sNil;apply b6;apply ip;apply hM;apply hM;show sNil;apply b6;apply ip;apply hM;apply hM;show sNil;apply b6;apply ip;apply hM;apply hM;show sNil;show sNil;apply iy;apply kH 1000000;apply mY;show bX;apply oS;apply qN;show kg;apply qN;show kg;show gsNil;apply l0;apply rf;apply iA;show s_eq;show bX;show sC rfl;apply iA;show zQ;show bX;apply ip;apply hM;apply hM;apply hM;apply hM;apply hM;show sNil;apply l0;apply rf;apply iA;show s_eq;apply rb;show bX;show v3;apply ph;show sC rfl;show sC rfl;apply iA;show s_ne;apply jq;show nF;show sC rfl;apply g6;show sC rfl;show sNext;apply l0;apply rf;apply iA;show s_eq;show bX;show sC rfl;apply iA;show s_eq;show bX;show sC rfl;apply l0;apply iA;show s_ne;apply jq;show nF;show sC rfl;apply g6;show sC rfl;show sNext;apply l0;apply iA;show s_ne;apply iB _ vk v9;show bX;show j3;show bX;apply g6;show sC rfl;show sNext;apply g6;show sC rfl
noncomputable abbrev zS:Sp:=i5 K (gS Ad) (iF Ad) (fnX 2 5 D_law_told.1)
abbrev GL:=kR P w K mg base 14 "_law_told" ["_law_desk","_law_way"] [] (zS K Ad)
end
end Prg
open PySem L2 Rn
namespace Prg
noncomputable section
/-! the desk as it is told,row by row -/
def c0:CH:=[.gone, .gone, .gone, .gone, .gone, .gone, .gone, .gone, .gone, .gone, .gone, .gone, .gone, .gone, .kon [.int 0, .int 1], .kon [.str "tie", .str "part", .str "need", .str "untie", .str "measure", .str "bound"], .gone]
def hs:Nat->CH
 | 0=>[.gone, .gone, .gone, .gone, .gone, .gone, .gone, .gone, .gone, .gone, .gone, .gone, .gone, .gone, .kon [.int 0, .int 1], .kon [.str "tie", .str "part", .str "need", .str "untie", .str "measure", .str "bound"], .gone, .ins 27 [("book", .ref 18),("thing", .ref 19)], .ins 26 [("by_name", .ref 23)], .ins 24 [("parts_by_name", .ref 20),("gaps_by_name", .ref 21),("ways", .ref 22)], .dk [], .dk [], .dk [], .dk []]
 | 1=>[.gone, .gone, .gone, .gone, .gone, .gone, .gone, .gone, .gone, .gone, .gone, .gone, .gone, .gone, .kon [.int 0, .int 1], .kon [.str "tie", .str "part", .str "need", .str "untie", .str "measure", .str "bound"], .gone, .ins 27 [("book", .ref 18),("thing", .ref 19)], .ins 26 [("by_name", .ref 23)], .ins 24 [("parts_by_name", .ref 20),("gaps_by_name", .ref 21),("ways", .ref 22)], .dk [], .dk [], .dk [], .dk [(.inr "ta", .ref 24)], .ins 18 [("name", .str "ta"),("start", .str "e"),("end", .str "f"),("least", .ref 25),("greatest", .ref 26)], .tup [.int 1, .int 1], .tup [.int 2, .int 1]]
 | 2=>[.gone, .gone, .gone, .gone, .gone, .gone, .gone, .gone, .gone, .gone, .gone, .gone, .gone, .gone, .kon [.int 0, .int 1], .kon [.str "tie", .str "part", .str "need", .str "untie", .str "measure", .str "bound"], .gone, .ins 27 [("book", .ref 18),("thing", .ref 19)], .ins 26 [("by_name", .ref 23)], .ins 24 [("parts_by_name", .ref 20),("gaps_by_name", .ref 21),("ways", .ref 22)], .dk [], .dk [], .dk [], .dk [(.inr "ta", .ref 24),(.inr "tb", .ref 25)], .ins 18 [("name", .str "ta"),("start", .str "e"),("end", .str "f"),("least", .ref 26),("greatest", .ref 27)], .ins 15 [("name", .str "tb"),("start", .str "f"),("end", .str "g"),("least", .ref 28),("greatest", .non)], .tup [.int 1, .int 1], .tup [.int 2, .int 1], .tup [.int 1, .int 2]]
 | 3=>[.gone, .gone, .gone, .gone, .gone, .gone, .gone, .gone, .gone, .gone, .gone, .gone, .gone, .gone, .kon [.int 0, .int 1], .kon [.str "tie", .str "part", .str "need", .str "untie", .str "measure", .str "bound"], .gone, .ins 27 [("book", .ref 18),("thing", .ref 19)], .ins 26 [("by_name", .ref 26)], .ins 24 [("parts_by_name", .ref 20),("gaps_by_name", .ref 21),("ways", .ref 22)], .dk [(.inr "pa", .ref 23)], .dk [], .dk [], .ins 21 [("name", .str "pa"),("start", .str "f"),("end", .str "g"),("size", .ref 24),("most", .ref 25),("weight", .int 1)], .tup [.int 3, .int 1], .tup [.int 1, .int 1], .dk [(.inr "ta", .ref 27),(.inr "tb", .ref 28)], .ins 18 [("name", .str "ta"),("start", .str "e"),("end", .str "f"),("least", .ref 29),("greatest", .ref 30)], .ins 15 [("name", .str "tb"),("start", .str "f"),("end", .str "g"),("least", .ref 31),("greatest", .non)], .tup [.int 1, .int 1], .tup [.int 2, .int 1], .tup [.int 1, .int 2]]
 | 4=>[.gone, .gone, .gone, .gone, .gone, .gone, .gone, .gone, .gone, .gone, .gone, .gone, .gone, .gone, .kon [.int 0, .int 1], .kon [.str "tie", .str "part", .str "need", .str "untie", .str "measure", .str "bound"], .gone, .ins 27 [("book", .ref 18),("thing", .ref 19)], .ins 26 [("by_name", .ref 29)], .ins 24 [("parts_by_name", .ref 20),("gaps_by_name", .ref 21),("ways", .ref 22)], .dk [(.inr "pa", .ref 23),(.inr "pb", .ref 24)], .dk [], .dk [], .ins 21 [("name", .str "pa"),("start", .str "f"),("end", .str "g"),("size", .ref 25),("most", .ref 26),("weight", .int 1)], .ins 21 [("name", .str "pb"),("start", .str "h"),("end", .str "g"),("size", .ref 27),("most", .ref 28),("weight", .int 2)], .tup [.int 3, .int 1], .tup [.int 1, .int 1], .tup [.int (-1), .int 2], .tup [.int 0, .int 1], .dk [(.inr "ta", .ref 30),(.inr "tb", .ref 31)], .ins 18 [("name", .str "ta"),("start", .str "e"),("end", .str "f"),("least", .ref 32),("greatest", .ref 33)], .ins 15 [("name", .str "tb"),("start", .str "f"),("end", .str "g"),("least", .ref 34),("greatest", .non)], .tup [.int 1, .int 1], .tup [.int 2, .int 1], .tup [.int 1, .int 2]]
 | 5=>[.gone, .gone, .gone, .gone, .gone, .gone, .gone, .gone, .gone, .gone, .gone, .gone, .gone, .gone, .kon [.int 0, .int 1], .kon [.str "tie", .str "part", .str "need", .str "untie", .str "measure", .str "bound"], .gone, .ins 27 [("book", .ref 18),("thing", .ref 19)], .ins 26 [("by_name", .ref 35)], .ins 24 [("parts_by_name", .ref 20),("gaps_by_name", .ref 21),("ways", .ref 22)], .dk [(.inr "pa", .ref 23),(.inr "pb", .ref 24)], .dk [(.inr "na", .ref 25)], .dk [(.inr "na", .ref 26)], .ins 21 [("name", .str "pa"),("start", .str "f"),("end", .str "g"),("size", .ref 27),("most", .ref 28),("weight", .int 1)], .ins 21 [("name", .str "pb"),("start", .str "h"),("end", .str "g"),("size", .ref 29),("most", .ref 30),("weight", .int 2)], .ins 22 [("name", .str "na"),("one", .str "f"),("other", .str "h"),("low", .ref 31),("high", .ref 32)], .lst [.ref 33, .ref 34], .tup [.int 3, .int 1], .tup [.int 1, .int 1], .tup [.int (-1), .int 2], .tup [.int 0, .int 1], .tup [.int 3, .int 1], .tup [.int 4, .int 1], .tup [.str "pa", .bl true], .tup [.str "pb", .bl false], .dk [(.inr "ta", .ref 36),(.inr "tb", .ref 37)], .ins 18 [("name", .str "ta"),("start", .str "e"),("end", .str "f"),("least", .ref 38),("greatest", .ref 39)], .ins 15 [("name", .str "tb"),("start", .str "f"),("end", .str "g"),("least", .ref 40),("greatest", .non)], .tup [.int 1, .int 1], .tup [.int 2, .int 1], .tup [.int 1, .int 2]]
 | _=>[.gone, .gone, .gone, .gone, .gone, .gone, .gone, .gone, .gone, .gone, .gone, .gone, .gone, .gone, .kon [.int 0, .int 1], .kon [.str "tie", .str "part", .str "need", .str "untie", .str "measure", .str "bound"], .gone, .ins 27 [("book", .ref 18),("thing", .ref 19)], .ins 26 [("by_name", .ref 39)], .ins 24 [("parts_by_name", .ref 20),("gaps_by_name", .ref 21),("ways", .ref 22)], .dk [(.inr "pa", .ref 23),(.inr "pb", .ref 24)], .dk [(.inr "na", .ref 25),(.inr "nb", .ref 26)], .dk [(.inr "na", .ref 27),(.inr "nb", .ref 28)], .ins 21 [("name", .str "pa"),("start", .str "f"),("end", .str "g"),("size", .ref 29),("most", .ref 30),("weight", .int 1)], .ins 21 [("name", .str "pb"),("start", .str "h"),("end", .str "g"),("size", .ref 31),("most", .ref 32),("weight", .int 2)], .ins 22 [("name", .str "na"),("one", .str "f"),("other", .str "h"),("low", .ref 33),("high", .ref 34)], .ins 22 [("name", .str "nb"),("one", .str "g"),("other", .str "h"),("low", .ref 35),("high", .ref 36)], .lst [.ref 37, .ref 38], .lst [.ref 38], .tup [.int 3, .int 1], .tup [.int 1, .int 1], .tup [.int (-1), .int 2], .tup [.int 0, .int 1], .tup [.int 3, .int 1], .tup [.int 4, .int 1], .tup [.int 0, .int 1], .tup [.int 1, .int 1], .tup [.str "pa", .bl true], .tup [.str "pb", .bl false], .dk [(.inr "ta", .ref 40),(.inr "tb", .ref 41)], .ins 18 [("name", .str "ta"),("start", .str "e"),("end", .str "f"),("least", .ref 42),("greatest", .ref 43)], .ins 15 [("name", .str "tb"),("start", .str "f"),("end", .str "g"),("least", .ref 44),("greatest", .non)], .tup [.int 1, .int 1], .tup [.int 2, .int 1], .tup [.int 1, .int 2]]
def pN(C:Nat)(v:Int):CH:=[.gone, .gone, .gone, .gone, .gone, .gone, .gone, .gone, .gone, .gone, .gone, .gone, .gone, .gone, .kon [.int 0, .int 1], .kon [.str "tie", .str "part", .str "need", .str "untie", .str "measure", .str "bound"], .gone, .ins 27 [("book", .ref 18),("thing", .ref 19)], .ins 26 [("by_name", .ref 39)], .ins 24 [("parts_by_name", .ref 20),("gaps_by_name", .ref 21),("ways", .ref 22)], .dk [(.inr "pa", .ref 23),(.inr "pb", .ref 24)], .dk [(.inr "na", .ref 25),(.inr "nb", .ref 26)], .dk [(.inr "na", .ref 27),(.inr "nb", .ref 28)], .ins 21 [("name", .str "pa"),("start", .str "f"),("end", .str "g"),("size", .ref 29),("most", .ref 30),("weight", .int 1)], .ins 21 [("name", .str "pb"),("start", .str "h"),("end", .str "g"),("size", .ref 31),("most", .ref 32),("weight", .int 2)], .ins 22 [("name", .str "na"),("one", .str "f"),("other", .str "h"),("low", .ref 33),("high", .ref 34)], .ins 22 [("name", .str "nb"),("one", .str "g"),("other", .str "h"),("low", .ref 35),("high", .ref 36)], .lst [.ref 37, .ref 38], .lst [.ref 38], .tup [.int 3, .int 1], .tup [.int 1, .int 1], .tup [.int (-1), .int 2], .tup [.int 0, .int 1], .tup [.int 3, .int 1], .tup [.int 4, .int 1], .tup [.int 0, .int 1], .tup [.int 1, .int 1], .tup [.str "pa", .bl true], .tup [.str "pb", .bl false], .dk [(.inr "ta", .ref 40),(.inr "tb", .ref 41),(.inr "td", .ref 42)], .ins 18 [("name", .str "ta"),("start", .str "e"),("end", .str "f"),("least", .ref 43),("greatest", .ref 44)], .ins 15 [("name", .str "tb"),("start", .str "f"),("end", .str "g"),("least", .ref 45),("greatest", .non)], .ins C [("name", .str "td"),("start", .str "g"),("end", .str "e"),("least", .ref 46),("greatest", .ref 47)], .tup [.int 1, .int 1], .tup [.int 2, .int 1], .tup [.int 1, .int 2], .tup [.int 0, .int 1], .tup [.int v, .int 1]]
def dk:Nat->CH
 | 0=>hs 6
 | 1=>pN 17 0
 | 2=>pN 18 1
 | 3=>pN 18 2
 | 4=>pN 18 3
 | 5=>pN 18 4
 | 6=>pN 18 5
 | 7=>pN 18 6
 | _=>[.gone, .gone, .gone, .gone, .gone, .gone, .gone, .gone, .gone, .gone, .gone, .gone, .gone, .gone, .kon [.int 0, .int 1], .kon [.str "tie", .str "part", .str "need", .str "untie", .str "measure", .str "bound"], .gone, .ins 27 [("book", .ref 18),("thing", .ref 19)], .ins 26 [("by_name", .ref 44)], .ins 24 [("parts_by_name", .ref 20),("gaps_by_name", .ref 21),("ways", .ref 22)], .dk [(.inr "pa", .ref 23),(.inr "pb", .ref 24)], .dk [(.inr "na", .ref 25),(.inr "nb", .ref 26),(.inr "nd", .ref 27)], .dk [(.inr "na", .ref 28),(.inr "nb", .ref 29),(.inr "nd", .ref 30)], .ins 21 [("name", .str "pa"),("start", .str "f"),("end", .str "g"),("size", .ref 31),("most", .ref 32),("weight", .int 1)], .ins 21 [("name", .str "pb"),("start", .str "h"),("end", .str "g"),("size", .ref 33),("most", .ref 34),("weight", .int 2)], .ins 22 [("name", .str "na"),("one", .str "f"),("other", .str "h"),("low", .ref 35),("high", .ref 36)], .ins 22 [("name", .str "nb"),("one", .str "g"),("other", .str "h"),("low", .ref 37),("high", .ref 38)], .ins 22 [("name", .str "nd"),("one", .str "h"),("other", .str "g"),("low", .ref 39),("high", .ref 40)], .lst [.ref 41, .ref 42], .lst [.ref 42], .lst [.ref 43], .tup [.int 3, .int 1], .tup [.int 1, .int 1], .tup [.int (-1), .int 2], .tup [.int 0, .int 1], .tup [.int 3, .int 1], .tup [.int 4, .int 1], .tup [.int 0, .int 1], .tup [.int 1, .int 1], .tup [.int 1, .int 1], .tup [.int 2, .int 1], .tup [.str "pa", .bl true], .tup [.str "pb", .bl false], .tup [.str "pb", .bl true], .dk [(.inr "ta", .ref 45),(.inr "tb", .ref 46)], .ins 18 [("name", .str "ta"),("start", .str "e"),("end", .str "f"),("least", .ref 47),("greatest", .ref 48)], .ins 15 [("name", .str "tb"),("start", .str "f"),("end", .str "g"),("least", .ref 49),("greatest", .non)], .tup [.int 1, .int 1], .tup [.int 2, .int 1], .tup [.int 1, .int 2]]
def rows:Nat->V
 | 0=>.str "tie ta e f 1 2"
 | 1=>.str "tie tb f g 1/2 -"
 | 2=>.str "part pa f g 3 1 1"
 | 3=>.str "part pb h g -1/2 0 2"
 | 4=>.str "need na f h 3 4"
 | _=>.str "need nb g h 0 1"
def rho:Nat->List Nat
 | 0=>[0,1,2,3,4,5,6,7,8,9,10,11,12,13,14,15,16,17,18,19,20,21,22,23,49,37,41]
 | 1=>[0,1,2,3,4,5,6,7,8,9,10,11,12,13,14,15,16,17,18,19,20,21,22,23,24,50,25,26,41]
 | 2=>[0,1,2,3,4,5,6,7,8,9,10,11,12,13,14,15,16,17,18,57,60,75,76,64,42,46,23,24,25,26,27,28]
 | 3=>[0,1,2,3,4,5,6,7,8,9,10,11,12,13,14,15,16,17,18,62,65,94,95,69,83,24,25,46,50,26,27,28,29,30,31]
 | 4=>[0,1,2,3,4,5,6,7,8,9,10,11,12,13,14,15,16,17,18,63,66,95,96,70,84,100,109,25,26,27,28,48,52,76,93,29,30,31,32,33,34]
 | _=>[0,1,2,3,4,5,6,7,8,9,10,11,12,13,14,15,16,17,18,70,73,102,103,77,91,107,121,116,129,27,28,29,30,31,32,54,58,83,100,35,36,37,38,39,40]
def rhd:Nat->List Nat
 | 1=>[0,1,2,3,4,5,6,7,8,9,10,11,12,13,14,15,16,17,18,19,20,21,22,23,24,25,26,27,28,29,30,31,32,33,34,35,36,37,38,39,40,41,70,42,43,44,58,62]
 | 2=>[0,1,2,3,4,5,6,7,8,9,10,11,12,13,14,15,16,17,18,19,20,21,22,23,24,25,26,27,28,29,30,31,32,33,34,35,36,37,38,39,40,41,70,42,43,44,58,62]
 | 3=>[0,1,2,3,4,5,6,7,8,9,10,11,12,13,14,15,16,17,18,19,20,21,22,23,24,25,26,27,28,29,30,31,32,33,34,35,36,37,38,39,40,41,70,42,43,44,58,62]
 | 4=>[0,1,2,3,4,5,6,7,8,9,10,11,12,13,14,15,16,17,18,19,20,21,22,23,24,25,26,27,28,29,30,31,32,33,34,35,36,37,38,39,40,41,70,42,43,44,58,62]
 | 5=>[0,1,2,3,4,5,6,7,8,9,10,11,12,13,14,15,16,17,18,19,20,21,22,23,24,25,26,27,28,29,30,31,32,33,34,35,36,37,38,39,40,41,70,42,43,44,58,62]
 | 6=>[0,1,2,3,4,5,6,7,8,9,10,11,12,13,14,15,16,17,18,19,20,21,22,23,24,25,26,27,28,29,30,31,32,33,34,35,36,37,38,39,40,41,70,42,43,44,58,62]
 | 7=>[0,1,2,3,4,5,6,7,8,9,10,11,12,13,14,15,16,17,18,19,20,21,22,23,24,25,26,27,28,29,30,31,32,33,34,35,36,37,38,39,40,41,70,42,43,44,58,62]
 | _=>[0,1,2,3,4,5,6,7,8,9,10,11,12,13,14,15,16,17,18,75,78,107,108,82,96,112,126,140,121,134,146,29,30,31,32,33,34,35,36,58,62,88,105,102,39,40,41,42,43,44]
def rowd:Nat->V
 | 1=>.str "tie td g e 0 0"
 | 2=>.str "tie td g e 0 1"
 | 3=>.str "tie td g e 0 2"
 | 4=>.str "tie td g e 0 3"
 | 5=>.str "tie td g e 0 4"
 | 6=>.str "tie td g e 0 5"
 | 7=>.str "tie td g e 0 6"
 | _=>.str "need nd h g 1 2"
def uG(x:V)(h:CH):Out V:=fnX 2 3 D_Desk_say.1 [.ref 17,x] h
def xo(x:V)(h:CH):Out V:=lp 2 5 D_law_refused.1 [.ref 17,x] h
def uV(i:Nat):Bool:=ri 17 (.str "ok") (rho i) (hs (i+1)) (uG (rows i) (hs i))
def uW(d:Nat):Bool:=ri 17 (.str "ok") (rhd d) (dk d) (uG (rowd d) (hs 6))
def yF(a b:Nat)(h:CH):CH:=oH (motive:=λ_=>Nat->CH) (λ_=>[]) (λo _ ih i=>(if iO a i&&mK i b then CO.gone else o)::ih (Nat.add i 1)) h 0
def zV(n:Nat)(h:CH):CH:=oH (motive:=λ_=>Nat->CH) (λ_=>[]) (λo _ ih n=>Nat.rec (motive:=λ_=>CH) [] (λm _=>o::ih m) n) h n
def kN:CH:=yF 18 20 (zV 20 (dk 0))
def kT:Nat->CH
 | 8=>yF 18 19 (zV 44 (dk 8))
 | _=>yF 18 19 (zV 39 (dk 0))
def kB(d:Nat):CH:=yF 19 (if cj d 8 then 44 else 39) (dk d)
def lj(r:Nat):Bool:=iO r 4||(iO 30 r&&iO r 32)
def mk(d r:Nat):CH:=if lj r then kB d else kT d
def o7(r:Nat):Bool:=match fnM 2 (D_law_no_row.1 r) kN with
 | .ok v h=>ri 17 (.str "row") (gO kN.length) kN (xo v h)
 | _=>false
def jD(h0:CH)(r:Nat):Bool:=match fnM 2 (D_law_row.1 r) h0 with
 | .ok (.ref n) h=>match kr h n with
  | some (.tup [.str x, .str w])=>ri 17 (.str w) (gO h0.length) h0 (xo (.str x) h)
  | _=>false
 | _=>false
def oj(d:Nat):Int:=if cj d 0 then 0 else if cj d 8 then 2 else 1
def nA(d:Nat):Bool:=ri 17 (.bl true) (gO (dk d).length) (dk d) (fnX 2 5 D_law_told.1 [.ref 17, .int (oj d)] (dk d))
def n0(v:Nat):Bool:=ri 17 (.bl true) (gO (dk (v+1)).length) (dk (v+1)) (lp 2 6 D_law_around.1 [.ref 17, .ref (dk (v+1)).length] (dk (v+1)++[.tup [.int v, .int 1]]))
def chkG:Bool:=ri 17 (.str "nd") (gO (dk 8).length) (dk 8) (lp 1 3 D_law_tight.1 [.ref 17] (dk 8))
def allB(n:Nat)(p:Nat->Bool):Bool:=Nat.rec (motive:=λ_=>Bool) true (λi ih=>g8 false ih (p i)) n
theorem vY{p:Nat->Bool}:∀{n:Nat},allB n p=true->∀ i,i<n->p i=true:=by
 intro n;induction n with
 | zero=>intro _ i h;ac_nf
 | succ n ih=>
  intro h i a;have h:(g8 (motive:=λ_=>Bool) false (allB n p) (p n))=true:=h;cases c:p n with
  | false=>rw[c]at h;cases h
  | true=>
   rw[c]at h;by_cases z:i=n
   .rw[z];show c
   .show ih h i ∅
theorem mM{p:Nat->Bool}{a n:Nat}(h:allB n (λi=>p (a+i))=true):∀ i,a<=i->i<a+n->p i=true:=λi c b=>by
 have z:=vY h (i-a) ∅;have e:a+(i-a)=i:=by ac_nf
 rw[e]at z;show z
theorem ck_G:chkG=true:=by decide +kernel
theorem Ih:allB 6 (λi=>uV (0+i))=true:=by decide +kernel
theorem ck_S:∀ i,i<6->uV i=true:=λi h=>by
 by_cases c0:i<6
 .show mM (p:=uV) Ih i ∅ ∅
 ac_nf
theorem Ii:allB 8 (λi=>(λd=>uW (d+1)) (0+i))=true:=by decide +kernel
theorem ck_D:∀ i,i<8->(λd=>uW (d+1)) i=true:=λi h=>by
 by_cases c0:i<8
 .show mM (p:=(λd=>uW (d+1))) Ii i ∅ ∅
 ac_nf
theorem K7:allB 9 (λi=>(λd=>lZ 17 (gO kN.length) (dk d) kN&&partL (dk d) kN) (0+i))=true:=by decide +kernel
theorem ck_mN:∀ i,i<9->(λd=>lZ 17 (gO kN.length) (dk d) kN&&partL (dk d) kN) i=true:=λi h=>by
 by_cases c0:i<9
 .show mM (p:=(λd=>lZ 17 (gO kN.length) (dk d) kN&&partL (dk d) kN)) K7 i ∅ ∅
 ac_nf
theorem K8:allB 9 (λi=>(λd=>lZ 17 (gO (kB d).length) (dk d) (kB d)&&partL (dk d) (kB d)) (0+i))=true:=by decide +kernel
theorem ck_mB:∀ i,i<9->(λd=>lZ 17 (gO (kB d).length) (dk d) (kB d)&&partL (dk d) (kB d)) i=true:=λi h=>by
 by_cases c0:i<9
 .show mM (p:=(λd=>lZ 17 (gO (kB d).length) (dk d) (kB d)&&partL (dk d) (kB d))) K8 i ∅ ∅
 ac_nf
theorem K6:allB 9 (λi=>(λd=>lZ 17 (gO (kT d).length) (dk d) (kT d)&&partL (dk d) (kT d)) (0+i))=true:=by decide +kernel
theorem ck_mT:∀ i,i<9->(λd=>lZ 17 (gO (kT d).length) (dk d) (kT d)&&partL (dk d) (kT d)) i=true:=λi h=>by
 by_cases c0:i<9
 .show mM (p:=(λd=>lZ 17 (gO (kT d).length) (dk d) (kT d)&&partL (dk d) (kT d))) K6 i ∅ ∅
 ac_nf
theorem J6:allB 13 (λi=>o7 (0+i))=true:=by decide +kernel
theorem J5:allB 13 (λi=>o7 (13+i))=true:=by decide +kernel
theorem J4:allB 13 (λi=>o7 (26+i))=true:=by decide +kernel
theorem Ir:allB 13 (λi=>o7 (39+i))=true:=by decide +kernel
theorem ck_1:∀ i,i<52->o7 i=true:=λi h=>by
 by_cases c0:i<13
 .show mM (p:=o7) J6 i ∅ ∅
 by_cases c:i<26
 .show mM (p:=o7) J5 i ∅ ∅
 by_cases b:i<39
 .show mM (p:=o7) J4 i ∅ ∅
 by_cases a:i<52
 .show mM (p:=o7) Ir i ∅ ∅
 ac_nf
theorem Ko:allB 2 (λi=>(λd=>allB 39 λr=>!lj r||jD (kB d) r) (0+i))=true:=by decide +kernel
theorem Kn:allB 2 (λi=>(λd=>allB 39 λr=>!lj r||jD (kB d) r) (2+i))=true:=by decide +kernel
theorem Km:allB 2 (λi=>(λd=>allB 39 λr=>!lj r||jD (kB d) r) (4+i))=true:=by decide +kernel
theorem Kl:allB 2 (λi=>(λd=>allB 39 λr=>!lj r||jD (kB d) r) (6+i))=true:=by decide +kernel
theorem Kk:allB 1 (λi=>(λd=>allB 39 λr=>!lj r||jD (kB d) r) (8+i))=true:=by decide +kernel
theorem ck_2B:∀ i,i<9->(λd=>allB 39 λr=>!lj r||jD (kB d) r) i=true:=λi h=>by
 by_cases c0:i<2
 .show mM (p:=(λd=>allB 39 λr=>!lj r||jD (kB d) r)) Ko i ∅ ∅
 by_cases e:i<4
 .show mM (p:=(λd=>allB 39 λr=>!lj r||jD (kB d) r)) Kn i ∅ ∅
 by_cases b:i<6
 .show mM (p:=(λd=>allB 39 λr=>!lj r||jD (kB d) r)) Km i ∅ ∅
 by_cases a:i<8
 .show mM (p:=(λd=>allB 39 λr=>!lj r||jD (kB d) r)) Kl i ∅ ∅
 by_cases c:i<9
 .show mM (p:=(λd=>allB 39 λr=>!lj r||jD (kB d) r)) Kk i ∅ ∅
 ac_nf
theorem Kj:allB 5 (λi=>(λr=>lj r||jD (kT 0) r) (0+i))=true:=by decide +kernel
theorem Ki:allB 5 (λi=>(λr=>lj r||jD (kT 0) r) (5+i))=true:=by decide +kernel
theorem Kh:allB 5 (λi=>(λr=>lj r||jD (kT 0) r) (10+i))=true:=by decide +kernel
theorem Kg:allB 5 (λi=>(λr=>lj r||jD (kT 0) r) (15+i))=true:=by decide +kernel
theorem Kf:allB 5 (λi=>(λr=>lj r||jD (kT 0) r) (20+i))=true:=by decide +kernel
theorem Ke:allB 5 (λi=>(λr=>lj r||jD (kT 0) r) (25+i))=true:=by decide +kernel
theorem Lb:allB 5 (λi=>(λr=>lj r||jD (kT 0) r) (30+i))=true:=by decide +kernel
theorem La:allB 4 (λi=>(λr=>lj r||jD (kT 0) r) (35+i))=true:=by decide +kernel
theorem ck_2T:∀ i,i<39->(λr=>lj r||jD (kT 0) r) i=true:=λi h=>by
 by_cases c0:i<5
 .show mM (p:=(λr=>lj r||jD (kT 0) r)) Kj i ∅ ∅
 by_cases f:i<10
 .show mM (p:=(λr=>lj r||jD (kT 0) r)) Ki i ∅ ∅
 by_cases c:i<15
 .show mM (p:=(λr=>lj r||jD (kT 0) r)) Kh i ∅ ∅
 by_cases b:i<20
 .show mM (p:=(λr=>lj r||jD (kT 0) r)) Kg i ∅ ∅
 by_cases e:i<25
 .show mM (p:=(λr=>lj r||jD (kT 0) r)) Kf i ∅ ∅
 by_cases a:i<30
 .show mM (p:=(λr=>lj r||jD (kT 0) r)) Ke i ∅ ∅
 by_cases d:i<35
 .show mM (p:=(λr=>lj r||jD (kT 0) r)) Lb i ∅ ∅
 by_cases g:i<39
 .show mM (p:=(λr=>lj r||jD (kT 0) r)) La i ∅ ∅
 ac_nf
theorem Kw:allB 5 (λi=>(λr=>lj r||jD (kT 8) r) (0+i))=true:=by decide +kernel
theorem Kv:allB 5 (λi=>(λr=>lj r||jD (kT 8) r) (5+i))=true:=by decide +kernel
theorem Ku:allB 5 (λi=>(λr=>lj r||jD (kT 8) r) (10+i))=true:=by decide +kernel
theorem Kt:allB 5 (λi=>(λr=>lj r||jD (kT 8) r) (15+i))=true:=by decide +kernel
theorem Ks:allB 5 (λi=>(λr=>lj r||jD (kT 8) r) (20+i))=true:=by decide +kernel
theorem Kr:allB 5 (λi=>(λr=>lj r||jD (kT 8) r) (25+i))=true:=by decide +kernel
theorem Kq:allB 5 (λi=>(λr=>lj r||jD (kT 8) r) (30+i))=true:=by decide +kernel
theorem Kp:allB 4 (λi=>(λr=>lj r||jD (kT 8) r) (35+i))=true:=by decide +kernel
theorem ck_28:∀ i,i<39->(λr=>lj r||jD (kT 8) r) i=true:=λi h=>by
 by_cases c0:i<5
 .show mM (p:=(λr=>lj r||jD (kT 8) r)) Kw i ∅ ∅
 by_cases f:i<10
 .show mM (p:=(λr=>lj r||jD (kT 8) r)) Kv i ∅ ∅
 by_cases c:i<15
 .show mM (p:=(λr=>lj r||jD (kT 8) r)) Ku i ∅ ∅
 by_cases b:i<20
 .show mM (p:=(λr=>lj r||jD (kT 8) r)) Kt i ∅ ∅
 by_cases e:i<25
 .show mM (p:=(λr=>lj r||jD (kT 8) r)) Ks i ∅ ∅
 by_cases a:i<30
 .show mM (p:=(λr=>lj r||jD (kT 8) r)) Kr i ∅ ∅
 by_cases d:i<35
 .show mM (p:=(λr=>lj r||jD (kT 8) r)) Kq i ∅ ∅
 by_cases g:i<39
 .show mM (p:=(λr=>lj r||jD (kT 8) r)) Kp i ∅ ∅
 ac_nf
theorem Iq:allB 1 (λi=>n0 (0+i))=true:=by decide +kernel
theorem Ip:allB 1 (λi=>n0 (1+i))=true:=by decide +kernel
theorem Io:allB 1 (λi=>n0 (2+i))=true:=by decide +kernel
theorem Im:allB 1 (λi=>n0 (3+i))=true:=by decide +kernel
theorem Il:allB 1 (λi=>n0 (4+i))=true:=by decide +kernel
theorem Ik:allB 1 (λi=>n0 (5+i))=true:=by decide +kernel
theorem Ij:allB 1 (λi=>n0 (6+i))=true:=by decide +kernel
theorem ck_A:∀ i,i<7->n0 i=true:=λi h=>by
 by_cases c0:i<1
 .show mM (p:=n0) Iq i ∅ ∅
 by_cases f:i<2
 .show mM (p:=n0) Ip i ∅ ∅
 by_cases d:i<3
 .show mM (p:=n0) Io i ∅ ∅
 by_cases b:i<4
 .show mM (p:=n0) Im i ∅ ∅
 by_cases e:i<5
 .show mM (p:=n0) Il i ∅ ∅
 by_cases a:i<6
 .show mM (p:=n0) Ik i ∅ ∅
 by_cases c:i<7
 .show mM (p:=n0) Ij i ∅ ∅
 ac_nf
theorem Ig:allB 1 (λi=>nA (0+i))=true:=by decide +kernel
theorem Ie:allB 1 (λi=>nA (1+i))=true:=by decide +kernel
theorem Ic:allB 1 (λi=>nA (2+i))=true:=by decide +kernel
theorem Ib:allB 1 (λi=>nA (3+i))=true:=by decide +kernel
theorem Ia:allB 1 (λi=>nA (4+i))=true:=by decide +kernel
theorem HZ:allB 1 (λi=>nA (5+i))=true:=by decide +kernel
theorem HY:allB 1 (λi=>nA (6+i))=true:=by decide +kernel
theorem HX:allB 1 (λi=>nA (7+i))=true:=by decide +kernel
theorem HW:allB 1 (λi=>nA (8+i))=true:=by decide +kernel
theorem ck_T:∀ i,i<9->nA i=true:=λi h=>by
 by_cases c0:i<1
 .show mM (p:=nA) Ig i ∅ ∅
 by_cases g:i<2
 .show mM (p:=nA) Ie i ∅ ∅
 by_cases d:i<3
 .show mM (p:=nA) Ic i ∅ ∅
 by_cases b:i<4
 .show mM (p:=nA) Ib i ∅ ∅
 by_cases f:i<5
 .show mM (p:=nA) Ia i ∅ ∅
 by_cases a:i<6
 .show mM (p:=nA) HZ i ∅ ∅
 by_cases e:i<7
 .show mM (p:=nA) HY i ∅ ∅
 by_cases j:i<8
 .show mM (p:=nA) HX i ∅ ∅
 by_cases c:i<9
 .show mM (p:=nA) HW i ∅ ∅
 ac_nf
end
end Prg
namespace Prg
open PySem L2 Ch Rn
section
variable(P:gN)(w:ik)(K:bY)(mg:Str->Option bV)(base:Heap)(Ad:nR)
seal PE PA PS o8 PT PW PG ui PI PO
local macro_rules|`(%[$xs,*|0])=>do let r:Lean.Term<-xs.getElems.foldrM (fun x (a:Lean.Term)=>`(vD $x $a)) (<-`(pS));return r
local macro_rules|`(!$n:num)=>`(kY ix_U (pv $n) jA)
local macro_rules|`($k:num∘[$xs,*]∘$s)=>`(lJ $(Lean.mkIdent `P) $(Lean.mkIdent `w) $(Lean.mkIdent `K) $(Lean.mkIdent `mg) $(Lean.mkIdent `base) (kU $(Lean.mkIdent `P) $(Lean.mkIdent `w)) $k $(Lean.mkIdent `f) $(Lean.mkIdent `fd) [$xs,*] $s)|`($k:num∘$n:str∘[$xs,*]∘$s)=>`(kR $(Lean.mkIdent `P) $(Lean.mkIdent `w) $(Lean.mkIdent `K) $(Lean.mkIdent `mg) $(Lean.mkIdent `base) $k $n [$xs,*] [] $s)|`($k:num∘$n:str∘($c)∘[$xs,*]∘$s)=>`(km $(Lean.mkIdent `P) $(Lean.mkIdent `w) $(Lean.mkIdent `K) $(Lean.mkIdent `mg) $(Lean.mkIdent `base) $k $n $c [$xs,*] $s)|`($n:str∘$t:ident)=>`(mE $(Lean.mkIdent `K) $n $n $t $(Lean.mkIdent `dV) $(Lean.mkIdent `f) $(Lean.mkIdent `fd))|`($n:str∘$q:str∘$t:ident)=>`(mE $(Lean.mkIdent `K) $n $q $t $(Lean.mkIdent `dV) $(Lean.mkIdent `f) $(Lean.mkIdent `fd))
abbrev Ck:Stmt:=top 111
theorem BB:jn ["_law_desk","_law_cell","_law_row_here","_law_word"] ["_law_desk","_law_cell"] (iW Ck):=by bv_decide
theorem ck_l:allB 9 (λd=>iO 18 (kB d).length&&iO 18 (kT d).length)=true:=by decide +kernel
def BI(K:bY)(Ad:nR):Sp:=λvs H Q E=>∃(x:Addr)(c:Int)(Pr:Hp)(D0:Addr->Prop)(ι : List Addr)(d:Nat),vs=[.ref x, .int c]/\d<9/\ι[17]?=some x/\HR ⟨K,gS Ad,iF Ad,Pr,D0⟩ ι (dk d) H/\∀ H',HR ⟨K,gS Ad,iF Ad,Pr,D0⟩ ι (dk d) H'->Q (.bl true) H'
variable{P:gN}{w:ik}{mg:Str->Option bV}{base:Heap}{Ad:nR}{fd:iC}{dV:bV}
theorem NA{K:bY}{f:Addr}(F:"_law_one"∘Ck)(T:Txt K mg Ad)(Bau:G5 P w K mg base Ad)(Be4:Oh P w K mg base Ad)(Bdi:PQ P w K mg base Ad):14∘["_law_desk","_law_cell"]∘(BI K Ad):=by
 show F.okn BB (λvs H Q E h=>by let(_,_,_,_,_,_,rfl,_):=h;rfl) (λa2 A R s H vs Q E J h=>?_);let(x,c,Pr,D0,ι,d,rfl,B,hx,hR,k):=h;have U:=J.units;show(_,(gH (gM (j4 (mR U) (gR sL (pv 1) jA) jA (jB _)) (gQ (iX (pJ (mR U) (Bau.ev J ⋯ rfl passF %[pv 0,Bdi.ev J ⋯ rfl passF %[gR pz (pv 1) jA|0]|0]) gP (jB _))))
   j8) (gH (HI (Be4.ev J ⋯ rfl passF %[gR pz (pv 1) jA|0]) (ur (K:=K) (n:=2) rfl rfl (qc (kQ 2 BB.nd) (qc (kQ 3 BB.nd) uq)))) (gQ (iX (pJ (mR U) (Bau.ev J ⋯ rfl passF %[pv 0,pv 2|0]) (pv 3) (jB _)))))),?_)
 try simp only[rd_K]
 show lY _ _ _ [some (.ref x),some (.int c),none,none] H;mstop;show(⋯,?_);have rest:∀ m:Nat,0<m->∃ r:Nat,(c.fdiv 2).fmod (m:Int)=(r:Int)/\r<m:=λm hm=>by
  have q:=Mth.fm (x:=c.fdiv 2) (y:=(m:Int)) ∅;let(r,e):=Int.eq_ofNat_of_zero_le q.1;show(r,e,∅)
 by_cases Y:c.fmod 2=0
 .rw[if_pos (by simpa using Y)];show(xW ⋯,?_);let(r,o,g):=rest 52 ⋯;have l:=ck_mN d B;dsimp only at l;rw[cn]at l;let(ι2,Pr2,X,C,j):=HR.mask (h2:=kN) hR l.1 l.2;have t : ι2[17]?=some x:=(X 17 17 (by decide +kernel)).trans hx;have M:=ck_1 r g;show(c.fdiv 2,r,Pr2,D0,ι2,kN,rfl,o,C,?_);unfold o7 at M;split at M
  .rename_i v h e;rw[e];intro ι3 u H3 G L O;show A7 (us:=[.ref 17,v]) C.len G L ⟨.ref x,[u],rfl,⟨x,ou G t,rfl⟩,u,[],rfl,O,rfl⟩ rfl M λD S=>?_;mstop;show k D (j D S)
  .cases M
 .rw[if_neg (by simpa using Y)];show(xW ⋯,?_);let(r,o,g):=rest 39 ⋯;have l:(lZ 17 (gO (mk d r).length) (dk d) (mk d r)&&partL (dk d) (mk d r))=true/\jD (mk d r) r=true:=by
   unfold mk;cases b:lj r with
   | true=>
    have z:=vY (ck_2B d B) r g;rw[b]at z;show(ck_mB d B,z)
   | false=>
    show(ck_mT d B,?_);by_cases d8:d=8
    .subst d8;have z:=ck_28 r g;dsimp only at z;rw[b]at z;show z
    .have z:=ck_2T r g;dsimp only at z;rw[b]at z;have e:kT d=kT 0:=by
      match d,B,d8 with
      | 0,_,_=>rfl
      | 1,_,_=>rfl
      | 2,_,_=>rfl
      | 3,_,_=>rfl
      | 4,_,_=>rfl
      | 5,_,_=>rfl
      | 6,_,_=>rfl
      | 7,_,_=>rfl
      | 8,_,h=>show absurd rfl h
      | n+9,h,_=>ac_nf
     show jD (kT d) r=true;rw[e];show z
  have I:17<(mk d r).length:=by
   have z:=vY ck_l d B;rw[cn]at z;unfold mk;cases lj r with
   | true=>show cm z.1
   | false=>show cm z.2
  let(l,p):=l;generalize mk d r=h0 at l p I;rw[cn]at l;let(ι2,Pr2,X,C,j):=HR.mask (h2:=h0) hR l.1 l.2;have t : ι2[17]?=some x:=(X 17 17 (by simp[I])).trans hx;show(c.fdiv 2,r,Pr2,D0,ι2,h0,rfl,o,C,?_);unfold jD at p;split at p
  .rename_i n h e;split at p
   .rename_i z w' Z;rw[e];intro ι3 u H3 G L O;let(a,ea,rfl):=O;rw[jm]at Z;let(ys,hy,la):=L.obj n a _ ea Z;let(y1,a0,rfl,l1,V):=mO la;let(y2,a1,rfl,l2,N):=mO V;cases ny N;cases l1;cases l2;show(a,_,rfl,mQ.of hy,rfl,?_);mstop;show A7 (us:=[.ref 17, .str z]) C.len G L ⟨.ref x,[.str z],rfl,⟨x,ou G t,rfl⟩, .str z,[],rfl,rfl,rfl⟩ rfl p λD S=>?_;mstop;show k D (j D S)
   .cases p
  .cases p
abbrev GH(P:gN)(w:ik)(K:bY)(mg:Str->Option bV)(base:Heap)(Ad:nR):=kR P w K mg base 14 "_law_one" ["_law_desk","_law_cell"] [] (BI K Ad)
def tq(r5 r7:Nat):Nat:=if cj r5 3 then r7+1 else if cj r5 4 then 8 else 0
noncomputable def rowsOf(d:Nat):List V:=if cj d 0 then[rows 0,rows 1,rows 2,rows 3,rows 4,rows 5]else[rows 0,rows 1,rows 2,rows 3,rows 4,rows 5,rowd d]
noncomputable def pF(ρ0:List Nat)(g:L2.St->CH->jE)(r5 r7:Nat):Bool:=match g (gB 7 none) c0 with
 | .nx φ h=>match kr φ 2,kr φ 3,kr φ 4 with
  | some (some (.int w)),some (some (.ref x)),some (some (.ref l))=>cj φ.length 7&&decide (w=oj (tq r5 r7))&&(match kr h l with
    | some (.lst ys)=>decide (ys=rowsOf (tq r5 r7))
    | _=>false)&&decide (ρ0[17]?=some x)&&!(ρ0.contains l)&&lZ 17 ρ0 h (hs 0)
  | _,_,_=>false
 | _=>false
theorem Gr:∀ d,d<9->(rowsOf d).all V.free=true:=λd a=>by
 unfold rowsOf;split
 .rfl
 .match d,a with
  | 0,_=>rfl
  | 1,_=>rfl
  | 2,_=>rfl
  | 3,_=>rfl
  | 4,_=>rfl
  | 5,_=>rfl
  | 6,_=>rfl
  | 7,_=>rfl
  | 8,_=>rfl
variable{ι:List Addr}
theorem Lc:∀{xs ys:List V},xs.all V.free=true->LA ι xs ys->ys=xs:=by
 intro xs;induction xs with
 | nil=>intro ys _ l;show ny l
 | cons x xs ih=>
  intro ys h l;rw[m2,cn]at h;let(y,c,rfl,b,a):=mO l;rw[ih h.2 a];cases x with
  | ref n=>cases h.1
  | _=>cases b;rfl
variable{r5 r7:Nat}
theorem yQ(h:r7<7):tq r5 r7<9:=by
 unfold tq;split
 .ac_nf
 .split <;> ac_nf
variable{a:Addr}
theorem As{c:Int}{i:Nat}(hi:autoParam (2<=i) Au):∀(σ : L2.St)(v:V),(σ[0]?=some (some (.ref a))/\σ[1]?=some (some (.int c)))->((σ.set i (some v))[0]?=some (some (.ref a))/\(σ.set i (some v))[1]?=some (some (.int c))):=λσ v h=>by
 rw[hU ∅,hU ∅];show h
variable{H:Hp}
theorem Ab{s1 s2 s3 s4 s5 s6 u:TS}{D:Ends}{σ:L2.St}(h:lY (lY s1 (lY s2 (lY s3 (lY s4 (lY s5 s6))))) u D σ H):lY s1 (lY s2 (lY s3 (lY s4 (lY s5 (lY s6 u))))) D σ H:=h
theorem M6{K:bY}{rest:TS}{D:Ends}{ns:List Int}(hS:jM K H a (ns.map V.int))(k:∀ first:Int,rest D [some (.ref a),some (.int first),none,none,none,none,none] H) :
  lY (oQ (tC (V.int 0)) (nN 1)) (lY (o5 (n9 (om (oz λi j=>decide (j<i)) (sU (rP K) (kG (lH 0) tNil)) (tC (V.int 0)))) (oQ (om (qi K) (lH 0) (tC (V.int 0))) (nN 1)) tNext) rest) D [some (.ref a),none,none,none,none,none,none] H:=by
 mstop;show(_, .inl hS,?_);mstop;cases ns with
 | nil=>show k 0
 | cons n ns=>
  rw[if_pos (by simp)];show Ea (i:=0) hS rfl (k n)
theorem JD{K:bY}{Pr:Hp}{t rest:TS}{D:Ends}{f:L2.St->CH->jE}{ρ0:List Nat}{first:Int}(h7:r7<7)(s:oI (λσ=>σ[0]?=some (some (.ref a))/\σ[1]?=some (some (.int first))) ⟨K,gS Ad,iF Ad,Pr,λ_=>False⟩ E0 t f)(c:pF ρ0 f r5 r7=true)(r:HR ⟨K,gS Ad,iF Ad,Pr,λ_=>False⟩ (iF Ad) c0 H)
  (k:∀(ι : List Addr)(x l:Addr)(v5 v6:Option V)(H':Hp),HR ⟨K,gS Ad,iF Ad,upd Pr l (.lst (rowsOf (tq r5 r7))),λ_=>False⟩ ι (hs 0) H'->Pr l=none->ι[17]?=some x->rest D [some (.ref a),some (.int first),some (.int (oj (tq r5 r7))),some (.ref x),some (.ref l),v5,v6] H') :
  lY t rest D [some (.ref a),some (.int first),none,none,none,none,none] H:=by
 show s (iF Ad) (gB 7 none) c0 _ H _ ⟨rfl,rfl⟩ ⟨rfl,λi v q=>by rw[jv]at q;split at q <;> cases q⟩ r ?_;unfold pF at c;split at c
 .rename_i φ h e;rw[e];split at c
  .rename_i w P G y C j;rw[jm]at y C j;simp only[cn,decide_eq_true_eq]at c;obtain⟨⟨⟨⟨⟨Y,U⟩,b⟩,S⟩,O⟩,c6⟩:=c;split at b
   .rename_i ys g;rw[jm]at g;have b:=of_decide_eq_true b;subst b;subst U;intro ι' σ' H' p E d z;let(u2,m,Q):=d.2 2 _ y;let(u3,u,N):=d.2 3 _ C;let(u4,o,T):=d.2 4 _ j;cases Q;let(B,ex,rfl):=N;let(F,n,rfl):=T;have M:G∉ρ0:=by simpa using O
    let(ι2,zs,hz,X,Z,J):=HR.guard E n g c6 M;have:=Lc (Gr _ (yQ h7)) X;subst this;have hx : ι2[17]?=some B:=(Z 17 P S).trans ex;have ln : σ'.length=7:=d.1.symm.trans (bN Y);let(a0,a1,a2,a3,a4,L,R,rfl):=xx ln;let(I,A):=z;simp at I A m u o;subst I A m u o;show k ι2 B F L R H' J (E.sep G F _ n g rfl) hx
   .cases b
  .cases c
 .cases c
noncomputable def uQ(d i:Nat):CH:=if iO i 6 then hs i else dk d
noncomputable def qm(h:CH):Bool:=match kr h 17 with
 | some (.ins C [(b,_),(t,_)])=>cj C 27&&decide (b="book")&&decide (t="thing")
 | _=>false
theorem K9:allB 7 (λi=>qm (hs i))=true:=by decide +kernel
variable{D0:Addr->Prop}
theorem KS{K:bY}{Pr:Hp}{h:CH}{x:Addr}(c:qm h=true)(r:HR ⟨K,gS Ad,iF Ad,Pr,D0⟩ ι h H)(hx : ι[17]?=some x):∃ C dx fs,H x=some (.ins C dx fs)/\vn Ad C/\fs.lookup (j0 "say")=none:=by
 unfold qm at c;split at c
 .rename_i C b j t i e;rw[jm]at e;simp only[cn,decide_eq_true_eq]at c;let((a,rfl),rfl):=c;have a:=bN a;subst a;let(dx,d,f,lk):=r.obj 17 x _ hx e;have g:=zv (mn:=j0 "say") lk;show(_,dx,d,f,rfl,g)
 .cases c
variable{d:Nat}
theorem JC{K:bY}{Pr:Hp}{rest:TS}{D:Ends}(hd:d<9){a x l:Addr}{first w:Int}{v5 v6:Option V}{H:Hp}{ι : List Addr}(r:HR ⟨K,gS Ad,iF Ad,Pr,D0⟩ ι (hs 0) H)(hp:Pr l=some (.lst (rowsOf d)))(hx : ι[17]?=some x)
  (k:∀(ι':List Addr)(v5:Option V)(H':Hp),HR ⟨K,gS Ad,iF Ad,Pr,D0⟩ ι' (dk d) H'->ι'[17]?=some x->rest D [some (.ref a),some (.int first),some (.int w),some (.ref x),some (.ref l),v5,v6] H') :
  lY (pU (ti K (lH 4)) (nN 5) (o5 (n9 (om (pC K) (xU (vn Ad) (j0 "say") (Hl K Ad) E0 (lH 3) (kG (lH 5) tNil)) (tC (V.str (j0 "ok"))))) (o4 (tC (V.bl false))) tNext)) rest D [some (.ref a),some (.int first),some (.int w),some (.ref x),some (.ref l),v5,v6] H:=by
 rw[JjH,Ji0];show(l,rfl,tN.byL (xs:=rowsOf d) (jM.of (r.pr l _ hp)) (λi σ H'=>∃ ι' v,σ=[some (.ref a),some (.int first),some (.int w),some (.ref x),some (.ref l),v,v6]/\HR ⟨K,gS Ad,iF Ad,Pr,D0⟩ ι' (uQ d i) H'/\ι'[17]?=some x) ⟨ι,v5,rfl,r,hx⟩ (λi σ H' ⟨ι',v,_,F,_⟩=>jM.of (F.pr l _ hp)) ?_ ?_)
 .rintro i y σ n b ⟨ι1,v,rfl,g,f⟩;have o:i<7/\(i=6->d≠0):=by
   have:=(cb.mp b).1;unfold rowsOf at this;split at this
   .simp at this;ac_nf
   .rename_i c;simp at this;show(this,λ_ z=>c (by rw[z];rfl))
  have G:uQ d i=hs i:=by
   unfold uQ;rw[if_pos (Nat.ble_eq_true_of_le ∅)]
  rw[G]at g;let(C,J,t,B,A,E):=KS (vY K9 i o.1) g f;have j:∃ ρ,ρ[17]?=some 17/\ri 17 (.str "ok") ρ (uQ d (i+1)) (uG y (hs i))=true:=by
   by_cases p:i=6
   .have q:=o.2 p;subst p;have e:y=rowd d:=by
     unfold rowsOf at b;rw[if_neg (λz=>q (bN z))]at b;show(gL b).symm
    subst e;have z:=ck_D (d-1) ∅;dsimp only at z;have M:d-1+1=d:=by ac_nf
    rw[M]at z;show(rhd d,?_,z);match d,hd,q with
    | 0,_,h=>show absurd rfl h
    | 1,_,_=>rfl
    | 2,_,_=>rfl
    | 3,_,_=>rfl
    | 4,_,_=>rfl
    | 5,_,_=>rfl
    | 6,_,_=>rfl
    | 7,_,_=>rfl
    | 8,_,_=>rfl
   .have m:i<6:=by ac_nf
    have e:y=rows i:=by
     unfold rowsOf at b;match i,m,b with
     | 0,_,b=>split at b <;> show(gL b).symm
     | 1,_,b=>split at b <;> show(gL b).symm
     | 2,_,b=>split at b <;> show(gL b).symm
     | 3,_,b=>split at b <;> show(gL b).symm
     | 4,_,b=>split at b <;> show(gL b).symm
     | 5,_,b=>split at b <;> show(gL b).symm
    subst e;have z:=(ck_S i m);show(rho i,?_,?_)
    .match i,m with
     | 0,_=>rfl
     | 1,_=>rfl
     | 2,_=>rfl
     | 3,_=>rfl
     | 4,_=>rfl
     | 5,_=>rfl
    .unfold uQ;rw[if_pos (Nat.ble_eq_true_of_le ∅)];show z
  let(ρ,hρ,c):=j;have u:V.free y=true:=kq.mp (Gr d hd) y (kL b);mstop;show(x,C,J,t,rfl,B,A,E,?_);show Am (us:=[.ref 17,y]) g ⟨.ref x,[y],rfl,⟨x,f,rfl⟩,y,[],rfl,RV.free u,rfl⟩ rfl c λι2 ι3 N I L s=>?_;mstop;show(ι3,_,rfl,s,(L 17 17 hρ).trans (ou I f))
 .rintro σ n ⟨ι1,v,rfl,g,f⟩;have e:uQ d (rowsOf d).length=dk d:=by
   unfold rowsOf uQ;by_cases c:d=0
   .subst c;rfl
   .rw[if_neg (λz=>c (bN z))];rfl
  rw[e]at g;show k ι1 v n g f
theorem Mg{K:bY}{H':Hp}{xs:List V}(h:jM K H a xs)(e:∀ o,H a=some o->H' a=some o):jM K H' a xs:=by
 rcases h with(h | ⟨o,h⟩) | h
 .show .inl (.inl (e _ h))
 .show .inl (.inr ⟨o,e _ h⟩)
 .show .inr h
theorem MR{K:bY}{Pr:Hp}{rest:TS}{D:Ends}(hd:d<9){a x l:Addr}{ns:List Int}{first:Int}{v5 v6:Option V}{H:Hp}{ι : List Addr}(hl:ns.length<=63)(hx : ι[17]?=some x)(hS:∀ H',HR ⟨K,gS Ad,iF Ad,Pr,D0⟩ ι (dk d) H'->jM K H' a (ns.map V.int))(r:HR ⟨K,gS Ad,iF Ad,Pr,D0⟩ ι (dk d) H)
  (k:∀(v6:Option V)(H':Hp),HR ⟨K,gS Ad,iF Ad,Pr,D0⟩ ι (dk d) H'->rest D [some (.ref a),some (.int first),some (.int (oj d)),some (.ref x),some (.ref l),v5,v6] H') :
  lY (pU (qH (kG (sU rMin (kG (sU (rP K) (kG (lH 0) tNil)) (kG (tC (V.int 63)) tNil))) tNil)) (nN 6) (lY (o5 (qZ (tB (nX (BI K Ad) [] E0 (kG (lH 3) (kG (om (pk K) (om vb (om rModU (om rMul0 (om (qi K) (lH 0) (lH 6)) (tC (V.int 48271))) (tC (V.int 2147483647))) (tC (V.int 37))) (lH 6)) tNil))))) (o4 (tC (V.bl false))) tNext)
   (o5 (q5 (n9 (om (oR K) (om rModU (lH 6) (tC (V.int 9))) (tC (V.int 0)))) (qZ (tB (nX (zS K Ad) [] E0 (kG (lH 3) (kG (lH 2) tNil)))))) (o4 (tC (V.bl false))) tNext))) rest D [some (.ref a),some (.int first),some (.int (oj d)),some (.ref x),some (.ref l),v5,v6] H:=by
 rw[JjH,JiZ];mstop;show(_, .inl (hS H r),?_);mstop;show(_,rfl,?_,?_,sr.by (λi σ H'=>∃ v,σ=[some (.ref a),some (.int first),some (.int (oj d)),some (.ref x),some (.ref l),v5,v]/\HR ⟨K,gS Ad,iF Ad,Pr,D0⟩ ι (dk d) H') ⟨v6,rfl,r⟩ ?_ ?_)
 .split <;> simp <;> ac_nf
 .split <;> simp <;> ac_nf
 .rintro i σ c g ⟨v,rfl,b⟩;have j:i<ns.length:=by
   rw[iz]at g;split at g <;> ac_nf
  mstop;rw[Int.zero_add];show Ea (i:=i) (hS c b) (show(ns.map V.int)[i]?=some (.int ns[i]) by simp[j]) ?_;mstop;mpure
  show(x,_,Pr,D0,ι,d,rfl,hd,hx,b,λn e=>?_);mstop;show(⋯,?_);by_cases f:(i:Int).fmod 9=0
  .rw[if_pos (by simpa using f)];show rK (us:=[.ref 17, .int (oj d)]) e ⟨.ref x,_,rfl,⟨x,hx,rfl⟩,_,[],rfl,rfl,rfl⟩ rfl ((ck_T d hd)) λm h=>?_;mstop;show(_,rfl,h)
  .rw[if_neg (by simpa using f)];show(_,rfl,e)
 .rintro σ c ⟨v,rfl,b⟩;show k v c b
theorem JE{K:bY}{Pr:Hp}{D:Ends}(hd:d<9){a x l:Addr}{first:Int}{v5 v6:Option V}{H:Hp}{ι : List Addr}(hw:oj d=0\/(∃ v:Nat,v<7/\d=v+1/\oj d=1/\(first.fdiv 5).fmod 7=(v:Int))\/d=8)(hx : ι[17]?=some x)(r:HR ⟨K,gS Ad,iF Ad,Pr,D0⟩ ι (dk d) H)(k:∀ H',D.rt (.bl true) H') :
  lY (o5 (q5 (n9 (om (oR K) (lH 2) (tC (V.int 1)))) (qZ (tB (nX (Hn K Ad) [] E0 (kG (lH 3) (kG (sT (kG (om rModU (om vb (lH 1) (tC (V.int 5))) (tC (V.int 7))) (kG (tC (V.int 1)) tNil))) tNil)))))) (o4 (tC (V.bl false))) tNext)
   (lY (o5 (q5 (n9 (om (oR K) (lH 2) (tC (V.int 2)))) (n9 (om (pC K) (nX (Hk K Ad) [] E0 (kG (lH 3) tNil)) (tC (V.str (j0 "nd")))))) (o4 (tC (V.bl false))) tNext)
    (o4 (nX (zS K Ad) [] E0 (kG (lH 3) (kG (lH 2) tNil))))) D [some (.ref a),some (.int first),some (.int (oj d)),some (.ref x),some (.ref l),v5,v6] H:=by
 have b:∀ f,HR ⟨K,gS Ad,iF Ad,Pr,D0⟩ ι (dk d) f->zS K Ad [.ref x, .int (oj d)] f D.rt E0:=λf g=>
  rK (us:=[.ref 17, .int (oj d)]) g ⟨.ref x,_,rfl,⟨x,hx,rfl⟩,_,[],rfl,rfl,rfl⟩ rfl ((ck_T d hd)) λi m=>k i
 mstop;rcases hw with hw | ⟨v,hv,rfl,hw,h7⟩ | rfl
 .have c:=b H r;rw[hw]at c ⊢;rw[if_neg ⋯,if_neg ⋯];show c
 .have c:=b;rw[hw]at c ⊢;rw[if_pos ⋯];show(xW ⋯,⋯,?_);rw[h7];show(by show 2<=sizeLine;decide,λp j=>?_);have h:HR ⟨K,gS Ad,iF Ad,Pr,D0⟩ (ι++[p]) (dk (v+1)++[.tup [.int v, .int 1]]) (upd H p (.tup [.int v, .int 1])):=r.new j ⟨_,md,⟨_,_,rfl,rfl,_,_,rfl,rfl,rfl⟩⟩;show A7 (us:=[.ref 17, .ref (dk (v+1)).length]) (h2:=dk (v+1)) r.len ⟨[p],rfl⟩ h ⟨.ref x,[.ref p],rfl,⟨x,ou ⟨[p],rfl⟩ hx,rfl⟩, .ref p,[],rfl,⟨p,vh r,rfl⟩,rfl⟩ rfl ((ck_A v hv)) λf g=>?_;mstop;rw[if_neg ⋯];show c f g
 .have c:=b;have e:oj 8=2:=rfl;rw[e]at c ⊢;rw[if_neg ⋯,if_pos ⋯];show rK (us:=[.ref 17]) r ⟨.ref x,[],rfl,⟨x,hx,rfl⟩,rfl⟩ rfl ck_G λf g=>?_;mstop;show c f g
theorem Mf{K:bY}(T:Txt K mg Ad){Pr H:Hp}(hp:∀ b o,Pr b=some o->H b=some o):HR ⟨K,gS Ad,iF Ad,Pr,λ_=>False⟩ (iF Ad) c0 H:=by
 have g:∀(n:Nat) o,c0[n]?=some o->o.own=false/\o.mut=false:=λn o e=>by
  have h:=kq.mp (show c0.all (λo=>!o.own&&!o.mut)=true from rfl) o (kL e);simpa using h
 show(rfl,λn a o d c=>?_,λn m a o l d c f j i k=>?_,hp,λn a o d c f=>?_,iS _,λb z=>z.elim)
 .match n,d,c with
  | 0,_,c=>cases c;trivial
  | 1,_,c=>cases c;trivial
  | 2,_,c=>cases c;trivial
  | 3,_,c=>cases c;trivial
  | 4,_,c=>cases c;trivial
  | 5,_,c=>cases c;trivial
  | 6,_,c=>cases c;trivial
  | 7,_,c=>cases c;trivial
  | 8,_,c=>cases c;trivial
  | 9,_,c=>cases c;trivial
  | 10,_,c=>cases c;trivial
  | 11,_,c=>cases c;trivial
  | 12,_,c=>cases c;trivial
  | 13,_,c=>cases c;trivial
  | 14,d,c=>cases d;cases c;show(_,T.Bhf H,wq rfl)
  | 15,d,c=>cases d;cases c;show(_,T.q_CHANGES H,wq rfl)
  | 16,_,c=>cases c;trivial
  | n+17,_,c=>cases c
 .rw[(g n o f).1]at i;cases i
 .rw[(g n o c).2]at f;cases f
abbrev tO:Stmt:=top 113
theorem uk:jn ["_law_script","_law_first","_law_way","_law_desk","_law_rows","_law_row_here","_law_k"] ["_law_script"] (iW tO):=by bv_decide
def yt(K:bY):Sp:=λvs H Q E=>∃(a:Addr)(ns:List Int),vs=[.ref a]/\jM K H a (ns.map V.int)/\ns.length<=63/\∀ H',Q (.bl true) H'
noncomputable def D_law:{G:Nat->Nat->L2.St->CH->jE // ∀{P:gN}{w:ik}{K:bY}{mg:Str->Option bV}{base:Heap}{Ad:nR}{f:Addr}{fd:iC}{dV:bV}{ρ0:List Nat}(F:"law"∘tO)(T:Txt K mg Ad)(BbK:GL P w K mg base Ad)(BbL:GX P w K mg base Ad)(Bbn:Ha P w K mg base Ad)(BcG:GH P w K mg base Ad)(m_say:vX P w K mg base Ad)(k_Desk:FF P w K mg base Ad)(HG:∀ r5 r7:Nat,r5<5->r7<7->pF ρ0 (G r5 r7) r5 r7=true),15∘["_law_script"]∘(yt K)}:=by
 apply bZ;intro P w K mg base Ad f fd dV ρ0 F T BbK BbL Bbn BcG m_say k_Desk HG;show F.okn uk (λvs H Q E h=>by let(_,_,rfl,_):=h;rfl) (λcdv A outer s H vs Q E hr h=>?_);let(a,ns,rfl,hS,hl,k):=h;have hu:=hr.units;show(_,(gH (iE 1 uk.nd jA) (gH (gM (j4 vS (nJ qg rfl T.Bc2 pQ %[pv 0|0]) jA (jB _)) (gQ (iE 1 uk.nd (!0)))
   j8) (gH (iE 2 uk.nd (kY ix_U (lO %[jA,jA,jA,jA,jA|0]) (gR sL (pv 1) jA))) (gH (iE 3 uk.nd (k_Desk.ev0 hr ⋯ rfl passF)) (gH (iE 4 uk.nd (lO %[gP,gP,gP,gP,gP|0])) (gH (oh (j7 gz gE gD qf (pv 4) %[gP|0] (hs:=by show p4 rfl))) (gH (gM (j4 (mR hu) (pv 2) jA (jB _)) (gQ (oh (j7 gz gE gD qf (pv 4) %[gR nQ gP (tL NX rfl T.BgH xX %[gR sL (gR pz (pv 1) jA) jA|0])|0] (hs:=by show p4 rfl))))
   j8) (gH (gM (j4 (mR hu) (pv 2) jA (jB _)) (gQ (oh (j7 gz gE gD qf (pv 4) %[gP|0] (hs:=by show p4 rfl))))
   j8) (gH (nD g9 rfl (jP (pv 4)) (kQ 5 uk.nd) (gQ (gM (j4 (qa hu) (m_say.m hr ⋯ passF (pv 3) %[pv 5|0]) gP (jB _)) (gQ (iX jw))
   j8))) (gH (nD g9 rfl (Gv rfl T.BgG %[nJ (NY rfl) rfl T.Bhk J9 %[nJ qg rfl T.Bc2 pQ %[pv 0|0],jA|0]|0]) (kQ 6 uk.nd) (gH (gM (ot (nH (BcG.ev hr ⋯ rfl passF %[pv 3,gR nQ (gR pz (gR sL (gR qO (kY ix_U (pv 0) (pv 6)) jA) jA) jA) (pv 6)|0]))) (gQ (iX jw))
   j8) (gQ (gM (PW.pt (tF (j4 (mR hu) (gR sL (pv 6) jA) jA (jB _)) (tJ (ot (nH (BbK.ev hr ⋯ rfl passF %[pv 3,pv 2|0])))))) (gQ (iX jw))
   j8)))) (gH (gM (PW.pt (tF (j4 (mR hu) (pv 2) jA (jB _)) (tJ (ot (nH (Bbn.ev hr ⋯ rfl passF %[pv 3,jF %[gR sL (gR pz (pv 1) jA) jA,jA|0]|0])))))) (gQ (iX jw))
   j8) (gH (gM (PW.pt (tF (j4 (mR hu) (pv 2) jA (jB _)) (tJ (j4 (qa hu) (BbL.ev hr ⋯ rfl passF %[pv 3|0]) gP (jB _))))) (gQ (iX jw))
   j8) (gQ (iX (BbK.ev hr ⋯ rfl passF %[pv 3,pv 2|0]))))))))))))))),?_)
 try simp only[rd_K]
 show lY _ _ _ [some (.ref a),none,none,none,none,none,none] H;show M6 hS λfirst=>?_;show Ab ?_;have rest:∀(c:Int)(m:Nat),0<m->∃ r:Nat,c.fmod (m:Int)=(r:Int)/\r<m:=λc m hm=>by
  have q:=Mth.fm (x:=c) (y:=(m:Int)) ∅;let(r,e):=Int.eq_ofNat_of_zero_le q.1;show(r,e,∅)
 let(r5,h5,l5):=rest first 5 ⋯;let(r7,h7,l7):=rest (first.fdiv 5) 7 ⋯;have h5:first.fmod 5=(r5:Int):=h5;have h7:(first.fdiv 5).fmod 7=(r7:Int):=h7;have HG5:=HG r5 r7 l5 l7;have hr0:HR ⟨K,gS Ad,iF Ad,λb=>if b=a then H a else none,λ_=>False⟩ (iF Ad) c0 H:=Mf T λb o q=>by
  split at q
  .rename_i z;rw[z];show q
  .cases q
 show JD (r5:=r5) (r7:=r7) l7 ?s HG5 hr0 λι x l v5 v6 H1 r1 pl hx=>?_;case s=>
  with_reducible
   apply mj;apply mP As;apply oY;show s_ix;apply Sm.p;apply jd;apply b6;show sC rfl;apply b6;show sC rfl;apply b6;show sC rfl;apply b6;show sC rfl;apply b6;show sC rfl;show sNil;show uO (λ_ h=>h.2) ⋯ (by assumption);apply mj;apply mP As;apply Sm.p;apply pL;show K4;decide;show sNil;apply mj;apply mP As;apply Sm.p;apply jd;apply b6;show sC rfl;apply b6;show sC rfl;apply b6;show sC rfl;apply b6;show sC rfl;apply b6;show sC rfl;show sNil;apply mj;apply qK;apply Ae ⋯;show qe;apply Sm.p;show bX;apply qL;apply Sm.p;show sC rfl;apply Sm.p;show sNil;apply mj;apply Eb;apply Sm.p;apply rL;apply kh;show s_eq;show bX;show sC rfl;apply qK;apply Ae ⋯;show qe;apply Sm.p;show bX;apply qL;apply oY;show nW;apply Sm.p;show sC rfl;apply Hr;show Qo;apply qL;show KR (λ_ h=>h.2) (xW ⋯) ⋯ (by assumption);apply Sm.p;show sNil;apply Sm.p;show sNil;show nextP;apply Eb;apply Sm.p;apply rL;apply kh;show s_eq;show bX;show sC rfl;apply qK;apply Ae ⋯;show qe;apply Sm.p;show bX;apply qL;apply Sm.p;show sC rfl;apply Sm.p;show sNil;show nextP
 show JC (yQ l7) r1 md hx λι2 v5 H2 r2 hx2=>?_;have hS2:∀ H',HR ⟨K,gS Ad,iF Ad,upd (λb=>if b=a then H a else none) l (.lst (rowsOf (tq r5 r7))),λ_=>False⟩ ι2 (dk (tq r5 r7)) H'->jM K H' a (ns.map V.int):=λH' r'=>Mg hS λo ho=>r'.pr a o (by
  show upd (λb=>if b=a then H a else none) l _ a=some o;rw[kk (λz=>by
   rw[<- z]at pl;rw[if_pos rfl,ho]at pl;cases pl)]
  rw[if_pos rfl];show ho)
 show MR (yQ l7) hl hx2 hS2 r2 λv6 H3 r3=>?_;show JE (yQ l7) ?_ hx2 r3 k;unfold tq;by_cases c3:r5=3
 .subst c3;show .inr (.inl ⟨r7,l7,rfl,?_,h7⟩);match r7,l7 with
  | 0,_=>rfl
  | 1,_=>rfl
  | 2,_=>rfl
  | 3,_=>rfl
  | 4,_=>rfl
  | 5,_=>rfl
  | 6,_=>rfl
 .rw[if_neg (λz=>c3 (bN z))];by_cases c4:r5=4
  .subst c4;show .inr (.inr rfl)
  .rw[if_neg (λz=>c4 (bN z))];show .inl rfl
end
theorem ck_P:allB 5 (λr5=>allB 7 λr7=>pF [0,1,2,3,4,5,6,7,8,9,10,11,12,13,14,15,16,18,20,24,27,28,29,21] (D_law.1 r5 r7) r5 r7)=true:=by decide +kernel
theorem Jf{P:gN}{w:ik}{K:bY}{mg:Str->Option bV}{base:Heap}{Ad:nR}{f:Addr}{fd:iC}{dV:bV}(F:mE K "law" "law" tO dV f fd)(T:Txt K mg Ad)(BbK:GL P w K mg base Ad)(BbL:GX P w K mg base Ad)(Bbn:Ha P w K mg base Ad)(BcG:GH P w K mg base Ad)(m_say:vX P w K mg base Ad)(k_Desk:FF P w K mg base Ad):lJ P w K mg base (kU P w) 15 f fd ["_law_script"] (yt K):=D_law.2 F T BbK BbL Bbn BcG m_say k_Desk λc a b d=>vY (vY ck_P c b) a d
end Prg
namespace Prg
open PySem L2 Ch Rn
theorem xB{α}{P:List α->Prop}(h:∀ a,P [a]):∀ us:List α,us.length=1->P us|[a],_=>h a
theorem xA{α}{P:List α->Prop}(h:∀ a b,P [a,b]):∀ us:List α,us.length=2->P us|[a,b],_=>h a b
theorem t9{α}{P:List α->Prop}(h:∀ a b c,P [a,b,c]):∀ us:List α,us.length=3->P us|[a,b,c],_=>h a b c
theorem xy{α}{P:List α->Prop}(h:∀ a b c d,P [a,b,c,d]):∀ us:List α,us.length=4->P us|[a,b,c,d],_=>h a b c d
theorem ua{α}{P:List α->Prop}{ds:List α}{n:Nat}(h:∀ a b c,P [a,b,c])(e:ds.length+3=n)(us:List α)(k:(us++ds).length=n):P us:=t9 h us (by rw[j6]at k;ac_nf)
def vH(K:bY)(f:Addr)(n q:Str)(s:Stmt)(d:bV):Prop:=∃ fd,mE K n q s d f fd/\ki K (.ref f)=true
def B4(K:bY)(f:Addr)(n:Str)(s:Stmt):Prop:=∃ fd,mE K n n s .none f fd/\ki K (.ref f)=true/\m9 K hW n=some (some (.ref f))
def B3(K:bY)(C f:Addr)(n q:Str)(s:Stmt):Prop:=vH K f n q s .none/\iL K (.ref C) n=some (some (.ref f))/\W.isFn K (.ref f)=true
variable{x:Str}{st:Stmt}{oc dc pm cd ct:bV}{od an:Option Addr}{sl:Array (Option bV)}
theorem fnG{K:bY}{f:Addr}{q:Str}{d:bV}{kV:bV}(l:K.lookup f=some ⟨oc,od, .func (lU x q (qT st) (pR st) (iW st) d kV dc pm an cd ct),sl⟩)(c:W.codeIn K cd q=true)(k:ki K (.ref f)=true):vH K f x q st d:=⟨_,BW l c k,k⟩
theorem fnA{K:bY}{f:Addr}{kV:bV}(a:m9 K hW x=some (some (.ref f)))(l:K.lookup f=some ⟨oc,od, .func (lU x x (qT st) (pR st) (iW st) .none kV dc pm an cd ct),sl⟩)(c:W.codeIn K cd x=true)(k:ki K (.ref f)=true):B4 K f x st:=⟨_,BW l c k,k,a⟩
theorem fnM{K:bY}{C f:Addr}{q:Str}(a:iL K (.ref C) x=some (some (.ref f)))(i:W.isFn K (.ref f)=true)(h:vH K f x q st .none):B3 K C f x q st:=⟨h,a,i⟩
local macro_rules|`($f:ident∘$n:str)=>`(m9 $(Lean.mkIdent `K) hW $n=some (some (.ref $f)))|`($i:num∘$n:str∘$t:ident)=>`(B4 $(Lean.mkIdent `K) $(Lean.mkIdent (.mkSimple s!"f{i.getNat}")) $n $t)|`($i:num∘$n:str∘$q:str∘$t:ident)=>`(vH $(Lean.mkIdent `K) $(Lean.mkIdent (.mkSimple s!"f{i.getNat}")) $n $q $t .none)
local macro_rules|`($c:ident∣$n:str)=>`(W.codeIn $(Lean.mkIdent `K) $c $n=true)
local macro_rules|`(-$f)=>`(ki $(Lean.mkIdent `K) (.ref $f)=true)
local macro_rules|`($f:ident/$n:str)=>`(iL $(Lean.mkIdent `K) (.ref $f) $n=some none)|`($f:ident/$n:str/$g:ident)=>`(iL $(Lean.mkIdent `K) (.ref $f) $n=some (some (.ref $g)))
local macro_rules|`(!$f:ident)=>`(mE.binds $f (by bv_omega))
local macro_rules|`(tactic|bv_omega)=>`(tactic|first|exact fun _ _ _ _ _ _=>xB fun _=>rfl|exact fun _ _ _ _ _ _=>xA fun _ _=>rfl|exact fun _ _ _ _ _ _=>t9 fun _ _ _=>rfl|exact fun _ _ _ _ _ _=>xy fun _ _ _ _=>rfl)
local macro_rules|`($n:str∘0)=>`(m9 $(Lean.mkIdent `K) hW $n=some none)|`($c:ident∘$d:ident∘0)=>`(iU $(Lean.mkIdent `K) (.ref $c) (.ref $d)=some false)|`($c:ident∘$d:ident∘1)=>`(iU $(Lean.mkIdent `K) (.ref $c) (.ref $d)=some true)|`($c:ident∘$d:ident∘2)=>`(W.mroIn $(Lean.mkIdent `K) $c (.ref $d)=some true)|`($c:ident∘$d:str∘2)=>`(W.mroIn $(Lean.mkIdent `K) $c (.type $d)=some true)|`($c:ident∘0)=>`(W.isFn $(Lean.mkIdent `K) (.ref $c)=true)|`($c:ident∘1)=>`(lF $(Lean.mkIdent `K) $c=true)|`($c:ident∘2)=>`(kx $(Lean.mkIdent `K) $c [.type "ValueError",.type "Exception",.type "BaseException",.type "object"] "ValueError.__new__"=true)|`($c:ident∘$n:str∘$b:str)=>`(iL $(Lean.mkIdent `K) (.ref $c) $n=some (some (.builtin $b)))|`($c:ident∘$i:num∘$n:str∘$q:str∘$t:ident)=>`(B3 $(Lean.mkIdent `K) $c $(Lean.mkIdent (.mkSimple s!"f{i.getNat}")) $n $q $t)|`(!$l:ident*$g)=>`($(Lean.mkIdent `cC) $l $g (by bv_omega))
theorem all_mk{l:W.OpenLaw}{w:ik}{K:bY}{h:Heap}{mg:Str->Option bV}{fa:Addr}{SlackError NoNumber NoTie Twice NoName NoFace Impossible NoPart NoGap InRing Apart Tight Off NoRow Tie Free AtLeast AtMost Just Between Scale Step Part Gap Joints Thing Lid Book Desk f1 T1 f2 T2 f3 f4 f5 f6 f7 f8 f9 f10 f11 f12 f13 f14 f15 f16 f17 f18 f19 f20 f21 f22 f23 f24 f25 f26 f27 f28 f29 f30 f31 f32 f33 f34 f35 f36 f37 f38 f39 f40 f41 f42 f43 f44 f45 f46 f47 f48 f49 f50 f51 f52 f53 f54 f55 f56 f57 f58 f59 f60 f61 f62 f63 f64 f65 f66 f67 f68 f69 f70 f71 f72 f73 f74 f75 f76 f77 f78 f79 f80 f81 f82 f83 f84 f85 f86 f87 f88 f89 f90 f91 f92 f93 f94 f95 f96 f97 f98 f99 f100 f101 f102 f103 ZERO FORMS CHANGES xN_Impossible xN_Tight:Addr}{tc1:bV}{td1:Option Addr}{tn1:Nat}{ts1:Array (Option bV)}{tk1a:Tok}{tc2:bV}{td2:Option Addr}{tn2:Nat}{ts2:Array (Option bV)}{tk2a tk2b:Tok}{od103 an103:Option Addr}{sl103:Array (Option bV)}{oc103 kV103 dc103 pm103 cd103 ct103:bV}{Baa:Tok}{Bab:Tok}{Bg3:Option Addr}{Bg4:Nat}{Bg5:Array (Option bV)}{BgV BgW:Tok}{ct_FIGURES:Tok}{ct_MOST_FIGURES:Tok}{cd_CHANGES:Option Addr}{cn_CHANGES:Nat}{cs_CHANGES:Array (Option bV)}{ct0_CHANGES ct1_CHANGES ct2_CHANGES ct3_CHANGES ct4_CHANGES ct5_CHANGES:Tok}{ct_LACKING:Tok}{xd_Impossible:Option Addr}{xnm_Impossible xq_Impossible:Str}{xbs_Impossible xsub_Impossible:List bV}{xsn_Impossible:List Str}{xab_Impossible:Bool}{xcol_Impossible:Option Bool}{xk0_Impossible xk1_Impossible xk2_Impossible xk3_Impossible xk5_Impossible:Option bV}{xd_Tight:Option Addr}{xnm_Tight xq_Tight:Str}{xbs_Tight xsub_Tight:List bV}{xsn_Tight:List Str}{xab_Tight:Bool}{xcol_Tight:Option Bool}{xk0_Tight xk1_Tight xk2_Tight xk3_Tight xk5_Tight:Option bV}(X:K.In h)(G:h.Ns hW mg)(hfa:mg "law"=some (.ref fa))
 (aa:SlackError∘"SlackError") (ab:NoNumber∘"NoNumber") (ac:NoTie∘"NoTie") (ad:Twice∘"Twice") (ae:NoName∘"NoName") (af:NoFace∘"NoFace") (ag:Impossible∘"Impossible") (ah:NoPart∘"NoPart") (ai:NoGap∘"NoGap") (aj:InRing∘"InRing") (ak:Apart∘"Apart") (al:Tight∘"Tight") (am:Off∘"Off") (an:NoRow∘"NoRow") (ao:Tie∘"Tie") (ap:Free∘"Free") (aq:AtLeast∘"AtLeast") (ar:AtMost∘"AtMost") (au:Just∘"Just") (av:Between∘"Between") (aw:Scale∘"Scale") (ax:Step∘"Step") (ay:Part∘"Part") (az:Gap∘"Gap") (aA:Joints∘"Joints") (aB:Thing∘"Thing") (aC:Lid∘"Lid") (aD:Book∘"Book") (aE:Desk∘"Desk") (a1:Impossible/"__init__"/f1) (l1:vH K f1 "__init__" "Impossible.__init__" Du (.ref T1)) (t1:K.lookup T1=some ⟨tc1,td1, .seq #[.str "" tk1a, .none] tn1,ts1⟩) (a2:Tight/"__init__"/f2) (l2:vH K f2 "__init__" "Tight.__init__" Do (.ref T2)) (t2:K.lookup T2=some ⟨tc2,td2, .seq #[.str "" tk2a, .str "" tk2b] tn2,ts2⟩) (l3:3∘"common_divisor"∘Dm) (l4:4∘"plus"∘B7) (l5:5∘"minus"∘Cb) (l6:6∘"times"∘Ca) (l7:7∘"over"∘B6) (l8:8∘"under"∘B9) (l9:9∘"show_fraction"∘Dh) (a10:Scale/"__init__"/f10) (l10:10∘"__init__"∘"Scale.__init__"∘Dl) (l11:Scale∘11∘"lifted"∘"Scale.lifted"∘DJ) (l12:Scale∘12∘"lowered"∘"Scale.lowered"∘Dg) (l13:13∘"is_name"∘Cj) (l14:14∘"is_whole"∘CW) (l15:15∘"is_fraction"∘DB) (l16:16∘"is_bound"∘CV) (l17:17∘"are_faces"∘Cw) (l18:18∘"are_bounds"∘DS) (l19:19∘"is_tie"∘Cg) (a20:Tie/"__init__"/f20) (l20:20∘"__init__"∘"Tie.__init__"∘DI) (a21:Tie/"steps"/f21) (l21:21∘"steps"∘"Tie.steps"∘Cv) (l22:22∘"tie_of"∘Cf) (l23:23∘"faces_of"∘CU) (l24:24∘"steps_by_pair"∘Df) (l25:25∘"chain_ends"∘DR) (l26:26∘"chain_sum"∘Cu) (a27:Step/"__init__"/f27) (l27:27∘"__init__"∘"Step.__init__"∘DO) (l28:28∘"steps_of"∘CT) (l29:29∘"ring_behind"∘DA) (l30:30∘"last_steps"∘DQ) (l31:31∘"chains_from"∘Dz) (l32:32∘"places_of"∘Ct) (l33:33∘"gap_between"∘Dy) (a34:Book/"__init__"/f34) (l34:34∘"__init__"∘"Book.__init__"∘DN) (l35:Book∘35∘"kept"∘"Book.kept"∘Cr) (l36:Book∘36∘"faces"∘"Book.faces"∘DP) (l37:Book∘37∘"put"∘"Book.put"∘CS) (l38:Book∘38∘"drop"∘"Book.drop"∘Cq) (l39:Book∘39∘"placing"∘"Book.placing"∘DH) (l40:Book∘40∘"ring"∘"Book.ring"∘C8) (l41:Book∘41∘"check_faces"∘"Book.check_faces"∘Ds) (l42:Book∘42∘"chains_of"∘"Book.chains_of"∘Dk) (l43:Book∘43∘"gap"∘"Book.gap"∘CQ) (l44:Gap∘44∘"plain"∘"Gap.plain"∘C7) (l45:Thing∘45∘"gaps"∘"Thing.gaps"∘CL) (l46:Part∘46∘"plain"∘"Part.plain"∘CK) (l47:Thing∘47∘"parts"∘"Thing.parts"∘Dx) (l48:48∘"scale_of"∘CP) (l49:Thing∘49∘"way"∘"Thing.way"∘C6) (l50:50∘"part_names"∘CJ) (a51:Lid/"__init__"/f51) (l51:51∘"__init__"∘"Lid.__init__"∘DG) (l52:Lid∘52∘"full_level"∘"Lid.full_level"∘Dj) (l53:Lid∘53∘"settle"∘"Lid.settle"∘CI) (l54:Lid∘54∘"has_stopped"∘"Lid.has_stopped"∘Dq) (l55:Thing∘55∘"middle"∘"Thing.middle"∘DF) (l56:Thing∘56∘"room"∘"Thing.room"∘CG) (l57:57∘"lids_of"∘Ci) (l58:58∘"most_levels"∘Dw) (l59:59∘"coming_stops"∘DE) (l60:60∘"first_level"∘Dv) (l61:61∘"stopped_at"∘CF) (l62:62∘"risen_levels"∘DD) (l63:63∘"gap_stop"∘CN) (l64:64∘"share"∘B8) (l65:65∘"is_part"∘Cp) (l66:66∘"is_gap"∘Ce) (a67:Part/"__init__"/f67) (l67:67∘"__init__"∘"Part.__init__"∘DM) (a68:Gap/"__init__"/f68) (l68:68∘"__init__"∘"Gap.__init__"∘DC) (l69:69∘"part_of"∘Co) (l70:70∘"gap_of"∘Cd) (a71:Joints/"__init__"/f71) (l71:71∘"__init__"∘"Joints.__init__"∘Dp) (l72:Joints∘72∘"link"∘"Joints.link"∘DX) (l73:Joints∘73∘"way_between"∘"Joints.way_between"∘Dt) (a74:Thing/"__init__"/f74) (l74:74∘"__init__"∘"Thing.__init__"∘Di) (l75:75∘"part_named"∘CD) (l76:76∘"gap_named"∘C5) (l77:77∘"with_row"∘CM) (l78:78∘"is_off"∘Cc) (l79:79∘"measured"∘De) (l80:80∘"changed"∘Cn) (l81:81∘"is_written_whole"∘Dr) (l82:82∘"read_whole"∘CC) (l83:83∘"read_bottom"∘DW) (l84:84∘"read_fraction"∘DL) (l85:85∘"read_name"∘C4) (l86:86∘"read_word"∘C3) (l87:87∘"read_row"∘Dd) (l88:88∘"show_bound"∘CB) (l89:89∘"show_step"∘C0) (l90:90∘"show_ring"∘CZ) (l91:91∘"show_share"∘CA) (a92:Desk/"__init__"/f92) (l92:92∘"__init__"∘"Desk.__init__"∘DK) (l93:Desk∘93∘"answer"∘"Desk.answer"∘DV) (l94:Desk∘94∘"change"∘"Desk.change"∘DU) (l95:Desk∘95∘"say"∘"Desk.say"∘Da) (l96:96∘"_law_no_row"∘Cz) (l97:97∘"_law_row"∘Cm) (l98:98∘"_law_refused"∘DT) (l99:99∘"_law_around"∘Cy) (l100:100∘"_law_tight"∘CY) (l101:101∘"_law_one"∘Ck) (l102:102∘"_law_told"∘C9) (a103:f103∘"law") (l103:K.lookup f103=some ⟨oc103,od103, .func (lU "law" "law" (qT tO) (pR tO) (iW tO) .none kV103 dc103 pm103 an103 cd103 ct103),sl103⟩) (c103:cd103∣"law") (k103:-f103) (aF:"ValueError"∘0) (aG:"abs"∘0) (aH:"all"∘0) (aI:"bool"∘0) (aJ:"dict"∘0) (aK:"int"∘0) (aL:"isinstance"∘0) (aM:"len"∘0) (aN:"list"∘0) (aO:"min"∘0) (aP:"range"∘0) (aQ:"reversed"∘0) (aR:"sorted"∘0) (aS:"str"∘0) (aT:"sum"∘0) (aU:"tuple"∘0) (aV:"zip"∘0) (aW:m9 K hW "SMALL_LETTERS"=some (some (.str "abcdefghijklmnopqrstuvwxyz" Baa))) (aX:m9 K hW "LONGEST_NAME"=some (some (.int 8 Bab))) (aY:ZERO∘"ZERO") (aZ:K.lookup ZERO=some ⟨.type "tuple",Bg3, .seq #[.int 0 BgV, .int 1 BgW] Bg4,Bg5⟩) (a0:m9 K hW "FIGURES"=some (some (.str "0123456789" ct_FIGURES))) (ba:m9 K hW "MOST_FIGURES"=some (some (.int 60 ct_MOST_FIGURES))) (bb:FORMS∘"FORMS") (bc:pX K FORMS AA=true) (bd:CHANGES∘"CHANGES") (be:K.lookup CHANGES=some ⟨.type "tuple",cd_CHANGES, .seq #[.str "tie" ct0_CHANGES, .str "part" ct1_CHANGES, .str "need" ct2_CHANGES, .str "untie" ct3_CHANGES, .str "measure" ct4_CHANGES, .str "bound" ct5_CHANGES] cn_CHANGES,cs_CHANGES⟩) (bf:m9 K hW "LACKING"=some (some (.str "-" ct_LACKING))) (bg:SlackError∘2) (bh:NoNumber∘2) (bi:NoTie∘2) (bj:Twice∘2) (bk:NoName∘2) (bl:NoFace∘2) (bm:NoPart∘2) (bn:NoGap∘2) (bo:InRing∘2) (bp:Apart∘2) (bq:Off∘2) (br:NoRow∘2) (bs:K.lookup Impossible=some (mG xnm_Impossible xq_Impossible Impossible xN_Impossible xbs_Impossible (.ref SlackError::tP) true xsn_Impossible xsub_Impossible xab_Impossible xcol_Impossible xd_Impossible xk0_Impossible xk1_Impossible xk2_Impossible xk3_Impossible xk5_Impossible "ValueError.__new__")) (bt:K.lookup Tight=some (mG xnm_Tight xq_Tight Tight xN_Tight xbs_Tight (.ref SlackError::tP) true xsn_Tight xsub_Tight xab_Tight xcol_Tight xd_Tight xk0_Tight xk1_Tight xk2_Tight xk3_Tight xk5_Tight "ValueError.__new__")) (bu:Mk K Free f20) (bv:Mk K AtLeast f20) (bw:Mk K AtMost f20) (bx:Mk K Just f20) (bz:Mk K Between f20) (bA:Mk K Scale f10) (bB:Mk K Step f27) (bC:Mk K Part f67) (bD:Mk K Gap f68) (bE:Mk K Joints f71) (bF:Mk K Thing f74) (bG:Mk K Lid f51) (bH:Mk K Book f34) (bI:Mk K Desk f92) (bJ:f1∘0) (bK:-Impossible) (bL:f2∘0) (bM:-Tight) (bP:Free/"steps"/f21) (bQ:AtLeast/"steps"/f21) (bR:AtMost/"steps"/f21) (bS:Just/"steps"/f21) (bT:Between/"steps"/f21) (bU:f21∘0) (cs:TieC K Free) (ct:TieC K AtLeast) (cu:TieC K AtMost) (cv:TieC K Just) (cw:TieC K Between) (cx:Eg K Scale) (cy:StepC K Step) (cz:PartC K Part) (cA:GapC K Gap) (cD:EE K Joints) (cE:Ef K Thing) (cF:LidC K Lid) (cG:BookC K Book) (cH:DeskC K Desk) (cI:W.specialIn K (.builtin "object.__class__") "__get__"=some (some (.builtin "getset_descriptor.__get__"))) (cJ:W.takesIn K (.builtin "object.__class__")=some true) (cL:W.specialIn K (.ref SlackError) "__getattribute__"=some (some (.builtin "type.__getattribute__"))) (cN:W.readsIn K SlackError (.type "type")=true) (cO:W.findCls K (.ref SlackError) (.type "type") "__init__"=some (.val (.builtin "ValueError.__init__"))) (cP:NoTie∘1) (cQ:NoTie∘"BaseException"∘2) (cR:Twice∘1) (cS:Twice∘"BaseException"∘2) (cT:NoName∘1) (cU:NoName∘"BaseException"∘2) (cV:NoFace∘1) (cW:NoFace∘"BaseException"∘2) (cX:Impossible∘1) (cY:Impossible∘"BaseException"∘2) (cZ:NoPart∘1) (c0:NoPart∘"BaseException"∘2) (c1:NoGap∘1) (c2:NoGap∘"BaseException"∘2) (c3:InRing∘1) (c4:InRing∘"BaseException"∘2) (c5:Apart∘1) (c6:Apart∘"BaseException"∘2) (c7:Tight∘1) (c8:Tight∘"BaseException"∘2) (c9:Off∘1) (da:Off∘"BaseException"∘2) (db:NoRow∘1) (dc:NoRow∘"BaseException"∘2) (dd:SlackError∘1) (de:SlackError∘"BaseException"∘2) (df:W.typeIn K (.ref SlackError)=some (.type "type")) (dg:W.typeIn K (.ref Impossible)=some (.type "type")) (dh:W.typeIn K (.ref Tight)=some (.type "type")) (di:NoTie∘"__getattribute__"∘"BaseException.__getattribute__") (dj:NoTie/"__getattr__") (dk:NoTie∘"__class__"∘"object.__class__") (dl:NoTie∘"object"∘2) (dm:NoTie∘SlackError∘2) (dn:Kit K NoTie 2 NoNumber NoTie Twice NoName NoFace Impossible NoPart NoGap InRing Apart Tight Off NoRow) (dp:Twice∘"__getattribute__"∘"BaseException.__getattribute__") (dq:Twice/"__getattr__") (dr:Twice∘"__class__"∘"object.__class__") (ds:Twice∘"object"∘2) (dt:Twice∘SlackError∘2) (du:Kit K Twice 3 NoNumber NoTie Twice NoName NoFace Impossible NoPart NoGap InRing Apart Tight Off NoRow) (dv:NoName∘"__getattribute__"∘"BaseException.__getattribute__") (dw:NoName/"__getattr__") (dx:NoName∘"__class__"∘"object.__class__") (dy:NoName∘"object"∘2) (dz:NoName∘SlackError∘2) (dA:Kit K NoName 4 NoNumber NoTie Twice NoName NoFace Impossible NoPart NoGap InRing Apart Tight Off NoRow) (dB:NoFace∘"__getattribute__"∘"BaseException.__getattribute__") (dC:NoFace/"__getattr__") (dD:NoFace∘"__class__"∘"object.__class__") (dE:NoFace∘"object"∘2) (dF:NoFace∘SlackError∘2) (dG:Kit K NoFace 5 NoNumber NoTie Twice NoName NoFace Impossible NoPart NoGap InRing Apart Tight Off NoRow) (dH:Impossible∘"__getattribute__"∘"BaseException.__getattribute__") (dI:Impossible/"__getattr__") (dJ:Impossible∘"__class__"∘"object.__class__") (dK:Impossible∘"object"∘2) (dL:Impossible∘SlackError∘2) (dM:Kit K Impossible 6 NoNumber NoTie Twice NoName NoFace Impossible NoPart NoGap InRing Apart Tight Off NoRow) (dN:NoPart∘"__getattribute__"∘"BaseException.__getattribute__") (dO:NoPart/"__getattr__") (dP:NoPart∘"__class__"∘"object.__class__") (dQ:NoPart∘"object"∘2) (dR:NoPart∘SlackError∘2) (dS:Kit K NoPart 7 NoNumber NoTie Twice NoName NoFace Impossible NoPart NoGap InRing Apart Tight Off NoRow) (dT:NoGap∘"__getattribute__"∘"BaseException.__getattribute__") (dU:NoGap/"__getattr__") (dV:NoGap∘"__class__"∘"object.__class__") (dW:NoGap∘"object"∘2) (dX:NoGap∘SlackError∘2) (dY:Kit K NoGap 8 NoNumber NoTie Twice NoName NoFace Impossible NoPart NoGap InRing Apart Tight Off NoRow) (dZ:InRing∘"__getattribute__"∘"BaseException.__getattribute__") (d0:InRing/"__getattr__") (d1:InRing∘"__class__"∘"object.__class__") (d2:InRing∘"object"∘2) (d3:InRing∘SlackError∘2) (d4:Kit K InRing 9 NoNumber NoTie Twice NoName NoFace Impossible NoPart NoGap InRing Apart Tight Off NoRow) (d5:Apart∘"__getattribute__"∘"BaseException.__getattribute__") (d6:Apart/"__getattr__") (d7:Apart∘"__class__"∘"object.__class__") (d8:Apart∘"object"∘2) (d9:Apart∘SlackError∘2) (ea:Kit K Apart 10 NoNumber NoTie Twice NoName NoFace Impossible NoPart NoGap InRing Apart Tight Off NoRow) (eb:Tight∘"__getattribute__"∘"BaseException.__getattribute__") (ec:Tight/"__getattr__") (ed:Tight∘"__class__"∘"object.__class__") (ee:Tight∘"object"∘2) (ef:Tight∘SlackError∘2) (eg:Kit K Tight 11 NoNumber NoTie Twice NoName NoFace Impossible NoPart NoGap InRing Apart Tight Off NoRow) (eh:Off∘"__getattribute__"∘"BaseException.__getattribute__") (ei:Off/"__getattr__") (ej:Off∘"__class__"∘"object.__class__") (ek:Off∘"object"∘2) (el:Off∘SlackError∘2) (em:Kit K Off 12 NoNumber NoTie Twice NoName NoFace Impossible NoPart NoGap InRing Apart Tight Off NoRow) (en:NoRow∘"__getattribute__"∘"BaseException.__getattribute__") (eo:NoRow/"__getattr__") (ep:NoRow∘"__class__"∘"object.__class__") (eq:NoRow∘"object"∘2) (er:NoRow∘SlackError∘2) (es:Kit K NoRow 13 NoNumber NoTie Twice NoName NoFace Impossible NoPart NoGap InRing Apart Tight Off NoRow) (et:Impossible∘"__setattr__"∘"object.__setattr__") (eu:Impossible/"around") (ev:Impossible∘Impossible∘2) (ew:Tight∘"__setattr__"∘"object.__setattr__") (ex:Tight/"tight_gap") (ey:Tight∘Tight∘2)
  : ∃ fd:iC,(∀(s:b8)(v:bV),BindsTo s fd ⟨[v],[]⟩ [("_law_script",v)])/\∀ base:Heap,K.In base->base.Ns hW mg->lJ l.prog w K mg base (kU l.prog w) 15 fa fd ["_law_script"] (yt K):=by
 have e:=hfa.symm.trans (W.mg_of X G a103);cases e;have o:∀{x:Str}{v:bV},m9 K hW x=some (some v)->mg x=some v:=λh=>W.mg_of X G h;have n:∀{x:Str},m9 K hW x=some none->mg x=none:=λh=>W.mg_none_of X G h;have T:Txt K mg ⟨SlackError,NoNumber,NoTie,Twice,NoName,NoFace,Impossible,NoPart,NoGap,InRing,Apart,Tight,Off,NoRow,Tie,Free,AtLeast,AtMost,Just,Between,Scale,Step,Part,Gap,Joints,Thing,Lid,Book,Desk,(.str "abcdefghijklmnopqrstuvwxyz" Baa),(.int 8 Bab),ZERO,(.str "0123456789" ct_FIGURES),(.int 60 ct_MOST_FIGURES),FORMS,CHANGES,(.str "-" ct_LACKING)⟩:=⟨n aF,n aG,n aH,n aI,n aJ,n aK,n aL,n aM,n aN,n aO,n aP,n aQ,n aR,n aS,n aT,n aU,n aV,o aa,o ab,o ac,o ad,o ae,o af,o ag,o ah,o ai,o aj,o ak,o al,o am,o an,o ao,o ap,o aq,o ar,o au,o av,o aw,o ax,o ay,o az,o aA,o aB,o aC,o aD,o aE,o aW,⟨_,rfl⟩,o aX,⟨_,rfl⟩,o aY,rfl,λH=>.inr ⟨_,_,_,aZ,rfl,rfl,by show 2<=sizeLine;decide, .cons ⟨_,rfl⟩ (.cons ⟨_,rfl⟩ (.nil))⟩,o a0,⟨_,rfl⟩,o ba,⟨_,rfl⟩,o bb,rfl,bc,o bd,rfl,λH=>.inr ⟨_,_,_,be,rfl,rfl,by show 6<=sizeLine;decide, .cons ⟨_,rfl⟩ (.cons ⟨_,rfl⟩ (.cons ⟨_,rfl⟩ (.cons ⟨_,rfl⟩ (.cons ⟨_,rfl⟩ (.cons ⟨_,rfl⟩ (.nil))))))⟩,o bf,⟨_,rfl⟩,bg,bh,bi,bj,bk,bl,bm,bn,bo,bp,bq,br,(λC hC=>by rcases hC with rfl | rfl | rfl | rfl | rfl<;>assumption),(λC hC=>by cases hC;show cx),(λC hC=>by cases hC;show cy),(λC hC=>by cases hC;show cz),(λC hC=>by cases hC;show cA),(λC hC=>by cases hC;show cD),(λC hC=>by cases hC;show cE),(λC hC=>by cases hC;show cF),(λC hC=>by cases hC;show cG),(λC hC=>by cases hC;show cH),⟨cL,cN,cO⟩,⟨cP,di,dj,dk,cI,cJ,dl,cQ⟩,⟨dd,df,de,dm⟩,dn,⟨cR,dp,dq,dr,cI,cJ,ds,cS⟩,⟨dd,df,de,dt⟩,du,⟨cT,dv,dw,dx,cI,cJ,dy,cU⟩,⟨dd,df,de,dz⟩,dA,⟨cV,dB,dC,dD,cI,cJ,dE,cW⟩,⟨dd,df,de,dF⟩,dG,⟨cX,dH,dI,dJ,cI,cJ,dK,cY⟩,⟨dd,df,de,dL⟩,dM,⟨cZ,dN,dO,dP,cI,cJ,dQ,c0⟩,⟨dd,df,de,dR⟩,dS,⟨c1,dT,dU,dV,cI,cJ,dW,c2⟩,⟨dd,df,de,dX⟩,dY,⟨c3,dZ,d0,d1,cI,cJ,d2,c4⟩,⟨dd,df,de,d3⟩,d4,⟨c5,d5,d6,d7,cI,cJ,d8,c6⟩,⟨dd,df,de,d9⟩,ea,⟨c7,eb,ec,ed,cI,cJ,ee,c8⟩,⟨dd,df,de,ef⟩,eg,⟨c9,eh,ei,ej,cI,cJ,ek,da⟩,⟨dd,df,de,el⟩,em,⟨db,en,eo,ep,cI,cJ,eq,dc⟩,⟨dd,df,de,er⟩,es,⟨et,eu⟩,⟨cX,dH,dI,eu,cY⟩,⟨cX,dg,cY,ev⟩,⟨SlackError,_,bg,⟨_,_,_,_,_,_,_,_,_,_,_,_,_,_,bs⟩,a1,bJ,bK⟩,⟨ew,ex⟩,⟨c7,eb,ec,ex,c8⟩,⟨c7,dh,c8,ey⟩,⟨SlackError,_,bg,⟨_,_,_,_,_,_,_,_,_,_,_,_,_,_,bt⟩,a2,bL,bM⟩⟩;let(_,F1,k1):=l1;have b1:=F1.bindsD (ps:=["self","words","around"]) t1 rfl [] λ_ _ _ _ _ _=>ua (λ_ _ _=>⟨_,rfl,rfl⟩) rfl;let(_,F2,k2):=l2;have b2:=F2.bindsD (ps:=["self","words","tight_gap"]) t2 rfl [] λ_ _ _ _ _ _=>ua (λ_ _ _=>⟨_,rfl,rfl⟩) rfl;let(_,F21,k21):=l21;have F103:=BW l103 c103 k103;show(lU "law" "law" (qT tO) (pR tO) (iW tO) .none kV103 dc103 pm103 an103 cd103 ct103,λs v=>.of_eq rfl,λbase _ _=>?_);have cM:∀{ps:List Str}{sp:Sp}{fd:iC}{k:Nat}{m:Str}{Cs:Addr->Prop}{f:Addr},lJ l.prog w K mg base (kU l.prog w) k f fd ps sp->(∀ C,Cs C->Cls K C/\u5 K C m f)->ki K (.ref f)=true->Binds K fd ps []->km l.prog w K mg base k m Cs ps sp:=λh a c b=>⟨_,_,h,a,c,b⟩;have cC:∀{ps:List Str}{sp:Sp}{k:Nat}{x:Str}{f:Addr}{st:Stmt},B4 K f x st->(∀{fd:iC},mE K x x st .none f fd->lJ l.prog w K mg base (kU l.prog w) k f fd ps sp)->(∀(kV dc pm:bV)(an:Option Addr)(cd ct:bV)(us:List bV),us.length=ps.length->bindArgs (lU x x (qT st) (pR st) (iW st) .none kV dc pm an cd ct) ⟨us,[]⟩=pure (ps.zip us))->kR l.prog w K mg base k x ps [] sp:=λ⟨_,F,c,a⟩ g b=>⟨_,_,[],g F,o a,c,F.binds b, .nil⟩;have cK:∀{ps:List Str}{sp:Sp}{k:Nat}{x y q:Str}{f C:Addr}{st:Stmt},vH K f x q st .none->(∀{fd:iC},mE K x q st .none f fd->lJ l.prog w K mg base (kU l.prog w) k f fd ps sp)->m9 K hW y=some (some (.ref C))->Mk K C f->(∀(kV dc pm:bV)(an:Option Addr)(cd ct:bV)(us:List bV),us.length=ps.length->bindArgs (lU x q (qT st) (pR st) (iW st) .none kV dc pm an cd ct) ⟨us,[]⟩=pure (ps.zip us))->nB l.prog w K mg base k y C ps sp:=λ⟨_,F,_⟩ g a c b=>⟨_,_,g F,o a,c,F.binds b⟩;have c':∀{ps:List Str}{sp:Sp}{k:Nat}{x q:Str}{f C:Addr}{st:Stmt},B3 K C f x q st->(∀{fd:iC},mE K x q st .none f fd->lJ l.prog w K mg base (kU l.prog w) k f fd ps sp)->Cls K C->(∀(kV dc pm:bV)(an:Option Addr)(cd ct:bV)(us:List bV),us.length=ps.length->bindArgs (lU x q (qT st) (pR st) (iW st) .none kV dc pm an cd ct) ⟨us,[]⟩=pure (ps.zip us))->km l.prog w K mg base k x (·=C) ps sp:=λ⟨⟨_,F,c⟩,a,i⟩ g d b=>⟨_,_,g F,(λD e=>by cases e;show(d,a,i,c)),c,F.binds b⟩;have K1:=D_Impossibleuu_inituu.2.use (P:=l.prog) (w:=w) (base:=base) F1 T trivial;have ez:rj l.prog w K mg base 1 "Impossible" Impossible SlackError ["self","words","around"] (Ho K _):=⟨f1,_,K1,W.mg_of X G ag,⟨bg,⟨_,_,_,_,_,_,_,_,_,_,_,_,_,_,bs⟩,a1,bJ,bK⟩,b1⟩;have K2:=D_Tightuu_inituu.2.use (P:=l.prog) (w:=w) (base:=base) F2 T trivial;have eA:rj l.prog w K mg base 1 "Tight" Tight SlackError ["self","words","tight_gap"] (Hm K _):=⟨f2,_,K2,W.mg_of X G al,⟨bg,⟨_,_,_,_,_,_,_,_,_,_,_,_,_,_,bt⟩,a2,bL,bM⟩,b2⟩;have eB:=!l3*(D_common_divisor.2.use · T trivial);have eC:=!l4*(D_plus.2.use · T eB);have eD:=!l5*(D_minus.2.use · T eC);have eE:=!l6*(D_times.2.use · T eB);have eF:=!l7*(D_over.2.use · T eE);have eG:=!l8*(D_under.2.use · T trivial);have eH:=!l9*(D_show_fraction.2.use · T trivial);have eI:=cK l10 (D_Scaleuu_inituu.2.use · T eB) aw bA (by bv_omega);have eJ:=c' l11 (D_Scale_lifted.2.use · T eB) cx.cls (by bv_omega);have eK:=c' l12 (D_Scale_lowered.2.use · T eB) cx.cls (by bv_omega);have eL:=!l13*(D_is_name.2.use · T trivial);have eM:=!l14*(D_is_whole.2.use · T trivial);have eN:=!l15*(D_is_fraction.2.use · T ⟨eB,eM⟩);have eO:=!l16*(D_is_bound.2.use · T eN);have eP:=!l17*(D_are_faces.2.use · T eL);have eQ:=!l18*(D_are_bounds.2.use · T ⟨eG,eO⟩);have eR:=!l19*(D_is_tie.2.use · T ⟨eL,eP,eQ⟩);have eS:=cK l20 (D_Tieuu_inituu.2.use · T trivial) ap bu (by bv_omega);have eT:=cK l20 (D_Tieuu_inituu.2.use · T trivial) aq bv (by bv_omega);have eU:=cK l20 (D_Tieuu_inituu.2.use · T trivial) ar bw (by bv_omega);have eV:=cK l20 (D_Tieuu_inituu.2.use · T trivial) au bx (by bv_omega);have eW:=cK l20 (D_Tieuu_inituu.2.use · T trivial) av bz (by bv_omega);have eX:=cM (m:="steps") (Cs:=qU _) (D_Tie_steps.2.use F21 T eD) (λC hC=>⟨(T.tie C hC).cls,(by rcases hC with rfl | rfl | rfl | rfl | rfl <;> first | show(bP,bU,k21) | show(bQ,bU,k21) | show(bR,bU,k21) | show(bS,bU,k21) | show(bT,bU,k21))⟩) k21 (!F21);have eY:=!l22*(D_tie_of.2.use · T ⟨eW,eV,eU,eT,eS,eR⟩);have eZ:=!l23*(D_faces_of.2.use · T trivial);have e0:=!l24*(D_steps_by_pair.2.use · T ⟨eX,eY⟩);have e1:=!l25*(D_chain_ends.2.use · T e0);have e2:=!l26*(D_chain_sum.2.use · T ⟨eC,e0⟩);have e3:=cK l27 (D_Stepuu_inituu.2.use · T eJ) ax bB (by bv_omega);have e4:=!l28*(D_steps_of.2.use · T ⟨e3,eI,eX⟩);have e5:=!l29*(D_ring_behind.2.use · T trivial);have e6:=!l30*(D_last_steps.2.use · T ⟨ez,e5⟩);have e7:=!l31*(D_chains_from.2.use · T ⟨eC,e6⟩);have e8:=!l32*(D_places_of.2.use · T e7);have e9:=!l33*(D_gap_between.2.use · T eD);have fb:=cK l34 (D_Bookuu_inituu.2.use · T eY) aD bH (by bv_omega);have fc:=c' l35 (D_Book_kept.2.use · T trivial) cG.cls (by bv_omega);have fe:=c' l36 (D_Book_faces.2.use · T ⟨eZ,fc⟩) cG.cls (by bv_omega);have ff:=c' l37 (D_Book_put.2.use · T eY) cG.cls (by bv_omega);have fg:=c' l38 (D_Book_drop.2.use · T trivial) cG.cls (by bv_omega);have fh:=c' l39 (D_Book_placing.2.use · T ⟨e8,fe,e4,fc⟩) cG.cls (by bv_omega);have fi:=c' l40 (D_Book_ring.2.use · T fh) cG.cls (by bv_omega);have fj:=c' l41 (D_Book_check_faces.2.use · T fe) cG.cls (by bv_omega);have fk:=c' l42 (D_Book_chains_of.2.use · T ⟨e7,e8,fe,e4,fc⟩) cG.cls (by bv_omega);have fl:=c' l43 (D_Book_gap.2.use · T ⟨e9,fk,fj⟩) cG.cls (by bv_omega);have fm:=c' l44 (D_Gap_plain.2.use · T trivial) cA.cls (by bv_omega);have fn:=c' l45 (D_Thing_gaps.2.use · T fm) cE.cls (by bv_omega);have fo:=c' l46 (D_Part_plain.2.use · T trivial) cz.cls (by bv_omega);have fp:=c' l47 (D_Thing_parts.2.use · T fo) cE.cls (by bv_omega);have fq:=!l48*(D_scale_of.2.use · T ⟨eI,fn,fp⟩);have fr:=c' l49 (D_Thing_way.2.use · T trivial) cE.cls (by bv_omega);have fs:=!l50*(D_part_names.2.use · T fr);have ft:=cK l51 (D_Liduu_inituu.2.use · T trivial) aC bG (by bv_omega);have fu:=c' l52 (D_Lid_full_level.2.use · T eF) cF.cls (by bv_omega);have fv:=c' l53 (D_Lid_settle.2.use · T ⟨eD,eE⟩) cF.cls (by bv_omega);have fw:=c' l54 (D_Lid_has_stopped.2.use · T trivial) cF.cls (by bv_omega);have fx:=c' l55 (D_Thing_middle.2.use · T ⟨fr,eC,eD⟩) cE.cls (by bv_omega);have fy:=c' l56 (D_Thing_room.2.use · T ⟨eG,eD,fx⟩) cE.cls (by bv_omega);have fz:=!l57*(D_lids_of.2.use · T ⟨fn,ft,eJ,fs,eG,eA,fy,fp⟩);have fA:=!l58*(D_most_levels.2.use · T ⟨fp,eF,eJ⟩);have fB:=!l59*(D_coming_stops.2.use · T fu);have fC:=!l60*(D_first_level.2.use · T eG);have fD:=!l61*(D_stopped_at.2.use · T trivial);have fE:=!l62*(D_risen_levels.2.use · T ⟨fD,fv,fC,fB⟩);have fF:=!l63*(D_gap_stop.2.use · T fw);have fG:=!l64*(D_share.2.use · T ⟨fp,fF,eK,eE,fE,fA,fz,fq⟩);have fH:=!l65*(D_is_part.2.use · T ⟨eG,eN,eM,eL,eP⟩);have fI:=!l66*(D_is_gap.2.use · T eR);have fJ:=cK l67 (D_Partuu_inituu.2.use · T trivial) ay bC (by bv_omega);have fK:=cK l68 (D_Gapuu_inituu.2.use · T trivial) az bD (by bv_omega);have fL:=!l69*(D_part_of.2.use · T ⟨fJ,fH⟩);have fM:=!l70*(D_gap_of.2.use · T ⟨fK,fI⟩);have fN:=cK l71 (D_Jointsuu_inituu.2.use · T trivial) aA bE (by bv_omega);have fO:=c' l72 (D_Joints_link.2.use · T trivial) cD.cls (by bv_omega);have fP:=c' l73 (D_Joints_way_between.2.use · T trivial) cD.cls (by bv_omega);have fQ:=cK l74 (D_Thinguu_inituu.2.use · T ⟨fP,fM,fO,fL,fN⟩) aB bF (by bv_omega);have fR:=!l75*(D_part_named.2.use · T fp);have fS:=!l76*(D_gap_named.2.use · T fn);have fT:=!l77*(D_with_row.2.use · T trivial);have fU:=!l78*(D_is_off.2.use · T ⟨eG,eD⟩);have fV:=!l79*(D_measured.2.use · T ⟨fQ,fn,fT,fp,fU,fR⟩);have fW:=!l80*(D_changed.2.use · T ⟨fQ,fT,fn,fp,fS⟩);have fX:=!l81*(D_is_written_whole.2.use · T trivial);have fY:=!l82*(D_read_whole.2.use · T fX);have fZ:=!l83*(D_read_bottom.2.use · T fY);have f0:=!l84*(D_read_fraction.2.use · T ⟨eB,fZ,fY⟩);have ga:=!l85*(D_read_name.2.use · T eL);have gb:=!l86*(D_read_word.2.use · T ⟨f0,fY,ga⟩);have gc:=!l87*(D_read_row.2.use · T gb);have gd:=!l88*(D_show_bound.2.use · T eH);have ge:=!l89*(D_show_step.2.use · T trivial);have gf:=!l90*(D_show_ring.2.use · T ge);have gg:=!l91*(D_show_share.2.use · T eH);have gh:=cK l92 (D_Deskuu_inituu.2.use · T ⟨fQ,fb⟩) aE bI (by bv_omega);have gi:=c' l93 (D_Desk_answer.2.use · T ⟨eH,fR,fG,gg,fy,gf,fi,fl,gd⟩) cH.cls (by bv_omega);have gj:=c' l94 (D_Desk_change.2.use · T ⟨ff,fg,fQ,fn,fp,fV,fW⟩) cH.cls (by bv_omega);have gk:=c' l95 (D_Desk_say.2.use · T ⟨gi,gj,gc⟩) cH.cls (by bv_omega);have gl:=!l96*(D_law_no_row.2 · T);have gm:=!l97*(D_law_row.2 · T);have gn:=!l98*(D_law_refused.2.use · T gk);have go:=!l99*(D_law_around.2.use · T ⟨e2,e1,gk⟩);have gp:=!l100*(D_law_tight.2.use · T gk);have gq:=!l101*(NA · T gn gm gl);have gr:=!l102*(D_law_told.2.use · T ⟨gn,gk⟩);show Jf F103 T gr gp go gq gk gh
theorem walk{l:PySem.W.OpenLaw}{q:gN}{loose:List Str}{XP:(Str->Option bV)->Heap->Prop}{YP:ik->Heap->Prop}{d:DefRec}{K:Params->PySem.W.Frag}(hn:l.most=some 63)(hdf:d.params.defaults=[])
  (hY:∀(w:ik)(h:Heap),YP w h->(K w.params).In h)
  (F:∀(w:ik)(mg:Str->Option bV)(fa:Addr)(h:Heap),(K w.params).In h->h.Ns hW mg->mg d.name=some (.ref fa) ->
   ∃ fd:iC,(∀(s:b8)(u:bV),BindsTo s fd ⟨[u],[]⟩ [("_law_script",u)])/\∀ base:Heap,(K w.params).In base->base.Ns hW mg->lJ l.prog w (K w.params) mg base (kU l.prog w) 15 fa fd ["_law_script"] (yt (K w.params))) :
  PySem.W.WalkO q loose XP YP l.row.toRowW d [] (λf vs=>PySem.call f vs) :=
 L2.Sh (n:=63) (k:=15) (x:="_law_script") (CX:=λw=>kU l.prog w) (sp:=λw=>yt (K w.params)) hn ⋯ hdf ⟨rfl,⋯,⋯⟩ hY F (λ_ _ a ns hl _ hS=>⟨a,ns,rfl,hS,hl,λ_=>rfl⟩) λ_ _ _ _ _ z=>by
  let(_,_,_,_,_,_,_,_,_,_,_,_,z):=z;show z
end Prg
open PySem PySem.W PyProof.Rows
set_option maxRecDepth 100000 in
set_option maxHeartbeats 0 in
theorem PySem.Challenge.cw_slackchain_k73_rows_refused_at_the_desk_holds : PySem.Challenge.rw_slackchain_k73_rows_refused_at_the_desk.Holds := by
 refine HDk ?_
 k_fill
 refine Prg.walk (l:=PySem.Challenge.rw_slackchain_k73_rows_refused_at_the_desk) rfl rfl (fun w h Y=>PySem.W.kIn_of Y) ?F;case F=>
  intro w mg fa h KX G hmg;refine' Prg.all_mk KX G hmg ..;all_goals try repeat' first|with_reducible refine' Prg.fnM ..|with_reducible refine' Prg.fnA ..|with_reducible refine' Prg.fnG ..|with_reducible apply Prg.Kit.mk|with_reducible apply Prg.TieC.mk|with_reducible apply Prg.Eg.mk|with_reducible apply Prg.StepC.mk|with_reducible apply Prg.PartC.mk|with_reducible apply Prg.GapC.mk|with_reducible apply Prg.EE.mk|with_reducible apply Prg.Ef.mk|with_reducible apply Prg.LidC.mk|with_reducible apply Prg.BookC.mk|with_reducible apply Prg.DeskC.mk|with_reducible apply L2.Cls.mk|with_reducible apply L2.Mk.mk|k_is|k_exc|(show _=_;k_is)|kit_is|kernel_rfl
