import PyProof.Rows.All
import Wide.All
import OpenK.AllK
import Wide.FinOn
import Lean
import PyProof.EqAt
import PyProof.EqKinds
import PyProof.TupleCall
import KE.KSortTup
import KE.KDictSum
import PyProof.Rows.SortStr
import PyProof.AutoSeq1
import PyProof.ZipIter
import PyProof.Rows.FStr
import PyProof.Rows.FStrParts
import PyProof.AttrMissHeap
import KE.KDictOf
import PyProof.StrCalls
import KE.KStrOpen
import KE.KRevIter
import PyProof.WalkInts
import KE.KDictList
import PyProof.Rows.SetFrom
import PyProof.SetRoads
import PyProof.DictCompW
import PyProof.DictItems
import KE.KPairComp
import KE.KEqDict
import PyProof.Rows.Range3
import PyProof.WalksMore
import PyProof.DictWalks
import KE.KMinKey
import PyProof.ExcAttrAll.ValueError
import KE.KIsAll
import PySem.Challenge.RW_restways_k46_deeds_refused
abbrev C0:=@PySem.wpAny_bind
abbrev D0:=@List.length_map
abbrev F0:=@List.getElem?_eq_getElem
abbrev G0:=@PySem.Heap.get?_push_of_some
abbrev K0:=@PySem.wpAny_pure
abbrev N0:=@if_neg
abbrev O0:=@of_decide_eq_true
abbrev P0:=@decide_eq_true
abbrev Q0:=@PySem.Heap.get?_push_size
abbrev R0:=@if_pos
abbrev S0:=@Nat.le_refl
abbrev U0:=@decide_eq_false
abbrev V0:=@List.getElem?_map
abbrev W0:=@List.getElem?_eq_none
abbrev X0:=@Bool.and_eq_true
abbrev Y0:=@PySem.Heap.lt_size
abbrev Z0:=@List.mem_of_getElem?
abbrev b0:=@List.length_append
abbrev D1:=@List.mem_cons
abbrev E1:=@List.size_toArray
abbrev F1:=@List.mem_cons_of_mem
abbrev J1:=@Nat.le_of_ble_eq_true
abbrev K1:=@Bool.false_ne_true
abbrev L1:=@List.length_cons
abbrev N1:=@List.mem_cons_self
abbrev O1:=@List.mem_append_right
abbrev P1:=@List.length_take
abbrev U1:=@Option.some.inj
abbrev V1:=@Nat.ne_of_lt
abbrev W1:=@Nat.lt_of_lt_of_le
abbrev X1:=@List.mem_map
abbrev Y1:=@Nat.le_trans
abbrev Z1:=@Nat.zero_le
abbrev y1:=@List.getElem?_eq_some_iff
abbrev C2:=@List.mem_singleton
abbrev D2:=@Nat.lt_or_ge
abbrev E2:=@List.map_cons
abbrev F2:=@List.getElem_of_mem
abbrev J2:=@decide_eq_true_iff
abbrev K2:=@PySem.wpAny_newObj_type
abbrev N2:=@List.all_eq_true
abbrev O2:=@List.not_mem_nil
abbrev P2:=@Nat.le_of_lt
abbrev Q2:=@List.mem_append
abbrev U2:=@List.nodup_cons
abbrev V2:=@List.replicate_succ
abbrev W2:=@List.getElem?_append_right
abbrev X2:=@PySem.W.mg_none_of
abbrev Y2:=@List.mem_filter
abbrev Z2:=@PySem.W.mg_of
abbrev B3:=@Bool.eq_iff_iff
abbrev C3:=@List.getElem?_append_left
abbrev D3:=@PySem.wpAny_mono
abbrev E3:=@congrArg
abbrev F3:=@PySem.wpAny_holding
abbrev J3:=@PySem.wpAny_call_entry
abbrev K3:=@PySem.wpAny_truthy_bool
abbrev N3:=@List.take_add_one
abbrev O3:=@PySem.PassesOwn.never
abbrev P3:=@Bool.false_eq_true
set_option Elab.async false
set_option linter.all false
set_option maxRecDepth 100000
theorem u3(h:True:=by rfl):True:=h
def u4:Lean.Syntax:=u3._auto_1
theorem u5(h:True:=by decide):True:=h
def v5:Lean.Syntax:=u5._auto_1
theorem r6(h:True:=by intro _;rfl):True:=h
def t6:Lean.Syntax:=r6._auto_1
theorem v6(h:True:=by first|exact .inl rfl|exact .inr rfl|assumption):True:=h
def w6:Lean.Syntax:=v6._auto_1
theorem x6(h:True:=by with_unfolding_all rfl):True:=h
def y6:Lean.Syntax:=x6._auto_1
theorem t7(h:True:=by exact λ_ _=>rfl):True:=h
def u7:Lean.Syntax:=t7._auto_1
local macro_rules | `(())=> `(by lia)
local macro_rules | `(⋯)=> `(by decide)
set_option hygiene false in
local macro_rules
|`(`Z3)=>`(by simp)
|`(`Y3)=>`(by decide +kernel)
|`(`X3)=>`(by (repeat' (first|exact zej ⋯|exact ztU|exact zvq|exact zt9|exact ztz|exact zaJ|exact zro|exact dsp_disp rfl|exact zdy rfl (by assumption)|refine zB ?_ ?_|refine zbW ?_ ?_|refine zsF ?_|refine zvt ?_ ?_|exact zwF|exact v_c|exact zwk rfl|refine v_tup ?_|refine zls ?_ ?_|refine dspl_cat ?_ ?_ ?_|exact dspl_var rfl (by assumption) (by assumption)|exact J1 rfl)))
|`(`W3)=>`(λcdv A outer s H vs Q E hr h=>?_)
|`(`V3)=>`(⟨rfl,rfl,rfl,`Y3,rfl,`Y3,`Y3⟩)
|`(`U3)=>`(hr.mono ⋯)
namespace L2
open PySem PySem.Spec PyProof.Rows
variable{α β γ κ:Type}{an:Option Value}{C a it l f fa I ga rp dr wl:Addr}{c t' i j ep n2 c':Nat}{cd:ClassData}{sl osl sl2:Array (Option Value)}{x y g name qual:Str}{u doc pm cdv oc vl vu acc key ov u':Value}{P:Program}{h':Heap}{pins pins':List (Addr×Obj)}{s s':Shared}{g':Array GenState}{d':Drawn}{M:Model}{E Q Ex:Value->Shared->Prop}{pos pos' px py tpos apos cpos spos p3 np:Pos}{rest es ifs f1 f2 ifs2 elts:List Expr}{tg iter value elt target t1 i1 t2 i2 tg2 iter2 kx vx:Expr}{lo:Option Int}{fp wr:List Addr}{body sts:List Stmt}{op op':CmpOp}{its its' ks:List Value}{mA:Str->Option Value}{pl:Sem Bool}{kw:List (Str×Value)}{fd:FuncData}{ps:List (Str×Str)}{scope osc:Scope}{od:Option Addr}{items:Array Value}{q:Str×Str}{loose N' ts O ws ms:List Str}{XP:(Str->Option Value)->Heap->Prop}{YP:World->Heap->Prop}{n':Int}{G:Array Nat->Prop}{OK:Heap->Prop}{Y:Prop}{ni:String}{A':Around}
noncomputable def zab(s:Stmt)(j:Nat):Stmt:=match s with
 | .ClassDef _ _ _ body _ _ _ _ _ _ _=>body.getD j (.Pass ⟨0,0,0,0⟩)
 |_=> .Pass ⟨0,0,0,0⟩
noncomputable def zar(s:Stmt):Arguments:=match s with
 | .FunctionDef _ a _ _ _ _ _ _ _ _=>a
 |_=>{posonlyargs:=[],args:=[],vararg:=none,kwonlyargs:=[],kw_defaults:=[],kwarg:=none,defaults:=[]}
noncomputable def zaa(s:Stmt):List Stmt:=match s with
 | .FunctionDef _ _ b _ _ _ _ _ _ _=>b
 |_=> []
noncomputable def zd(s:Stmt):Scope:=match s with
 | .FunctionDef _ _ _ _ _ _ sc _ _ _=>sc
 |_=>{kind:= .function,names:=[],isGenerator:=false,isCoroutine:=false}
section
open PySem.W
noncomputable def ztP(tb:String->Option Builtin)(p:Program)(w:World)(n₀:Nat)(ann:Option Value):Nat->SharedT->Thread->Option SharedT
 |0,_,_=>none
 |n+1,s,t=>match through t with
  |true=>some s
  |false=>match stepOk n₀ ann t with
   |false=>none
   |true=>match stepT (denote tb) p w s t with
    |some (s',t')=>ztP tb p w n₀ ann n s' t'
    |none=>none
theorem zrD{tb:String->Option Builtin}{p:Program}{w:World}{n₀:Nat}{ann:Option Value}:∀{n:Nat} {s s':SharedT} {t:Thread},ztP tb p w n₀ ann n s t=some s'->topRun tb p w n₀ ann n s.abs t=some s'.abs
 |0,_,_,_,h=>by cases h
 |n+1,s,s',t,h=>by
  unfold ztP at h
  unfold topRun
  cases ht:through t with
  |true=>rw[ht] at h;cases h;rfl
  |false=>
   rw[ht] at h
   cases hk:stepOk n₀ ann t with
   |false=>rw[hk] at h;cases h
   |true=>
    rw[hk] at h
    cases hs:stepT (denote tb) p w s t with
    |none=>rw[hs] at h;cases h
    |some r=>obtain ⟨s₂,t₂⟩:=r;rw[hs] at h;rw[stepT_spec hs];exact zrD h
noncomputable def zoi:List Obj->BT->Nat->Option BT
 |[],t,_=>some t
 |o::l,t,n=>match ((t.ins n o).get n).isSome with
  |true=>zoi l (t.ins n o) (n+1)
  |false=>none
theorem zjM{life:Life}:∀{l:List Obj} {t T:BT} {n:Nat},zoi l t n=some T->absHeap T (n+l.length) life=⟨(absHeap t n life).objs ++l.toArray,life⟩
 |[],t,T,n,h=>by cases h;simp[absHeap]
 |o::l,t,T,n,h=>by
  unfold zoi at h
  cases e:((t.ins n o).get n).isSome with
  |false=>rw[e] at h;cases h
  |true=>
   rw[e] at h
   have:=zjM (life:=life) h
   rw[L1,show n+(l.length+1)=n+1+l.length by lia,this,absHeap_ins e]
   show Heap.mk _ _=Heap.mk _ _
   congr 1
   show(absHeap t n life).objs.push o ++_=_
   apply Array.ext'
   simp
noncomputable def zlo{α:Type}(T:BT):Nat->List Obj->(List Obj->α)->α
 |0,acc,k=>k acc
 |n+1,acc,k=>match T.get n with
  |some o=>zlo T n (o::acc) k
  |none=>zlo T n (default::acc) k
theorem zhZ{α:Type}{T:BT}{k:List Obj->α}:∀{n:Nat} {acc:List Obj},zlo T n acc k=k (T.list n ++acc)
 |0,acc=>rfl
 |n+1,acc=>by
  have:T.list (n+1)++acc=T.list n ++((T.get n).getD default::acc):=by
   unfold BT.list
   rw[List.range_succ,List.map_append,List.append_assoc];rfl
  rw[this]
  unfold zlo
  cases e:T.get n with
  |none=>exact zhZ
  |some o=>exact zhZ
noncomputable def zsM(g:Shared->α)(s:SharedT):α:=zlo s.tree s.n [] λL=>g ⟨⟨⟨L⟩,s.life⟩,s.gens,s.drawn,s.toks,s.os⟩
theorem zdx{g:Shared->α}{s:SharedT}:zsM g s=g s.abs:=by
 unfold zsM
 rw[zhZ,List.append_nil]
 rfl
noncomputable def look  (p:Program) (w:World) (os:OsState) (m:Nat) (an:Option Value) (N:Nat) (g:Shared->α):Option α:=
 (zoi (boot_heap w.params).objs.toList .nil 0).bind λT=>(ztP treeTable p w m an N ⟨T,m,(boot_heap w.params).life, #[],boot_drawn,boot_toks,os⟩ (topStub p)).map (zsM g)
theorem look_ends{p:Program}{N m:Nat}{g:Shared->α}{w:World}{a:α}
 (op:opening p=plainProg p.main.scope.names) (hN:Nat.ble 600 N=true) (f:∀s,fenceModules? p s=some s)
 (size:((boot_heap w.params).isNs mainGlobals,(boot_heap w.params).objs.size,(boot_heap w.params).nsMap mainGlobals "__annotations__")=(true,m,an))
 (st:∀os,look p w os m an N (λs=>staticsOk (importedModules p.main.body) (boot_heap w.params) s.heap&&namesBound p s.heap&&gensDone s&&laidKept (boot_heap w.params) s.heap)=some true)
 (h:∀os,look p w os m an N g=some a):(openEnds treeTable p w N).map g=some a:=by
 obtain⟨⟨hh,gs,d,k,os⟩,e,e'⟩:=Option.map_eq_some_iff.mp (boot_open op hN f w)
 obtain⟨rfl,rfl,rfl,rfl⟩:hh=boot_heap w.params/\gs=Array.mk []/\d=boot_drawn/\k=boot_toks:=by simpa using e'
 obtain⟨z1,z2,z3⟩:_/\_/\_:=by simpa only[Prod.mk.injEq] using size
 have hs:=st os
 have hl:=h os
 unfold look at hs hl
 obtain⟨T,b,hs⟩:=Option.bind_eq_some_iff.mp hs
 rw[b] at hl
 replace hl:Option.map _ _=_:=hl
 obtain⟨s,r,hs⟩:=Option.map_eq_some_iff.mp hs
 rw[r] at hl
 rw[zdx] at hs
 have hl:g s.abs=a:=by simpa[zdx] using hl
 have ab:=zjM (life:=(boot_heap w.params).life) b
 have r:=zrD r
 have l:(boot_heap w.params).objs.toList.length=m:=by rw[Array.length_toList,z2]
 have ea:SharedT.abs ⟨T,m,(boot_heap w.params).life, #[],boot_drawn,boot_toks,os⟩=⟨boot_heap w.params, #[],boot_drawn,boot_toks,os⟩:=by
  unfold SharedT.abs
  dsimp only
  rw[Nat.zero_add,l] at ab
  rw[ab]
  have:(absHeap .nil 0 (boot_heap w.params).life).objs ++(boot_heap w.params).objs.toList.toArray=(boot_heap w.params).objs:=by
   apply Array.ext'
   simp[absHeap,BT.list]
  rw[this]
 rw[ea] at r
 have t:topFrom treeTable p w N ⟨boot_heap w.params,Array.mk [],boot_drawn,boot_toks,os⟩=some s.abs:=by
  unfold topFrom
  dsimp only
  rw[z1,z2,z3,r]
  show(match staticsOk (importedModules p.main.body) (boot_heap w.params) s.abs.heap&&namesBound p s.abs.heap&&gensDone s.abs&&laidKept (boot_heap w.params) s.abs.heap with|true=>_|false=>_)=_
  rw[hs]
 unfold openEnds
 rw[e]
 show(topFrom treeTable p w N _).map _=_
 rw[t]
 exact E3 some hl
theorem vw_sz(w:World):((boot_heap w.params).isNs mainGlobals,(boot_heap w.params).objs.size,(boot_heap w.params).nsMap mainGlobals "__annotations__")=(true,11,some (.ref 6)):=by kernel_rfl
theorem map_two{o:Option α}{f:α->β}{g:α->γ}{a:β}{b:γ}(h:o.map f=some a)(k:o.map g=some b):o.map (λs=>(f s,g s))=some (a,b):=by
 cases o with
 |none=>cases h
 |some x=>cases h;cases k;rfl
theorem look_mk{p:Program}{w:World}{os:OsState}{m N:Nat}{g:Shared->α}{g':Shared->β}{a:α}{b:β}(h:look p w os m an N g=some a)(h':look p w os m an N g'=some b):look p w os m an N (λs=>(g s,g' s))=some (a,b):=by
 unfold look at h h'⊢
 obtain⟨T,e,h⟩:=Option.bind_eq_some_iff.mp h
 rw[e] at h'⊢
 replace h':Option.map _ _=_:=h'
 show Option.map _ _=_
 obtain⟨s,r,h⟩:=Option.map_eq_some_iff.mp h
 rw[r] at h'⊢
 rw[zdx] at h
 have h':g' s.abs=b:=by simpa[zdx] using h'
 show some (zsM _ s)=_
 rw[zdx,h,h']
theorem look_and{p:Program}{w:World}{os:OsState}{m N:Nat}{f g:Shared->Bool}(h:look p w os m an N (λs=>f s&&g s)=some true):look p w os m an N f=some true/\look p w os m an N g=some true:=by
 unfold look at h⊢
 obtain⟨T,e,h⟩:=Option.bind_eq_some_iff.mp h
 rw[e]
 show(Option.map _ _=_)/\(Option.map _ _=_)
 obtain⟨s,r,h⟩:=Option.map_eq_some_iff.mp h
 rw[r]
 rw[zdx,X0] at h
 exact⟨E3 some (zdx.trans h.1),E3 some (zdx.trans h.2)⟩
end
set_option genInjectivity false in
set_option genSizeOfSpec false in
set_option genSizeOf false in
structure Er(K:W.Frag)(x:Str)(st:Stmt):Type where
 {f9:Addr} {oc9:Value} {od9 an9:Option Addr} {sl9:Array (Option Value)} {kV9 dc9 pm9 cd9 ct9:Value}
 a9:W.nsIn K mainGlobals x=some (some (.ref f9))
 l9:K.lookup f9=some ⟨oc9,od9, .func (W.fnOf x x (zar st) (zaa st) (zd st) .none kV9 dc9 pm9 an9 cd9 ct9),sl9⟩
 c9:W.codeIn K cd9 x=true
 k9:W.keepIn K (.ref f9)=true
set_option genInjectivity false in
set_option genSizeOfSpec false in
set_option genSizeOf false in
structure ErD(K:W.Frag)(x:Str)(st:Stmt):Type where
 {f9:Addr} {oc9:Value} {od9 an9:Option Addr} {sl9:Array (Option Value)} {kV9 dc9 pm9 cd9 ct9:Value} {dt9:Addr} {odd9:Option Addr} {nd9:Nat} {sld9:Array (Option Value)}
 a9:W.nsIn K mainGlobals x=some (some (.ref f9))
 l9:K.lookup f9=some ⟨oc9,od9, .func (W.fnOf x x (zar st) (zaa st) (zd st) (.ref dt9) kV9 dc9 pm9 an9 cd9 ct9),sl9⟩
 c9:W.codeIn K cd9 x=true
 k9:W.keepIn K (.ref f9)=true
 d9:K.lookup dt9=some ⟨.type "tuple",odd9, .seq #[.none] nd9,sld9⟩
set_option genInjectivity false in
set_option genSizeOfSpec false in
set_option genSizeOf false in
structure Em(K:W.Frag)(C:Addr)(x q:Str)(st:Stmt):Type where
 {f9:Addr} {oc9:Value} {od9 an9:Option Addr} {sl9:Array (Option Value)} {kV9 dc9 pm9 cd9 ct9:Value}
 a9:W.findIn K (.ref C) x=some (some (.ref f9))
 i9:W.isFn K (.ref f9)=true
 l9:K.lookup f9=some ⟨oc9,od9, .func (W.fnOf x q (zar st) (zaa st) (zd st) .none kV9 dc9 pm9 an9 cd9 ct9),sl9⟩
 c9:W.codeIn K cd9 q=true
 k9:W.keepIn K (.ref f9)=true
set_option genInjectivity false in
set_option genSizeOfSpec false in
set_option genSizeOf false in
structure Ec(K:W.Frag)(x:Str)(C:Addr):Prop where
 a9:W.nsIn K mainGlobals x=some (some (.ref C))
 pg9:W.plainGet K C Str.empty=true
 hd9:W.hasDictIn K C=true
 po9:W.plainOver K C=true
 sa9:W.findIn K (.ref C) "__setattr__"=some (some (.builtin "object.__setattr__"))
 ms9:W.makesIn K C=true
 kc9:W.keepIn K (.ref C)=true
set_option genInjectivity false in
set_option genSizeOfSpec false in
set_option genSizeOf false in
structure En(K:W.Frag)(x:Str):Type where
 {f9 e9:Addr} {od9 oe9:Option Addr} {sl9 se9:Array (Option Value)} {n9 ne9:Nat} {tk9:Tok}
 a9:W.nsIn K mainGlobals x=some (some (.ref f9))
 l9:K.lookup f9=some ⟨.type "tuple",od9, .seq #[.int 0 tk9, .none, .ref e9] n9,sl9⟩
 d9:K.lookup e9=some ⟨.type "tuple",oe9, .seq #[] ne9,se9⟩
set_option genInjectivity false in
set_option genSizeOfSpec false in
set_option genSizeOf false in
structure Ei(K:W.Frag)(x:Str)(v:Int):Type where
 {tk9:Tok}
 a9:W.nsIn K mainGlobals x=some (some (.int v tk9))
set_option genInjectivity false in
set_option genSizeOfSpec false in
set_option genSizeOf false in
structure ExCls(K:W.Frag)(C:Addr):Prop where
 ga9:W.findIn K (.ref C) "__getattribute__"=some (some (.builtin "BaseException.__getattribute__"))
 gh9:W.findIn K (.ref C) "__getattr__"=some none
 fc9:W.findIn K (.ref C) "__class__"=some (some (.builtin "object.__class__"))
 sp9:W.specialIn K (.builtin "object.__class__") "__get__"=some (some (.builtin "getset_descriptor.__get__"))
 tk9:W.takesIn K (.builtin "object.__class__")=some true
 mo9:W.mroIn K C (.type "object")=some true
 mb9:W.mroIn K C (.type "BaseException")=some true
 cl9:∃c d cd sl,K.lookup C=some ⟨c,d, .cls cd,sl⟩
def zoL(K:W.Frag)(C CR:Addr):Prop:=∃tb ni dd cd sl,W.excIn K C tb ni=true/\K.lookup C=some ⟨.type "type",dd, .cls cd,sl⟩/\cd.mro.contains (.ref CR)=true
set_option genInjectivity false in
set_option genSizeOfSpec false in
set_option genSizeOf false in
structure Exn(K:W.Frag)(x:Str)(C:Addr):Prop where
 a9:W.nsIn K mainGlobals x=some (some (.ref C))
theorem exCls_mk{K:W.Frag}{c:Value}{d:Option Addr}
 (b1:W.findIn K (.ref C) "__getattribute__"=some (some (.builtin "BaseException.__getattribute__"))) (b2:W.findIn K (.ref C) "__getattr__"=some none) (b3:W.findIn K (.ref C) "__class__"=some (some (.builtin "object.__class__")))
 (b4:W.specialIn K (.builtin "object.__class__") "__get__"=some (some (.builtin "getset_descriptor.__get__"))) (b5:W.takesIn K (.builtin "object.__class__")=some true) (b6:W.mroIn K C (.type "object")=some true) (b7:W.mroIn K C (.type "BaseException")=some true)
 (b8:K.lookup C=some ⟨c,d, .cls cd,sl⟩):ExCls K C:=⟨b1,b2,b3,b4,b5,b6,b7,_,_,_,_,b8⟩
theorem exSub_mk{K:W.Frag}{CR:Addr}{d:Option Addr}(q:W.excIn K C [.type "ValueError", .type "Exception", .type "BaseException", .type "object"] "ValueError.__new__"=true)
 (l:K.lookup C=some ⟨.type "type",d, .cls cd,sl⟩) (m:cd.mro.contains (.ref CR)=true):zoL K C CR:=⟨_,_,_,_,_,q,l,m⟩
inductive TxV:List Str->List Value->Prop
 |nil:TxV [] []
 |cons {x:Str} {t:Tok} {xs:List Str} {vs:List Value} (h:TxV xs vs):TxV (x::xs) (.str x t::vs)
set_option genInjectivity false in
set_option genSizeOfSpec false in
set_option genSizeOf false in
structure Et(K:W.Frag)(x:Str)(xs:List Str):Type where
 {f9:Addr} {od9:Option Addr} {sl9:Array (Option Value)} {n9:Nat} {us9:Array Value}
 a9:W.nsIn K mainGlobals x=some (some (.ref f9))
 l9:K.lookup f9=some ⟨.type "tuple",od9, .seq us9 n9,sl9⟩
 d9:TxV xs us9.toList
set_option maxHeartbeats 4000000
theorem hidZ{G:Prop}(k:∀γ:Prop,(G->γ)->γ):G:=k G id
local macro_rules | `(tactic|obtain $p:rcasesPatMed:= $e:term)=>do
 if ((p.raw.reprint.getD "").splitOn ",").length≥3 then `(tactic|first|(refine hidZ λγ hγ=>?_;rcases $e:term with $p<;>(refine hγ ?_;clear hγ γ))|rcases $e:term with $p)else `(tactic|rcases $e:term with $p)
noncomputable def top(i:Nat):Stmt:=Challenge.pw_restways_k46_deeds_refused.main.body.getD i (.Pass ⟨0,0,0,0⟩)
noncomputable abbrev zff:Stmt:=top 4
noncomputable abbrev zeT:Stmt:=top 6
noncomputable abbrev zfy:Stmt:=top 7
noncomputable abbrev zh1:Stmt:=top 8
noncomputable abbrev zez:Stmt:=top 14
noncomputable abbrev zck:Stmt:=top 15
noncomputable abbrev zgV:Stmt:=top 16
noncomputable abbrev zds:Stmt:=top 17
noncomputable abbrev zgY:Stmt:=top 18
noncomputable abbrev zfF:Stmt:=top 19
noncomputable abbrev zdu:Stmt:=top 20
noncomputable abbrev zif:Stmt:=top 21
noncomputable abbrev zgJ:Stmt:=top 22
noncomputable abbrev zle:Stmt:=top 23
noncomputable abbrev zfK:Stmt:=top 24
noncomputable abbrev zfN:Stmt:=top 27
noncomputable abbrev zb7:Stmt:=top 28
noncomputable abbrev zdh:Stmt:=top 29
noncomputable abbrev zd8:Stmt:=top 30
noncomputable abbrev zfJ:Stmt:=top 31
noncomputable abbrev zhN:Stmt:=top 32
noncomputable abbrev zgv:Stmt:=top 34
noncomputable abbrev zc7:Stmt:=top 35
noncomputable abbrev zgW:Stmt:=top 36
noncomputable abbrev zbZ:Stmt:=top 37
noncomputable abbrev zbp:Stmt:=top 49
noncomputable abbrev ziG:Stmt:=top 50
noncomputable abbrev zkh:Stmt:=top 52
noncomputable abbrev zeg:Stmt:=top 53
noncomputable abbrev zcL:Stmt:=top 54
noncomputable abbrev zbR:Stmt:=zab (top 57) 0
noncomputable abbrev zeU:Stmt:=zab (top 57) 1
noncomputable abbrev zdD:Stmt:=zab (top 57) 3
noncomputable abbrev zdC:Stmt:=zab (top 57) 4
noncomputable abbrev zem:Stmt:=zab (top 57) 5
noncomputable abbrev zc8:Stmt:=zab (top 57) 6
noncomputable abbrev zbE:Stmt:=zab (top 57) 7
noncomputable abbrev zdA:Stmt:=zab (top 57) 8
noncomputable abbrev zdE:Stmt:=zab (top 57) 9
noncomputable abbrev zcm:Stmt:=zab (top 57) 10
noncomputable abbrev zcu:Stmt:=zab (top 57) 11
noncomputable abbrev zeA:Stmt:=zab (top 57) 12
noncomputable abbrev zfM:Stmt:=top 59
noncomputable abbrev zbq:Stmt:=zab (top 61) 0
noncomputable abbrev zfB:Stmt:=zab (top 61) 1
noncomputable abbrev zcw:Stmt:=zab (top 61) 2
noncomputable abbrev zb5:Stmt:=zab (top 61) 3
noncomputable abbrev zfI:Stmt:=zab (top 61) 4
noncomputable abbrev zcr:Stmt:=zab (top 61) 5
noncomputable abbrev zfE:Stmt:=zab (top 61) 6
noncomputable abbrev zbz:Stmt:=zab (top 61) 9
noncomputable abbrev zd2:Stmt:=zab (top 61) 10
noncomputable abbrev ziY:Stmt:=zab (top 61) 11
noncomputable abbrev zeQ:Stmt:=top 63
noncomputable abbrev zfz:Stmt:=top 64
noncomputable abbrev zew:Stmt:=top 65
noncomputable abbrev zeR:Stmt:=top 66
noncomputable abbrev zcP:Stmt:=top 67
noncomputable abbrev zeY:Stmt:=top 68
noncomputable abbrev zcF:Stmt:=top 69
noncomputable abbrev zc2:Stmt:=top 70
noncomputable abbrev zee:Stmt:=top 71
noncomputable abbrev zeM:Stmt:=top 72
noncomputable abbrev zca:Stmt:=top 73
noncomputable abbrev zfS:Stmt:=top 74
noncomputable abbrev zdb:Stmt:=top 75
noncomputable abbrev zeF:Stmt:=top 76
noncomputable abbrev zoP:Stmt:=top 77
noncomputable def vw:Program:={Challenge.pw_restways_k46_deeds_refused with main:={Challenge.pw_restways_k46_deeds_refused.main with body:=([0,2,3,4,6,7,8,10,11,12,13,14,15,16,17,18,19,20,21,22,26,27,28,29,30,31,32,34,35,36,37,39,40,41,42,43,44,45,46,47,49,50,52,53,54,56,57,59,61,63,64,65,66,67,68,69,70,71,72,73,74,75,76,77]:List Nat).filterMap λi=>Challenge.pw_restways_k46_deeds_refused.main.body[i]?}}
noncomputable abbrev zsf(s:Shared):=(λs=>W.openSeen vw [(Str.ofString "holds"),(Str.ofString "all_hold")] (PySem.importedModules Challenge.pw_restways_k46_deeds_refused.main.body) (λz=>W.xlAt vw [] z&&W.recOk [] z) true s) s
set_option maxHeartbeats 0 in
theorem zvu(w:World)(os:OsState):look Challenge.pw_restways_k46_deeds_refused w os 11 (some (.ref 6)) 9632 (λs=>(W.staticsOk (PySem.importedModules Challenge.pw_restways_k46_deeds_refused.main.body) (W.boot_heap w.params) s.heap&&W.namesBound Challenge.pw_restways_k46_deeds_refused s.heap&&W.gensDone s&&W.laidKept (W.boot_heap w.params) s.heap)&&((zsf s).2.2.1&&(zsf s).2.2.2.1))=some true:=by kernel_rfl
set_option maxHeartbeats 0 in
theorem zw6(w:World)(os:OsState):look Challenge.pw_restways_k46_deeds_refused w os 11 (some (.ref 6)) 9632 (λs=>(zsf s).1)=some (W.openGood vw [(Str.ofString "holds"),(Str.ofString "all_hold")]).1:=by kernel_rfl
set_option maxHeartbeats 0 in
theorem zxa(w:World)(os:OsState):look Challenge.pw_restways_k46_deeds_refused w os 11 (some (.ref 6)) 9632 (λs=>(zsf s).2.1)=some (W.openGood vw [(Str.ofString "holds"),(Str.ofString "all_hold")]).2.1:=by kernel_rfl
set_option maxHeartbeats 0 in
theorem zw7(w:World)(os:OsState):look Challenge.pw_restways_k46_deeds_refused w os 11 (some (.ref 6)) 9632 (λs=>(zsf s).2.2.2.2)=some (W.openGood vw [(Str.ofString "holds"),(Str.ofString "all_hold")]).2.2.2.2:=by kernel_rfl
theorem zwi(w:World)(os:OsState):look Challenge.pw_restways_k46_deeds_refused w os 11 (some (.ref 6)) 9632 (λs=>W.staticsOk (PySem.importedModules Challenge.pw_restways_k46_deeds_refused.main.body) (W.boot_heap w.params) s.heap&&W.namesBound Challenge.pw_restways_k46_deeds_refused s.heap&&W.gensDone s&&W.laidKept (W.boot_heap w.params) s.heap)=some true:=(look_and (zvu w os)).1
theorem zwd(w:World)(os:OsState):look Challenge.pw_restways_k46_deeds_refused w os 11 (some (.ref 6)) 9632 (λs=>W.openSeen vw [(Str.ofString "holds"),(Str.ofString "all_hold")] (PySem.importedModules Challenge.pw_restways_k46_deeds_refused.main.body) (λz=>W.xlAt vw [] z&&W.recOk [] z) true s)=some (W.openGood vw [(Str.ofString "holds"),(Str.ofString "all_hold")]):=look_mk (zw6 w os) (look_mk (zxa w os) (look_mk (look_and (look_and (zvu w os)).2).1 (look_mk (look_and (look_and (zvu w os)).2).2 (zw7 w os))))
theorem zwJ:W.opening Challenge.pw_restways_k46_deeds_refused=W.plainProg Challenge.pw_restways_k46_deeds_refused.main.scope.names:=by kernel_rfl
theorem zwR(s:Shared):fenceModules? Challenge.pw_restways_k46_deeds_refused s=some s:=by kernel_rfl
theorem vw_any{g:Shared->α}{w:World}{a:α}(h:∀os,look Challenge.pw_restways_k46_deeds_refused w os 11 (some (.ref 6)) 9632 g=some a):(W.openEnds treeTable Challenge.pw_restways_k46_deeds_refused w 9632).map g=some a:=look_ends zwJ ⋯ zwR (vw_sz w) (λos=>zwi w os) h
theorem vw_one(w:World):(W.openEnds treeTable Challenge.pw_restways_k46_deeds_refused w 9632).map (λs=>W.openSeen vw [(Str.ofString "holds"),(Str.ofString "all_hold")] (PySem.importedModules Challenge.pw_restways_k46_deeds_refused.main.body) (λz=>W.xlAt vw [] z&&W.recOk [] z) true s)=some (W.openGood vw [(Str.ofString "holds"),(Str.ofString "all_hold")]):=vw_any λos=>zwd w os
set_option maxHeartbeats 0 in
theorem vw_ws:W.OpenLaw.wellSaid Challenge.rw_restways_k46_deeds_refused=true:=by
 unfold W.OpenLaw.wellSaid W.OpenRow.wellSaid W.OpenRow.partSaid W.looksOpen
 repeat' with_reducible refine W.look_both ?_ ?_
 all_goals decide +kernel
set_option genInjectivity false in
set_option genSizeOfSpec false in
set_option genSizeOf false in
structure Fk(K:W.Frag):Type where
 C_House:Addr
 c_House:Ec K "House" C_House
 n_House_place:W.findIn K (.ref C_House) "place"=some none
 n_House_name:W.findIn K (.ref C_House) "name"=some none
 n_House_hearings:W.findIn K (.ref C_House) "hearings"=some none
 n_House_tellings:W.findIn K (.ref C_House) "tellings"=some none
 n_House_going:W.findIn K (.ref C_House) "going"=some none
 n_House_times:W.findIn K (.ref C_House) "times"=some none
 C_Run:Addr
 c_Run:Ec K "Run" C_Run
 n_Run_place:W.findIn K (.ref C_Run) "place"=some none
 n_Run_people:W.findIn K (.ref C_Run) "people"=some none
 n_Run_waiting:W.findIn K (.ref C_Run) "waiting"=some none
 is_name:Er K "is_name" zff
 is_number:Er K "is_number" zeT
 is_whole:Er K "is_whole" zfy
 is_row:Er K "is_row" zh1
 is_worded:Er K "is_worded" zez
 is_plain_cond:Er K "is_plain_cond" zck
 is_cond:Er K "is_cond" zgV
 are_conds:Er K "are_conds" zds
 asks_to:Er K "asks_to" zgY
 is_worth:Er K "is_worth" zfF
 is_liking:Er K "is_liking" zdu
 is_act:Er K "is_act" zif
 is_hand:Er K "is_hand" zgJ
 holds:ErD K "holds" zle
 all_hold:ErD K "all_hold" zfK
 is_house:Er K "is_house" zfN
 are_likings:Er K "are_likings" zb7
 are_hands:Er K "are_hands" zdh
 likings_of:Er K "likings_of" zd8
 hands_of:Er K "hands_of" zfJ
 tied:Er K "tied" zhN
 is_deed:Er K "is_deed" zgv
 houses_named:Er K "houses_named" zc7
 put_for:Er K "put_for" zgW
 town_behind:Er K "town_behind" zbZ
 marks_behind:Er K "marks_behind" zbp
 handed:Er K "handed" ziG
 worth:Er K "worth" zkh
 liking_key:Er K "liking_key" zeg
 most_liked:Er K "most_liked" zcL
 House___init__:Em K C_House "__init__" "House.__init__" zbR
 House_way:Em K C_House "way" "House.way" zeU
 House_heard:Em K C_House "heard" "House.heard" zdD
 House_begin:Em K C_House "begin" "House.begin" zdC
 House_hear:Em K C_House "hear" "House.hear" zem
 House_choose:Em K C_House "choose" "House.choose" zc8
 House_open_ways:Em K C_House "open_ways" "House.open_ways" zbE
 House_go_by:Em K C_House "go_by" "House.go_by" zdA
 House_offer:Em K C_House "offer" "House.offer" zdE
 House_letters:Em K C_House "letters" "House.letters" zcm
 House_move_to:Em K C_House "move_to" "House.move_to" zcu
 House_forget:Em K C_House "forget" "House.forget" zeA
 at_place:Er K "at_place" zfM
 Run___init__:Em K C_Run "__init__" "Run.__init__" zbq
 Run_road:Em K C_Run "road" "Run.road" zfB
 Run_choice:Em K C_Run "choice" "Run.choice" zcw
 Run_changes:Em K C_Run "changes" "Run.changes" zb5
 Run_town:Em K C_Run "town" "Run.town" zfI
 Run_was_heard:Em K C_Run "was_heard" "Run.was_heard" zcr
 Run_come:Em K C_Run "come" "Run.come" zfE
 Run_is_still:Em K C_Run "is_still" "Run.is_still" zbz
 Run_change:Em K C_Run "change" "Run.change" zd2
 Run_part:Em K C_Run "part" "Run.part" ziY
 _law_hand:Er K "_law_hand" zeQ
 _law_all:Er K "_law_all" zfz
 _law_take:Er K "_law_take" zew
 _law_pick:Er K "_law_pick" zeR
 _law_names:Er K "_law_names" zcP
 _law_cond:Er K "_law_cond" zeY
 _law_conds:Er K "_law_conds" zcF
 _law_likings:Er K "_law_likings" zc2
 _law_hands:Er K "_law_hands" zee
 _law_ties:Er K "_law_ties" zeM
 _law_town:Er K "_law_town" zca
 _law_odd:Er K "_law_odd" zfS
 _law_refused:Er K "_law_refused" zdb
 _law_told:Er K "_law_told" zeF
 law:Er K "law" zoP
 X_NoDeed:Addr
 x_NoDeed:Exn K "NoDeed" X_NoDeed
 X_RestError:Addr
 x_RestError:Exn K "RestError" X_RestError
 X_Forged:Addr
 x_Forged:Exn K "Forged" X_Forged
 X_HasRing:Addr
 x_HasRing:Exn K "HasRing" X_HasRing
 X_Needed:Addr
 x_Needed:Exn K "Needed" X_Needed
 X_NoLetter:Addr
 x_NoLetter:Exn K "NoLetter" X_NoLetter
 X_NoRow:Addr
 x_NoRow:Exn K "NoRow" X_NoRow
 X_NoText:Addr
 x_NoText:Exn K "NoText" X_NoText
 X_TooMany:Addr
 x_TooMany:Exn K "TooMany" X_TooMany
 e_NoDeed:W.excIn K X_NoDeed [.type "ValueError", .type "Exception", .type "BaseException", .type "object"] "ValueError.__new__"=true
 e_RestError:W.excIn K X_RestError [.type "ValueError", .type "Exception", .type "BaseException", .type "object"] "ValueError.__new__"=true
 i_NoDeed:ExCls K X_NoDeed
 u_NoDeed_RestError:zoL K X_NoDeed X_RestError
 j_NoDeed:W.kitAny K (.ref X_NoDeed) [.ref X_Forged, .ref X_HasRing, .ref X_Needed, .ref X_NoLetter, .ref X_NoRow, .ref X_NoText, .ref X_TooMany]=some false
 k_NoDeed_ValueError:W.kitOne K (.ref X_NoDeed) (.type "ValueError")=some true
 NOTHING:En K "NOTHING"
 LONGEST:Ei K "LONGEST" 8
 MOST_CONDS:Ei K "MOST_CONDS" 4
 LONGEST_ASKED:Ei K "LONGEST_ASKED" 99
 GREATEST_WORTH:Ei K "GREATEST_WORTH" 999
 MOST_RULES:Ei K "MOST_RULES" 90
 TAKEN:Et K "TAKEN" ["if","and","not","never"]
 NAMING:Et K "NAMING" ["by","from","to","mark"]
 z_ValueError:W.nsIn K mainGlobals "ValueError"=some none
 z_all:W.nsIn K mainGlobals "all"=some none
 z_any:W.nsIn K mainGlobals "any"=some none
 z_bool:W.nsIn K mainGlobals "bool"=some none
 z_dict:W.nsIn K mainGlobals "dict"=some none
 z_int:W.nsIn K mainGlobals "int"=some none
 z_isinstance:W.nsIn K mainGlobals "isinstance"=some none
 z_len:W.nsIn K mainGlobals "len"=some none
 z_list:W.nsIn K mainGlobals "list"=some none
 z_max:W.nsIn K mainGlobals "max"=some none
 z_min:W.nsIn K mainGlobals "min"=some none
 z_range:W.nsIn K mainGlobals "range"=some none
 z_sorted:W.nsIn K mainGlobals "sorted"=some none
 z_str:W.nsIn K mainGlobals "str"=some none
 z_tuple:W.nsIn K mainGlobals "tuple"=some none
section
open PySem PySem.W PyProof.Rows
local macro_rules | `(tactic|o_head $H)=> `(tactic|exact(λ(_:Hook)=>by assumption) $H)
theorem tk(h0:Challenge.rw_restways_k46_deeds_refused.row.Holds):Challenge.rw_restways_k46_deeds_refused.row.Holds:=by
 k_head
noncomputable abbrev vw_k:List Addr:=[2,3,15,17,18,20,21,22,23,26,27,28,30,31,33,34,35,37,38,40,41,42,44,45,47,48,49,50,52,53,55,56,57,59,60,62,63,64,66,67,69,70,71,74,75,76,78,79,81,82,83,85,86,88,89,90,93,94,95,97,98,100,101,102,104,105,107,108,109,110,112,113,115,116,117,118,120,121,123,124,125,127,128,130,131,132,135,136,137,140,141,142,144,145,147,148,149,151,152,154,155,156,159,160,161,163,164,166,167,168,170,171,173,174,175,177,178,180,181,182,185,186,187,194,195,196,197,200,207,208,209,212,219,221,222,224,225,226,227,228,231,238,239,240,243,250,251,252,255,262,263,264,267,274,275,276,279,286,288,289,291,292,293,294,295,298,305,306,307,310,313,314,315,317,318,320,321,322,324,325,327,328,329,331,332,334,335,336,339,340,341,342,350,352,353,355,356,357,359,360,362,363,364,366,367,369,370,371,373,374,376,377,378,380,381,383,384,385,387,388,390,391,392,394,395,397,398,399,401,402,404,405,406,408,409,411,412,413,415,416,418,419,420,422,423,425,426,427,429,430,432,433,434,436,437,439,440,441,442,443,444,445,448,450,451,453,454,462,465,466,467,469,470,472,473,474,477,478,479,482,483,484,486,487,489,490,491,493,494,496,497,498,500,501,503,504,505,507,508,510,511,512,514,515,517,518,519,522,523,524,526,527,529,530,531,534,535,536,537,538,539,540,543,545,546,548,549,550,552,553,555,556,557,559,560,562,563,564,566,567,569,570,571,574,575,576,578,579,581,582,583,586,587,588,590,591,593,594,595,597,598,600,601,602,604,605,607,608,609,612,613,614,616,617,619,620,621,623,624,626,627,628,630,631,633,634,635,637,638,640,641]
set_option maxRecDepth 100000 in
set_option maxHeartbeats 0 in
theorem vw_y(w:World)(os:OsState):look Challenge.pw_restways_k46_deeds_refused w os 11 (some (.ref 6)) 9632 (λs=>vw_k.map s.heap.get?)=some ((tk.heap_1 w.params).map λp=>some p.2):=by kernel_rfl
noncomputable abbrev vw_H:Hook:=W.kHook tk.heap_1 vw_k (λ_=>by kernel_rfl)
set_option maxRecDepth 100000 in
set_option maxHeartbeats 0 in
theorem topE(HW:∀(q:PySem.Program) (loose:List PySem.Str) (XP:(PySem.Str->Option PySem.Value)->PySem.Heap->Prop) (YP:PySem.World->PySem.Heap->Prop) (d:DefRec) (K:PySem.Params->W.Frag),d.params.defaults=[]->d.name="law"->(∀w h,YP w h->(K w.params).In h)->(∀w:PySem.World,Fk (K w.params))->W.WalkO q loose XP YP Challenge.rw_restways_k46_deeds_refused.row.toRowW d [] (λf vs=>PySem.call f vs)):Challenge.rw_restways_k46_deeds_refused.Holds:=by
 w_on;refine W.holds_law vw_ws λsaid=>?_
 refine holds_open (N:=9632) (q:=vw) (loose:=[(Str.ofString "holds"),(Str.ofString "all_hold")]) (YP:=Hook.says vw_H) (Ya:=Hook.val vw_H) (Yf:=Hook.obs vw_H) (XP:=XL vw []) (Xt:=λz=>xlAt vw [] z&&recOk [] z) (λw=>map_two (vw_one w) (vw_any (λos=>vw_y w os))) (Hook.of vw_H) (Hook.keeps vw_H) (λz e=>xl_of z (Bool.and_eq_true_iff.mp e).1) XL.keeps (by rfl) (by rfl) (by rfl) (λz e=>recFacts_of (Bool.and_eq_true_iff.mp e).2) (by rfl) (by first|assumption|decide +kernel) `Y3 ⟨rfl,rfl,rfl,rfl,rfl,`Y3⟩ ?hw ?hc
 (case hw=>w_witness2)
 k_fill
 refine HW _ _ _ _ _ _ rfl rfl (λw h Y=>W.kIn_of Y) ?F
 case F=>
  intro w
  refine' Fk.mk _ ?c_House ?_ ?_ ?_ ?_ ?_ ?_ _ ?c_Run ?_ ?_ ?_ ?_ ?_ ?_ ?_ ?_ ?_ ?_ ?_ ?_ ?_ ?_ ?_ ?_ ?_ ?_ ?_ ?_ ?_ ?_ ?_ ?_ ?_ ?_ ?_ ?_ ?_ ?_ ?_ ?_ ?_ ?_ ?_ ?_ ?_ ?_ ?_ ?_ ?_ ?_ ?_ ?_ ?_ ?_ ?_ ?_ ?_ ?_ ?_ ?_ ?_ ?_ ?_ ?_ ?_ ?_ ?_ ?_ ?_ ?_ ?_ ?_ ?_ ?_ ?_ ?_ ?_ ?_ ?_ _ ?x_NoDeed _ ?x_RestError _ ?x_Forged _ ?x_HasRing _ ?x_Needed _ ?x_NoLetter _ ?x_NoRow _ ?x_NoText _ ?x_TooMany ?_ ?_ ?_ ?_ ?_ ?_ ?_ ?_ ?_ ?_ ?_ ?_ ?_ ?_ ?_ ?_ ?_ ?_ ?_ ?_ ?_ ?_ ?_ ?_ ?_ ?_ ?_ ?_ ?_
  (case c_House=>
    refine' Ec.mk ?a ?pg ?hd ?po ?sa ?ms ?kc
    (case a=>k_is)
    (case pg=>k_is)
    (case hd=>k_is)
    (case po=>k_is)
    (case sa=>k_is)
    (case ms=>k_is)
    (case kc=>k_is))
  (case c_Run=>
    refine' Ec.mk ?a ?pg ?hd ?po ?sa ?ms ?kc
    (case a=>k_is)
    (case pg=>k_is)
    (case hd=>k_is)
    (case po=>k_is)
    (case sa=>k_is)
    (case ms=>k_is)
    (case kc=>k_is))
  (case x_NoDeed=>
    refine' Exn.mk ?a
    (case a=>k_is))
  (case x_RestError=>
    refine' Exn.mk ?a
    (case a=>k_is))
  (case x_Forged=>
    refine' Exn.mk ?a
    (case a=>k_is))
  (case x_HasRing=>
    refine' Exn.mk ?a
    (case a=>k_is))
  (case x_Needed=>
    refine' Exn.mk ?a
    (case a=>k_is))
  (case x_NoLetter=>
    refine' Exn.mk ?a
    (case a=>k_is))
  (case x_NoRow=>
    refine' Exn.mk ?a
    (case a=>k_is))
  (case x_NoText=>
    refine' Exn.mk ?a
    (case a=>k_is))
  (case x_TooMany=>
    refine' Exn.mk ?a
    (case a=>k_is))
  all_goals try first
   |k_exc
   |kernel_rfl
   |(refine' exCls_mk ?b1 ?b2 ?b3 ?b4 ?b5 ?b6 ?b7 ?b8
     (case b1=>k_is)
     (case b2=>k_is)
     (case b3=>k_is)
     (case b4=>k_is)
     (case b5=>k_is)
     (case b6=>k_is)
     (case b7=>k_is)
     (case b8=>k_is))
   |(refine' exSub_mk ?q ?l ?m
     (case l=>k_is)
     (case q=>k_exc)
     (case m=>rfl))
  all_goals first
   |k_is
   |(refine' Er.mk ?a ?l ?c ?k
     (case a=>k_is)
     (case l=>k_is)
     (case c=>k_is)
     (case k=>k_is))
   |(refine' Em.mk ?a ?i ?l ?c ?k
     (case a=>k_is)
     (case i=>k_is)
     (case l=>k_is)
     (case c=>k_is)
     (case k=>k_is))
   |(refine' ErD.mk ?a ?l ?c ?k ?d
     (case a=>k_is)
     (case l=>k_is)
     (case c=>k_is)
     (case k=>k_is)
     (case d=>k_is))
   |(refine' En.mk ?a ?l ?d
     (case a=>k_is)
     (case l=>k_is)
     (case d=>k_is))
   |(refine' Ei.mk ?a
     (case a=>k_is))
   |(refine' Et.mk ?a ?l ?d
     (case a=>k_is)
     (case l=>k_is)
     (case d=>repeat' (first|exact .nil|refine .cons ?_)))
end
noncomputable abbrev Key:=Sum Int Str
noncomputable def zid:Key->Value->Bool
 | .inl k,v=>Value.isInt k v
 | .inr x,v=>Value.isStrOf x v
noncomputable def zxg(w:World):Key->Int
 | .inl k=>hashInt k
 | .inr x=>hashStr w x
theorem zam:∀{k:Key} {v:Value},zid k v=true->(∃i t,k=Sum.inl i/\v=Value.int i t)\/(∃x t,k=Sum.inr x/\v=Value.str x t)
 | .inl i,v,h=>by
   obtain⟨t,e⟩:=Value.isInt_shape (k:=i) (v:=v) h
   exact .inl ⟨i,t,rfl,e⟩
 | .inr x,v,h=>by
   obtain⟨t,e⟩:=Value.isStrOf_shape (x:=x) (v:=v) h
   exact .inr ⟨x,t,rfl,e⟩
theorem zp3(i:Int)(t:Tok):zid (.inl i) (.int i t)=true:=by simp[zid,Value.isInt]
theorem zpx(x:Str)(t:Tok):zid (.inr x) (.str x t)=true:=by simp[zid,Value.isStrOf]
theorem zvw(a b:Int):decide ((Sum.inl a:Key)=Sum.inl b)=(a==b):=by
 by_cases e:a=b
 ·subst e;simp
 ·have h:¬(Sum.inl a:Key)=Sum.inl b:=λq=>e (Sum.inl.inj q)
  rw[U0 h]
  exact(beq_eq_false_iff_ne.mpr e).symm
theorem zuT(a b:Str):decide ((Sum.inr a:Key)=Sum.inr b)=decide (a=b):=by
 by_cases e:a=b
 ·subst e;simp
 ·have h:¬(Sum.inr a:Key)=Sum.inr b:=λq=>e (Sum.inr.inj q)
  rw[U0 h,U0 e]
theorem zuM(a:Int)(b:Str):decide ((Sum.inl a:Key)=Sum.inr b)=false:=U0 (λq=>nomatch q)
theorem zvs(a:Str)(b:Int):decide ((Sum.inr a:Key)=Sum.inl b)=false:=U0 (λq=>nomatch q)
noncomputable def zak(prog:Program)(w:World):PySem.KeyKind prog w Key where
 is:=zid
 hash:=zxg w
 inj:=λv a b ha hb=>by
  rcases zam ha with⟨i,t,rfl,rfl⟩|⟨x,t,rfl,rfl⟩
  ·rcases zam hb with⟨j,u,rfl,e⟩|⟨y,u,rfl,e⟩
   ·injection e with e1 _;rw[e1]
   ·exact nomatch e
  ·rcases zam hb with⟨j,u,rfl,e⟩|⟨y,u,rfl,e⟩
   ·exact nomatch e
   ·injection e with e1 _;rw[e1]
 byValue:=λk v h=>by
   rcases zam h with⟨i,t,rfl,rfl⟩|⟨x,t,rfl,rfl⟩<;>rfl
 pyHash:=λhv h=>by
  rcases zam hv with⟨i,t,rfl,rfl⟩|⟨x,t,rfl,rfl⟩
  ·exact wpAny_pyHash_int h
  ·exact wpAny_pyHash_str h
 eqBool:=λhu hv h=>by
  rcases zam hu with⟨i,t,rfl,rfl⟩|⟨x,t,rfl,rfl⟩
  ·rcases zam hv with⟨j,u,rfl,rfl⟩|⟨y,u,rfl,rfl⟩
   ·rw[zvw] at h;exact wpAny_eqBool_int h
   ·rw[zuM] at h;exact SeqAt.EqAt.int_str i t y u _ _ _ _ h
  ·rcases zam hv with⟨j,u,rfl,rfl⟩|⟨y,u,rfl,rfl⟩
   ·rw[zvs] at h;exact SeqAt.EqAt.str_int x t j u _ _ _ _ h
   ·rw[zuT] at h;exact wpAny_eqBool_str h
 «strs»:=λk x t v h=>by
  rcases zam h with⟨i,u,rfl,e⟩|⟨y,u,rfl,e⟩
  ·exact nomatch e
  ·injection e with e1 _
   subst e1
   cases v<;>rfl
theorem zlM(prog:Program)(w:World)(i:Int)(t:Tok):(zak prog w).is (.inl i) (.int i t)=true:=zp3 i t
theorem zmJ(prog:Program)(w:World)(x:Str)(t:Tok):(zak prog w).is (.inr x) (.str x t)=true:=zpx x t
inductive V where
 |non|bl (b:Bool)|int (i:Int)|str (x:Str)|byt (b:Array UInt8)|flt (b:UInt64)|ref (a:Addr)|ty (n:String)
 deriving DecidableEq
variable{xs us ys vs dvs us':List V}{v v':V}{kvs kvs' kh:List (Key×V)}
def RelV:V->Value->Prop
 | .non,u=>u=Value.none
 | .bl b,u=>u=Value.bool b
 | .int i,u=>∃t,u=Value.int i t
 | .str x,u=>∃t,u=Value.str x t
 | .byt b,u=>∃t,u=Value.bytes b t
 | .flt b,u=>∃t,u=Value.float b t
 | .ref a,u=>u=Value.ref a
 | .ty n,u=>u=Value.type n
abbrev Vals:List V->List Value->Prop:=Paired RelV
theorem Vals.length{us:List Value}(r:Vals xs us):xs.length=us.length:=Paired.length r
theorem Vals.get:∀{xs:List V} {us:List Value} {i:Nat} {x:V},Vals xs us->xs[i]?=some x->∃u,us[i]?=some u/\RelV x u
 |_,_,_,_, .nil,e=>by simp at e
 |_,_,0,_, .cons r _,e=>by simp at e;subst e;exact⟨_,rfl,r⟩
 |_,_,i+1,x, .cons _ t,e=>by
  obtain⟨u,h1,h2⟩:=Vals.get (i:=i) (x:=x) t (by simpa using e)
  exact⟨u,by simpa using h1,h2⟩
theorem Vals.set{x:V}(r:RelV x u):∀{xs:List V} {us:List Value} (i:Nat),Vals xs us->Vals (xs.set i x) (us.set i u)
 |_,_,_, .nil=> .nil
 |_,_,0, .cons _ t=> .cons r t
 |_,_,i+1, .cons q t=> .cons q (Vals.set r i t)
theorem Vals.append:∀{xs ys:List V} {us ws:List Value},Vals xs us->Vals ys ws->Vals (xs ++ys) (us ++ws)
 |_,_,_,_, .nil,s=>s
 |_,_,_,_, .cons r t,s=> .cons r (Vals.append t s)
theorem Vals.take:∀{xs:List V} {us:List Value} (n:Nat),Vals xs us->Vals (xs.take n) (us.take n)
 |_,_,0,_=> .nil
 |_,_,_+1, .nil=> .nil
 |_,_,n+1, .cons r t=> .cons r (Vals.take n t)
theorem Vals.drop:∀{xs:List V} {us:List Value} (n:Nat),Vals xs us->Vals (xs.drop n) (us.drop n)
 |_,_,0,r=>r
 |_,_,_+1, .nil=> .nil
 |_,_,n+1, .cons _ t=>Vals.drop n t
def RelO:Option V->Option Value->Prop
 |some v,some u=>RelV v u
 |none,none=>True
 |_,_=>False
def KV:List (κ×V)->List (κ×Value)->Prop:=Paired λ(p:κ×V) (q:κ×Value)=>p.1=q.1/\RelV p.2 q.2
noncomputable def kV:Key->V
 | .inl i=> .int i
 | .inr x=> .str x
inductive HO where
 |lst (xs:List V)
 |tup (xs:List V)
 |dK (kvs:List (Key×V))|dT (kvs:List (List Key×V))
 |set (S:Int->Bool) (n:Nat)
 |ins (C dx:Addr) (fs:List (Str×V))
 |own (x:Addr)
 |xd (fs:List (Str×V))
 |met (f x:Addr)
 |rng (lo hi:Int)
 |frz (o:Obj) (u:HO)
 |tbl (ps:Array Value)
 |ext (φ:Heap->Prop)
variable{o':HO}
noncomputable abbrev Hp:=Addr->Option HO
variable{H H' H1 H2 H3:Hp}
noncomputable def upd(H:Hp)(a:Addr)(o:HO):Hp:=λb=>if b=a then some o else H b
theorem zc{o:HO}:upd H a o a=some o:=by unfold upd;rw[R0 rfl]
theorem ze{b:Addr}{o:HO}(h:b≠a):upd H a o b=H b:=by unfold upd;rw[N0 h]
theorem zhy{o u:HO}:upd (upd H a o) a u=upd H a u:=by
 funext b;unfold upd;split<;>rfl
theorem zy{b:Addr}{o u:HO}(h:H a=some o)(h':H b=some u)(d:o≠u):a≠b:=by
 intro e;subst e;rw[h] at h';exact d (U1 h')
theorem zj{b:Addr}{o:HO}(h:H a=some o)(h':H b=none):a≠b:=by
 intro e;subst e;rw[h] at h';cases h'
section
variable(P:Program)(w:World)
def NoDict(h:Heap)(a:Addr):Prop:=∀o,h.get? a=some o->o.dict=none
theorem NoDict.new{h:Heap}{o:Obj}(e:o.dict=none)(f:(h.push o).get? h.objs.size=some o):NoDict (h.push o) h.objs.size:=λo' z=>by rw[f] at z;cases z;exact e
def ObjOk(H:Hp)(h:Heap)(a:Addr):HO->Prop
 | .lst xs=>xs.length<=sizeLine/\∃(its:List Value) (n:Nat),Vals xs its/\h.get? a=some {cls:= .type "list",data:= .seq its.toArray n}
 | .tup xs=>xs.length<=sizeLine/\∃its:List Value,Vals xs its/\IsTup h a its.toArray/\NoDict h a
 | .dK kvs=>kvs.length<=sizeLine/\(a==sysModules)=false/\∃vs,KV kvs vs/\h.DictOf (zak P w) a vs
 | .dT kvs=>kvs.length<=sizeLine/\(a==sysModules)=false/\∃xs:List (List Key×Addr×Value),
    Paired (λ(p:List Key×V) (q:List Key×Addr×Value)=>p.1=q.1/\H q.2.1=some (.tup (p.1.map kV))/\RelV p.2 q.2.2) kvs xs/\
    ∃o es ep,h.get? a=some o/\o.ExactDict/\o.data= .dict es ep/\es.toList=xs.map (entryOfKey (tupleKind (zak P w)))/\(xs.map (·.1)).Nodup
 | .set S n=>h.SetOf (intKind P w) a S n
 | .ins C dx fs=>H dx=some (.own a)/\fs.length<=1000/\dx≠a/\h.get? a=some (W.instObj C dx)/\
    ∃mA,h.Ns1 dx mA/\(∀f,RelO (fs.lookup f) (mA f))/\PySem.Within mA (fs.map (·.1))
 | .own _=>∃o,h.get? a=some o
 | .xd fs=>∃mA,h.Ns1 a mA/\∀f,RelO (fs.lookup f) (mA f)
 | .rng lo hi=>∃t u v,h.get? a=some {cls:= .type "range",data:= .fields #[.int lo t, .int hi u, .int 1 v]}
 | .frz o u=>h.get? a=some o/\ObjOk H h a u
 | .tbl ps=>h.get? a=some {cls:= .none,data:= .fields ps}
 | .met f x=>h.get? a=some (W.methodObj (.ref f) (.ref x))
 | .ext φ=>φ h/\(∃o,h.get? a=some o)/\∀h1 h2:Heap,φ h1->(∀o,h1.get? a=some o->h2.get? a=some o)->φ h2
def HOk(H:Hp)(h:Heap):Prop:=∀a o,H a=some o->ObjOk P w H h a o
end
section
variable{w:World}{h:Heap}{o:HO}
theorem ObjOk.lt(x:ObjOk P w H h a o):a<h.objs.size:=by
 cases o with
 |lst xs=>obtain ⟨_,_,_,_,e⟩:=x;exact Y0 e
 |tup xs=>obtain ⟨_,_,_,p,_⟩:=x;exact p.lt
 |dK kvs=>obtain ⟨_,_,_,_,o,_,_,e,_⟩:=x;exact Y0 e
 |dT kvs=>obtain ⟨_,_,_,_,o,_,_,e,_⟩:=x;exact Y0 e
 |set S n=>obtain ⟨o,_,_,_,e,_⟩:=x;exact Y0 e
 |ins C dx fs=>obtain ⟨_,_,_,e,_⟩:=x;exact Y0 e
 |own y=>obtain ⟨_,e⟩:=x;exact Y0 e
 |xd fs=>obtain ⟨_,⟨_,_,_,e,_⟩,_⟩:=x;exact Y0 e
 |rng lo hi=>obtain ⟨_,_,_,e⟩:=x;exact Y0 e
 |frz ob u=>obtain ⟨e,_⟩:=x;exact Y0 e
 |tbl ps=>exact Y0 (show h.get? a=some _ from x)
 |met f y=>exact Y0 (show h.get? a=some _ from x)
 |ext φ=>obtain ⟨_,⟨_,e⟩,_⟩:=x;exact Y0 e
theorem Paired.mapP{F G:α->β->Prop}:∀{l₁:List α} {l₂:List β},Paired F l₁ l₂->(∀a b,F a b->G a b)->Paired G l₁ l₂
 |_,_, .nil,_=> .nil
 |_,_, .cons r t,f=> .cons (f _ _ r) (Paired.mapP t f)
theorem ObjOk.stay(x:ObjOk P w H h a o)(k:∀b u,(b=a\/H b=some (.own a))->h.get? b=some u->h'.get? b=some u)
 (ho:∀b,H b=some (.own a)->H' b=some (.own a)) (ht:∀b xs,H b=some (.tup xs)->H' b=some (.tup xs)):ObjOk P w H' h' a o:=by
 induction o with
 |lst xs=>obtain ⟨z,its,n,r,e⟩:=x;exact⟨z,its,n,r,k _ _ (.inl rfl) e⟩
 |tup xs=>obtain ⟨z,its,r,⟨ob,e,c⟩,nd⟩:=x;exact⟨z,its,r,⟨ob,k _ _ (.inl rfl) e,c⟩,λo q=>by rw[k _ _ (.inl rfl) e] at q;cases q;exact nd _ e⟩
 |dK kvs=>obtain ⟨z,y,vs,r,ob,es,ep,e,c⟩:=x;exact⟨z,y,vs,r,ob,es,ep,k _ _ (.inl rfl) e,c⟩
 |dT kvs=>
  obtain⟨z,y,xs,r,ob,es,ep,e,c⟩:=x
  exact⟨z,y,xs,Paired.mapP r λp q z=>⟨z.1,ht _ _ z.2.1,z.2.2⟩,ob,es,ep,k _ _ (.inl rfl) e,c⟩
 |set S n=>obtain ⟨ob,es,ep,t,e,c⟩:=x;exact⟨ob,es,ep,t,k _ _ (.inl rfl) e,c⟩
 |ins C dx fs=>
  obtain⟨d,z,ne,e,mA,⟨od,es,ep,e2,c⟩,r⟩:=x
  exact⟨ho _ d,z,ne,k _ _ (.inl rfl) e,mA,⟨od,es,ep,k _ _ (.inr d) e2,c⟩,r⟩
 |own y=>obtain ⟨ob,e⟩:=x;exact⟨ob,k _ _ (.inl rfl) e⟩
 |xd fs=>obtain ⟨mA,⟨od,es,ep,e,c⟩,r⟩:=x;exact⟨mA,⟨od,es,ep,k _ _ (.inl rfl) e,c⟩,r⟩
 |rng lo hi=>obtain ⟨t,u,v,e⟩:=x;exact⟨t,u,v,k _ _ (.inl rfl) e⟩
 |frz ob u ih=>obtain ⟨e,q⟩:=x;exact⟨k _ _ (.inl rfl) e,ih q⟩
 |tbl ps=>
  have e:h.get? a=some {cls:= .none,data:= .fields ps}:=x
  show h'.get? a=some {cls:= .none,data:= .fields ps}
  exact k a _ (.inl rfl) e
 |met f y=>
  have e:h.get? a=some (W.methodObj (.ref f) (.ref y)):=x
  show h'.get? a=some (W.methodObj (.ref f) (.ref y))
  exact k a _ (.inl rfl) e
 |ext φ=>obtain ⟨p,⟨o,e⟩,st⟩:=x;exact⟨st _ _ p λo q=>k _ _ (.inl rfl) q,⟨o,k _ _ (.inl rfl) e⟩,st⟩
theorem HOk.lt(x:HOk P w H h)(e:H a=some o):a<h.objs.size:=(x a o e).lt
theorem HOk.fresh(x:HOk P w H h)(e:h.objs.size<=a):H a=none:=by
 cases q:H a with
 |none=>rfl
 |some u=>exact absurd (W1 (x.lt q) e) (Nat.lt_irrefl _)
theorem HOk.kept(x:HOk P w H h)(k:∀b u,h.get? b=some u->h'.get? b=some u):HOk P w H h':=λa o e=>
 (x a o e).stay (λb u _ q=>k b u q) (λ_ q=>q) λ_ _ q=>q
theorem HOk.laid(x:HOk P w H h)(k:∀b u,h.get? b=some u->h'.get? b=some u)(hp:h.objs.size<=a)(new:ObjOk P w (upd H a o) h' a o):HOk P w (upd H a o) h':=λb u e=>by
 have hn:=x.fresh hp
 by_cases hb:b=a
 ·subst hb;rw[zc] at e;cases e;exact new
 ·rw[ze hb] at e
  exact(x b u e).stay (λc v _ q=>k c v q) (λc q=>by rw[ze (zj q hn)];exact q) λc xs q=>by rw[ze (zj q hn)];exact q
end
def Rd(H:Hp)(a:Addr)(u:HO):Prop:=H a=some u\/∃o,H a=some (.frz o u)
theorem Rd.ok{w:World}{h:Heap}{u:HO}(r:Rd H a u)(x:HOk P w H h):ObjOk P w H h a u:=by
 rcases r with r|⟨o,r⟩
 ·exact x a u r
 ·obtain ⟨_,q⟩:=x a _ r
  exact q
def Mut:Option HO->Prop
 |some (.lst _)=>True
 |some (.dK _)=>True
 |some (.dT _)=>True
 |some (.set _ _)=>True
 |some (.ins _ _ _)=>True
 |some (.ext _)=>True
 |_=>False
section
variable{w:World}{h:Heap}{x e:Addr}
theorem HOk.write(ok:HOk P w H h)(mu:Mut (H x))(he:e=x\/H e=some (.own x))(k:∀b u,b≠e->h.get? b=some u->h'.get? b=some u)(heo:∃u,h'.get? e=some u)
 (new:ObjOk P w (upd H x o') h' x o'):HOk P w (upd H x o') h':=λb u q=>by
 have nown:∀c y,H c=some (.own y)->c≠x:=λc y r z=>by subst z;rw[r] at mu;exact mu
 have ntup:∀c xs,H c=some (.tup xs)->c≠x:=λc xs r z=>by subst z;rw[r] at mu;exact mu
 by_cases hb:b=x
 ·subst hb;rw[zc] at q;cases q;exact new
 ·rw[ze hb] at q
  by_cases hbe:b=e
  ·have q':H b=some (.own x):=by
    rcases he with z|z
    ·exact absurd (hbe.trans z) hb
    ·rw[hbe];exact z
   rw[q] at q';cases q'
   obtain⟨v,hv⟩:=heo
   exact⟨v,by rw[hbe];exact hv⟩
  ·refine (ok b u q).stay (λc v hc r=>k c v ?_ r) (λc r=>by rw[ze (nown c b r)];exact r) λc xs r=>by rw[ze (ntup c xs r)];exact r
   rcases hc with rfl|hc
   ·exact hbe
   ·rintro rfl
    rcases he with z|z
    ·exact nown c b hc z
    ·rw[hc] at z;cases z;exact hb rfl
end
structure Un(fs ex:List Addr)(H H':Hp)(h h':Heap):Prop where
 keep:∀b o,h.get? b=some o->H b=none->b∉fs->b∉ex->h'.get? b=some o
 slot:∀b o,h.get? b=some o->H b=none->b∈fs->b∉ex->∃sl,h'.get? b=some {o with slots:=sl}
 free:∀b o,h.get? b=some o->H b=none->b∉ex->H' b=none
 there:∀b o,h.get? b=some o->b∉ex->∃o',h'.get? b=some o'
 tups:∀b xs,H b=some (.tup xs)->H' b=some (.tup xs)
 frzs:∀b o u,H b=some (.frz o u)->H' b=some (.frz o u)
 tbls:∀b ps,H b=some (.tbl ps)->∃more,H' b=some (.tbl (ps ++more))
section
variable{fs fs' ex ex':List Addr}{h h1 h2:Heap}{x e:Addr}{o:HO}
theorem Un.any(u:Un fs ex H H1 h h1){b:Addr}{ob:Obj}(q:h.get? b=some ob)(n:H b=none)(hx:b∉ex):∃sl,h1.get? b=some {ob with slots:=sl}:=by
 by_cases hb:b∈fs
 ·exact u.slot b ob q n hb hx
 ·exact ⟨ob.slots,u.keep b ob q n hb hx⟩
theorem Un.kept(k:∀b u,h.get? b=some u->h'.get? b=some u):Un fs ex H H h h':=
 ⟨λb ob q _ _ _=>k b ob q,λb ob q _ _ _=>⟨ob.slots,k b ob q⟩,λ_ _ _ n _=>n,λb ob q _=>⟨ob,k b ob q⟩,λ_ _ q=>q,λ_ _ _ q=>q,λ_ ps q=>⟨#[],by rw[q];simp⟩⟩
theorem Un.refl:Un fs ex H H h h:=Un.kept λ_ _ q=>q
theorem Un.laid(k:∀b u,h.get? b=some u->h'.get? b=some u)(hp:h.objs.size<=a)(hn:H a=none):Un fs ex H (upd H a o) h h' where
 keep:=λb u q _ _ _=>k b u q
 slot:=λb u q _ _ _=>⟨u.slots,k b u q⟩
 free:=λb u q n _=>by rw[ze (V1 (W1 (Y0 q) hp))];exact n
 there:=λb u q _=>⟨u,k b u q⟩
 tups:=λb xs q=>by rw[ze (zj q hn)];exact q
 frzs:=λb u xs q=>by rw[ze (zj q hn)];exact q
 tbls:=λb ps q=>⟨#[],by rw[ze (zj q hn),q];simp⟩
theorem Un.write(mu:Mut (H x))(he:e=x\/H e=some (.own x))(k:∀b u,b≠e->h.get? b=some u->h'.get? b=some u)(heo:∃u,h'.get? e=some u):Un fs ex H (upd H x o) h h':=by
 have hx:∀b,H b=none->b≠x:=λb n z=>by subst z;rw[n] at mu;exact mu
 have hb:∀b,H b=none->b≠e:=λb n z=>by
  subst z
  rcases he with r|r
  ·exact hx b n r
  ·rw[n] at r;cases r
 have hm:∀b u,H b=some u->¬Mut (some u)->b≠x:=λb u q nm z=>by subst z;rw[q] at mu;exact nm mu
 refine⟨λb u q n _ _=>k b u (hb b n) q,λb u q n _ _=>⟨u.slots,k b u (hb b n) q⟩,λb u q n _=>by rw[ze (hx b n)];exact n,λb u q _=>?_,
  λb xs q=>by rw[ze (hm b _ q λz=>z)];exact q,λb u xs q=>by rw[ze (hm b _ q λz=>z)];exact q,λb ps q=>⟨#[],by rw[ze (hm b _ q λz=>z),q];simp⟩⟩
 by_cases hbe:b=e
 ·subst hbe;exact heo
 ·exact ⟨u,k b u hbe q⟩
end
noncomputable def trk(h:Heap)(H:Hp):List Addr:=(List.range h.objs.size).filter λa=>(H a).isSome
noncomputable def zkF(h:Heap)(H:Hp):Heap:=W.hideAll h (trk h H)
theorem zph(h:Heap)(H:Hp):(zkF h H).objs.size=h.objs.size:=W.hideAll_size _ _
theorem zrZ{h:Heap}{b:Addr}{o:Obj}(e:h.get? b=some o)(n:H b=none):(zkF h H).get? b=some o:=
 W.hideAll_get _ e λhm=>by
  have q:(H b).isSome=true:=(Y2.mp hm).2
  rw[n] at q;simp at q
theorem zsK{h:Heap}{b:Addr}{o:Obj}(e:(zkF h H).get? b=some o):h.get? b=some o/\H b=none:=by
 have e':h.get? b=some o:=W.of_hideAll (trk h H) e
 refine⟨e',?_⟩
 cases q:H b with
 |none=>rfl
 |some x=>
  have hm:b∈trk h H:=Y2.mpr ⟨List.mem_range.mpr (Y0 e'),by simp[q]⟩
  have z:(zkF h H).get? b=none:=W.hideAll_none (trk h H) hm
  rw[z] at e;cases e
structure Mod(K:W.Frag)(mg:Str->Option Value)(base:Heap):Prop where
 kin:K.In base
 glob:base.Ns mainGlobals mg
 blt:∃mb,base.Ns builtinsNs mb/\∀x:Str,x≠"__name__"->mb x=bootBuiltins x
 nolimit:base.NoLimit
structure Cx where
 prog:Program
 w:World
 K:W.Frag
 mg:Str->Option Value
 base:Heap
 A:Around
 N:List Str
 s₀:Shared
 H₀:Hp
 env:Env
 outer:List Env
 stack:List Env
 ex:List Addr
 fn:Str->Bool
 calm:Bool
 pn:List (Addr×Obj)
 xe:Value->Shared->Prop
variable{N:List Str}{w:World}{K:W.Frag}{X:Cx}{A:Around}{prog:Program}{env:Env}{outer:List Env}{pn:List (Addr×Obj)}{xe:Value->Shared->Prop}
noncomputable def frs(l:List Env):List Addr:=l.filterMap (·.frame)
noncomputable abbrev Cx.fs(X:Cx):List Addr:=frs X.outer
variable{fs:List Addr}
def Vis(sc:Scope)(x:Str):Prop:=sc.names.lookup x=some .local\/sc.names.lookup x=some .cell\/sc.names.lookup x=some .free
def Loc(sc:Scope)(x:Str):Prop:=sc.names.lookup x=some .local\/sc.names.lookup x=some .cell
def zxb(env:Env)(h:Heap)(m:Str->Option Value)(x:Str)(u:Value):Prop:=
 (env.kindOf x=some .local/\m x=some u)\/((env.kindOf x=some .cell\/env.kindOf x=some .free)/\∃c,env.cells.lookup x=some c/\h.IsCell c (some u))
structure Cx.Ok(X:Cx):Prop where
 mod:Mod X.K X.mg X.base
 kind:X.env.scope.kind= .function
 glob:X.env.globals=mainGlobals
 blt:X.env.builtins=builtinsNs
 above:X.s₀.heap.objs.size<=X.env.locals
 inj:∀x y c,X.env.cells.lookup x=some c->X.env.cells.lookup y=some c->x=y
 has:∀x,(X.env.kindOf x=some .cell\/X.env.kindOf x=some .free)->∃c,X.env.cells.lookup x=some c
 cab:∀x c,X.fn x=true->X.env.cells.lookup x=some c->X.s₀.heap.objs.size<=c
 hd:X.calm=true->X.A.handled=none
 frames:X.A.frames=some X.stack
 stk:X.stack=X.outer\/(X.stack=X.env::X.outer/\X.env.frame=some X.env.locals)
 exf:∀b∈X.ex,b≠X.env.locals/\∀x c,X.env.cells.lookup x=some c->c≠b
 bs:∀b o,X.base.get? b=some o->X.s₀.heap.get? b=some o/\X.H₀ b=none
 bsz:X.base.objs.size<=X.s₀.heap.objs.size
 noex:∀b o,X.base.get? b=some o->b∉X.ex
 exfs:∀b∈X.ex,b∉X.fs
 funs:X.s₀.heap.FunFrames X.base X.outer
 frf:∀b∈X.fs,X.H₀ b=none
structure Inv(X:Cx)(pins:List (Addr×Obj))(σ:List (Option V))(H:Hp)(s:Shared):Prop where
 ok:X.Ok
 os:s.os=X.s₀.os
 bare:AllBare s.gens
 base:Un X.fs X.ex X.H₀ H X.s₀.heap s.heap
 loc:∃m,s.heap.Ns X.env.locals m/\∀(i:Nat) (x:Str) (v:V),X.N[i]?=some x->σ[i]?=some (some v)->Vis X.env.scope x->∃u,RelV v u/\zxb X.env s.heap m x u
 cell:∀x c,X.env.cells.lookup x=some c->∃v,s.heap.IsCell c v
 free:H X.env.locals=none
 freeC:∀x c,X.env.cells.lookup x=some c->H c=none
 pin:∀p∈X.pn ++pins,s.heap.get? p.1=some p.2/\H p.1=none/\p.1≠X.env.locals/\p.1∉X.fs/\∀v,p.2.data≠ .cell v
 hok:HOk X.prog X.w H s.heap
 len:σ.length=X.N.length
section
variable{σ:List (Option V)}
theorem Cx.Ok.nofr(ok:X.Ok){b:Addr}{o:Obj}(e:X.base.get? b=some o):b∉X.fs:=λhb=>by
 have:=(ok.funs.mem hb).1
 rw[e] at this;cases this
theorem Inv.bs(I:Inv X pins σ H s):∀b o,X.base.get? b=some o->s.heap.get? b=some o/\H b=none:=λb o e=>
 ⟨I.base.keep b o (I.ok.bs b o e).1 (I.ok.bs b o e).2 (I.ok.nofr e) (I.ok.noex b o e),I.base.free b o (I.ok.bs b o e).1 (I.ok.bs b o e).2 (I.ok.noex b o e)⟩
theorem Inv.bk(I:Inv X pins σ H s):∀b o,X.base.get? b=some o->s.heap.get? b=some o:=λb o e=>(I.bs b o e).1
theorem Inv.mod(I:Inv X pins σ H s):Mod X.K X.mg X.base:=I.ok.mod
theorem Inv.kIn(I:Inv X pins σ H s):X.K.In s.heap:=I.ok.mod.kin.keeps I.bk
theorem Inv.lt(I:Inv X pins σ H s):X.env.locals<s.heap.objs.size:=let⟨_,hn,_⟩:=I.loc;hn.lt
theorem Inv.sz(I:Inv X pins σ H s):X.s₀.heap.objs.size<=s.heap.objs.size:=Y1 I.ok.above (P2 I.lt)
theorem Inv.nofs(I:Inv X pins σ H s)(h:s.heap.objs.size<=a):a∉X.fs:=λhb=>by
 obtain⟨_,o,ho,_⟩:=I.ok.funs.mem hb
 exact absurd (W1 (Y0 ho) (Y1 I.sz h)) (Nat.lt_irrefl _)
theorem Inv.cne(I:Inv X pins σ H s):∀x c,X.env.cells.lookup x=some c->c≠X.env.locals:=λx c e z=>by
 obtain⟨v,o,ho,hd⟩:=I.cell x c e
 obtain⟨m,⟨o',es,ep,ho',hd',_⟩,_⟩:=I.loc
 rw[z,ho'] at ho;cases ho;rw[hd'] at hd;cases hd
theorem Inv.funs(I:Inv X pins σ H s):s.heap.FunFrames X.base X.outer:=by
 have all:∀(l:List Env),(∀b∈frs l,b∈X.fs)->X.s₀.heap.FunFrames X.base l->s.heap.FunFrames X.base l:=by
  intro l
  induction l with
  |nil=>intro _ _;trivial
  |cons env r ih=>
   intro hs hl
   obtain⟨hk,⟨L,o,hf,hn,ho,hd⟩,hr⟩:=hl
   have hL:L∈X.fs:=hs L (by unfold frs;rw[List.filterMap_cons,hf];exact N1)
   obtain⟨sl,e⟩:=I.base.slot L o ho (I.ok.frf L hL) hL λz=>I.ok.exfs L z hL
   exact⟨hk,⟨L,_,hf,hn,e,hd⟩,ih (λb hb=>hs b (by unfold frs;rw[List.filterMap_cons,hf];exact F1 _ hb)) hr⟩
 exact all X.outer (λ_ hb=>hb) I.ok.funs
theorem Inv.stack(I:Inv X pins σ H s):s.heap.FunFrames X.base X.stack:=by
 rcases I.ok.stk with e|⟨e,hf⟩
 ·rw[e];exact I.funs
 ·rw[e]
  obtain⟨m,hn,_⟩:=I.loc
  refine .cons (by rw[I.ok.kind];decide) hf hn ?_ I.funs
  exact Heap.get?_none_of_le (Y1 I.ok.bsz I.ok.above)
theorem Inv.stkSub(I:Inv X pins σ H s):∀b∈frs X.stack,b∈X.env.locals::X.fs:=λb hb=>by
 rcases I.ok.stk with e|⟨e,hf⟩
 ·rw[e] at hb;exact F1 _ hb
 ·rw[e] at hb
  unfold frs at hb
  rw[List.filterMap_cons,hf] at hb
  exact hb
theorem Inv.stkFree(I:Inv X pins σ H s):∀b∈frs X.stack,H b=none:=λb hb=>by
 rcases D1.mp (I.stkSub b hb)with e|hb
 ·rw[e];exact I.free
 ·obtain ⟨_,o,ho,_⟩:=I.ok.funs.mem hb
  exact I.base.free b o ho (I.ok.frf b hb) λz=>I.ok.exfs b z hb
theorem Inv.step{ch:List Addr}(I:Inv X pins σ H s)
 (hch:∀b∈ch,(b∈X.ex\/X.s₀.heap.objs.size<=b)/\b≠X.env.locals/\(∀x c,X.env.cells.lookup x=some c->c≠b)/\∀p∈X.pn ++pins,p.1≠b)
 (keep:∀b o,b≠X.env.locals->b∉X.fs->b∉ch->s.heap.get? b=some o->H b=none->h'.get? b=some o)
 (slot:∀b o,b≠X.env.locals->b∈X.fs->b∉ch->s.heap.get? b=some o->H b=none->∃sl,h'.get? b=some {o with slots:=sl}) (free:∀b o,b∉ch->s.heap.get? b=some o->H b=none->H' b=none)
 (there:∀b o,b∉ch->s.heap.get? b=some o->∃o',h'.get? b=some o')
 (tups:∀b xs,H b=some (.tup xs)->H' b=some (.tup xs)) (frzs:∀b o u,H b=some (.frz o u)->H' b=some (.frz o u)) (tbls:∀b ps,H b=some (.tbl ps)->∃more,H' b=some (.tbl (ps ++more)))
 (ns:∀m,s.heap.Ns X.env.locals m->h'.Ns X.env.locals m) (hok:HOk X.prog X.w H' h') (hg:AllBare g'):
 Inv X pins σ H' {s with heap:=h',gens:=g',drawn:=d',toks:=t'}:=by
 have neL:∀b o,X.s₀.heap.get? b=some o->b≠X.env.locals:=λb o e=>V1 (W1 (Y0 e) I.ok.above)
 have neC:∀b o,X.s₀.heap.get? b=some o->b∉X.ex->b∉ch:=λb o e hx hb=>by
  rcases(hch b hb).1 with z|z
  ·exact hx z
  ·exact absurd (W1 (Y0 e) z) (Nat.lt_irrefl _)
 have cellK:∀x c,X.env.cells.lookup x=some c->∀v,s.heap.IsCell c v->h'.IsCell c v:=λx c e v ⟨o,ho,hd⟩=>by
  have nch:c∉ch:=λz=>(hch c z).2.2.1 x c e rfl
  by_cases hc:c∈X.fs
  ·obtain ⟨sl,q⟩:=slot c o (I.cne x c e) hc nch ho (I.freeC x c e)
   exact⟨_,q,hd⟩
  ·exact ⟨o,keep c o (I.cne x c e) hc nch ho (I.freeC x c e),hd⟩
 refine⟨I.ok,I.os,hg,⟨λb o e n hb hx=>?_,λb o e n hb hx=>?_,λb o e n hx=>?_,λb o e hx=>?_,λb xs e=>tups b xs (I.base.tups b xs e),λb o xs e=>frzs b o xs (I.base.frzs b o xs e),λb ps e=>?_⟩,?_,λx c e=>?_,?_,λx c e=>?_,λp hp=>?_,hok,I.len⟩
 ·exact keep b o (neL b o e) hb (neC b o e hx) (I.base.keep b o e n hb hx) (I.base.free b o e n hx)
 ·obtain ⟨sl,e1⟩:=I.base.slot b o e n hb hx
  obtain⟨sl',e2⟩:=slot b _ (neL b o e) hb (neC b o e hx) e1 (I.base.free b o e n hx)
  exact⟨sl',e2⟩
 ·obtain ⟨o',e1⟩:=I.base.there b o e hx
  exact free b o' (neC b o e hx) e1 (I.base.free b o e n hx)
 ·obtain ⟨o',e1⟩:=I.base.there b o e hx
  exact there b o' (neC b o e hx) e1
 ·obtain ⟨m1,e1⟩:=I.base.tbls b ps e
  obtain⟨m2,e2⟩:=tbls b _ e1
  exact⟨m1 ++m2,by rw[e2,Array.append_assoc]⟩
 ·obtain ⟨m,hn,hl⟩:=I.loc
  refine⟨m,ns m hn,λi x v e1 e2 e3=>?_⟩
  obtain⟨u,r,l⟩:=hl i x v e1 e2 e3
  refine⟨u,r,?_⟩
  rcases l with l|⟨k,c,e,z⟩
  ·exact .inl l
  ·exact .inr ⟨k,c,e,cellK x c e _ z⟩
 ·obtain ⟨v,z⟩:=I.cell x c e
  exact⟨v,cellK x c e v z⟩
 ·obtain ⟨m,⟨o,_,_,ho,_⟩,_⟩:=I.loc
  exact free _ o (λz=>(hch _ z).2.1 rfl) ho I.free
 ·obtain ⟨v,o,ho,hd⟩:=I.cell x c e
  exact free c o (λz=>(hch c z).2.2.1 x c e rfl) ho (I.freeC x c e)
 ·obtain ⟨e,n,ne,nf,d⟩:=I.pin p hp
  have nch:p.1∉ch:=λz=>(hch p.1 z).2.2.2 p hp rfl
  exact⟨keep p.1 p.2 ne nf nch e n,free p.1 p.2 nch e n,ne,nf,d⟩
theorem Inv.un(I:Inv X pins σ H s)(u:Un X.fs [] H H' s.heap h')(hok:HOk X.prog X.w H' h'):Inv X pins σ H' {s with heap:=h',toks:=t'}:=by
 obtain⟨m,⟨o,es,ep,ho,r⟩,_⟩:=id I.loc
 obtain⟨sl,hL⟩:=u.any ho I.free `Z3
 exact I.step (g':=s.gens) (d':=s.drawn) (ch:=[]) (λ_ z=>nomatch z) (λb o _ hb _ e n=>u.keep b o e n hb `Z3) (λb o _ hb _ e n=>u.slot b o e n hb `Z3) (λb o _ e n=>u.free b o e n `Z3) (λb o _ e=>u.there b o e `Z3) u.tups u.frzs u.tbls (λm' hm=>by
  obtain⟨o',es',ep',ho',r'⟩:=hm
  rw[ho] at ho';cases ho'
  exact⟨_,es',ep',hL,r'⟩) hok I.bare
theorem Inv.call{ch:List Addr}(I:Inv X pins σ H s)(u:Un (frs X.stack) ch H H' s.heap h')(hok:HOk X.prog X.w H' h')(hg:AllBare g')
 (hch:∀b∈ch,(b∈X.ex\/X.s₀.heap.objs.size<=b)/\b≠X.env.locals/\(∀x c,X.env.cells.lookup x=some c->c≠b)/\∀p∈X.pn ++pins,p.1≠b):
 Inv X pins σ H' {s with heap:=h',gens:=g',drawn:=d',toks:=t'}:=by
 obtain⟨m,⟨o,es,ep,ho,r⟩,_⟩:=id I.loc
 obtain⟨sl,hL⟩:=u.any ho I.free λz=>(hch _ z).2.1 rfl
 exact I.step (ch:=ch) hch (λb o hL hb hc e n=>u.keep b o e n (λz=>(D1.mp (I.stkSub b z)).elim hL hb) hc) (λb o _ _ hc e n=>u.any e n hc) (λb o hc e n=>u.free b o e n hc) (λb o hc e=>u.there b o e hc) u.tups u.frzs u.tbls (λm' hm=>by
  obtain⟨o',es',ep',ho',r'⟩:=hm
  rw[ho] at ho';cases ho'
  exact⟨_,es',ep',hL,r'⟩) hok hg
theorem Inv.turned(I:Inv X pins σ H s)(k:∀b o,b≠it->s.heap.get? b=some o->h'.get? b=some o)(hn:H it=none)(hL:it≠X.env.locals)
 (h1:it∈X.ex\/X.s₀.heap.objs.size<=it) (h2:∀x c,X.env.cells.lookup x=some c->c≠it) (h3:∀p∈X.pn ++pins,p.1≠it):Inv X pins σ H {s with heap:=h',toks:=t'}:=by
 have nit:∀b u,H b=some u->b≠it:=λb u e z=>by rw[z,hn] at e;cases e
 refine I.step (g':=s.gens) (d':=s.drawn) (ch:=[it]) (λb hb=>?_) (λb o _ _ hc e _=>k b o (λz=>hc (by simp[z])) e) (λb o _ _ hc e _=>⟨o.slots,k b o (λz=>hc (by simp[z])) e⟩) (λ_ _ _ _ n=>n)
  (λb o hc e=>⟨o,k b o (λz=>hc (by simp[z])) e⟩) (λ_ _ e=>e) (λ_ _ _ e=>e) (λb ps e=>⟨#[],by rw[e];simp⟩) (λm hm=>?_) (λb u e=>?_) I.bare
 ·have e:b=it:=by simpa using hb
  subst e
  exact⟨h1,hL,h2,h3⟩
 ·obtain ⟨o,es,ep,ho,r⟩:=hm
  exact⟨o,es,ep,k _ o (Ne.symm hL) ho,r⟩
 ·refine (I.hok b u e).stay (λc v hc q=>k c v ?_ q) (λ_ q=>q) λ_ _ q=>q
  rcases hc with z|z
  ·rw[z];exact nit b u e
  ·exact nit c _ z
theorem Inv.tok(I:Inv X pins σ H s)(t:Nat):Inv X pins σ H {s with toks:=t}:=I.un (h':=s.heap) (t':=t) Un.refl I.hok
theorem Inv.kept(I:Inv X pins σ H s)(k:∀b u,s.heap.get? b=some u->h'.get? b=some u):Inv X pins σ H {s with heap:=h',toks:=t'}:=I.un (Un.kept k) (I.hok.kept k)
theorem Inv.laid{o:HO}(I:Inv X pins σ H s)(k:∀b u,s.heap.get? b=some u->h'.get? b=some u)(hp:s.heap.objs.size<=a)(new:ObjOk X.prog X.w (upd H a o) h' a o):
 Inv X pins σ (upd H a o) {s with heap:=h',toks:=t'}:=I.un (Un.laid k hp (I.hok.fresh hp)) (I.hok.laid k hp new)
theorem Inv.write{x e:Addr}{o:HO}(I:Inv X pins σ H s)(mu:Mut (H x))(he:e=x\/H e=some (.own x))(k:∀b u,b≠e->s.heap.get? b=some u->h'.get? b=some u)(heo:∃u,h'.get? e=some u)
 (new:ObjOk X.prog X.w (upd H x o) h' x o):Inv X pins σ (upd H x o) {s with heap:=h',toks:=t'}:=I.un (Un.write mu he k heo) (I.hok.write mu he k heo new)
theorem Inv.pins_of(I:Inv X pins σ H s)(h:∀p∈pins',s.heap.get? p.1=some p.2/\H p.1=none/\p.1≠X.env.locals/\p.1∉X.fs/\∀v,p.2.data≠ .cell v):Inv X pins' σ H s:=
 ⟨I.ok,I.os,I.bare,I.base,I.loc,I.cell,I.free,I.freeC,λp hp=>(Q2.mp hp).elim (λz=>I.pin p (List.mem_append_left _ z)) (h p),I.hok,I.len⟩
theorem zib(hN:N.Nodup)(a:N[i]?=some x)(b:N[j]?=some x):i=j:=by
 obtain⟨h1,e1⟩:=y1.mp a
 obtain⟨h2,e2⟩:=y1.mp b
 exact(List.getElem_inj hN).mp (e1.trans e2.symm)
theorem zpH{Q:Unit->Shared->Prop}(I:Inv X pins σ H s)(hN:X.N.Nodup)(hi:X.N[i]?=some x)(hx:Loc X.env.scope x)(r:RelV v u)
 (h:∀s',Inv X pins (σ.set i (some v)) H s'->(∃a,Heap.SameBut a s.heap s'.heap/\(a=X.env.locals\/X.env.cells.lookup x=some a))->Q Unit.unit s') (hf:autoParam (X.fn x=true\/X.env.scope.names.lookup x=some .local) w6):wpAny M A (storeName X.env x u) Q E s:=by
 obtain⟨m,hn,hl⟩:=id I.loc
 have hcls:(X.env.scope.kind== .class||(X.env.scope.kind== .module&&X.env.locals !=X.env.globals))=false:=by rw[I.ok.kind];rfl
 have hiσ:i<σ.length:=by rw[I.len];exact(y1.mp hi).1
 have cne:=I.cne
 have tracked:∀{a:Addr} {h':Heap},(∃o,s.heap.get? a=some o/\H a=none)->Heap.SameBut a s.heap h'->HOk X.prog X.w H h':=λ{a h'} ha hs b ob e=>by
  obtain⟨_,_,hfree⟩:=ha
  refine(I.hok b ob e).stay (λc w' hc q=>(hs.2 c ?_).trans q) (λ_ q=>q) λ_ _ q=>q
  rintro rfl
  rcases hc with rfl|hc
  ·rw[hfree] at e;cases e
  ·rw[hfree] at hc;cases hc
 rcases hx with hk|hk
 ·refine wpAny_storeName_local hk hn (λh' hn' hs=>?_) hcls
  obtain⟨oL,_,_,hoL,_⟩:=id hn
  refine h _ ⟨I.ok,I.os,I.bare,⟨λb o e n hb hx=>?_,λb o e n hb hx=>?_,I.base.free,λb o e hx=>?_,I.base.tups,I.base.frzs,I.base.tbls⟩,⟨_,hn',λj y v' e1 e2 e3=>?_⟩,λy c e=>?_,I.free,I.freeC,λp hp=>?_,tracked ⟨oL,hoL,I.free⟩ hs,by simpa using I.len⟩ ⟨_,hs, .inl rfl⟩
  ·exact (hs.2 b (V1 (W1 (Y0 e) I.ok.above))).trans (I.base.keep b o e n hb hx)
  ·obtain ⟨sl,e1⟩:=I.base.slot b o e n hb hx
   exact⟨sl,(hs.2 b (V1 (W1 (Y0 e) I.ok.above))).trans e1⟩
  ·obtain ⟨o',e1⟩:=I.base.there b o e hx
   exact⟨o',(hs.2 b (V1 (W1 (Y0 e) I.ok.above))).trans e1⟩
  ·by_cases hj:j=i
   ·subst hj
    rw[hi] at e1;cases e1
    rw[List.getElem?_set_self hiσ] at e2
    cases e2
    exact⟨u,r, .inl ⟨hk,`Z3⟩⟩
   ·rw[List.getElem?_set_ne (Ne.symm hj)] at e2
    obtain⟨u',r',q⟩:=hl j y v' e1 e2 e3
    refine⟨u',r',?_⟩
    rcases q with⟨k,e⟩|⟨k,c,e,z⟩
    ·refine .inl ⟨k,?_⟩
     have:y≠x:=λe=>hj (zib hN e1 (e▸hi))
     simp[this,e]
    ·exact .inr ⟨k,c,e,z.sameBut hs (cne y c e)⟩
  ·obtain ⟨w',z⟩:=I.cell y c e
   exact⟨w',z.sameBut hs (cne y c e)⟩
  ·obtain ⟨e,n,ne,nf,d⟩:=I.pin p hp
   exact⟨(hs.2 p.1 ne).trans e,n,ne,nf,d⟩
 ·have hfn:X.fn x=true:=by
   rcases hf with z|z
   ·exact z
   ·rw[z] at hk;cases hk
  obtain⟨c,hc⟩:=I.ok.has x (.inl hk)
  obtain⟨w',z⟩:=I.cell x c hc
  refine wpAny_storeName_cell I.ok.kind hk hc z (λh' hc' hs=>?_)
  obtain⟨oc,hoc,hocd⟩:=id z
  refine h {s with heap:=h'} ⟨I.ok,I.os,I.bare,⟨λb o e n hb hx=>?_,λb o e n hb hx=>?_,I.base.free,λb o e hx=>?_,I.base.tups,I.base.frzs,I.base.tbls⟩,⟨m,hn.sameBut hs (Ne.symm (cne x c hc)),λj y v' e1 e2 e3=>?_⟩,λy c' e=>?_,I.free,I.freeC,λp hp=>?_,tracked ⟨oc,hoc,I.freeC x c hc⟩ hs,by simpa using I.len⟩ ⟨c,hs, .inr hc⟩
  ·exact (hs.2 b (V1 (W1 (Y0 e) (I.ok.cab x c hfn hc)))).trans (I.base.keep b o e n hb hx)
  ·obtain ⟨sl,e1⟩:=I.base.slot b o e n hb hx
   exact⟨sl,(hs.2 b (V1 (W1 (Y0 e) (I.ok.cab x c hfn hc)))).trans e1⟩
  ·obtain ⟨o',e1⟩:=I.base.there b o e hx
   exact⟨o',(hs.2 b (V1 (W1 (Y0 e) (I.ok.cab x c hfn hc)))).trans e1⟩
  ·by_cases hj:j=i
   ·subst hj
    rw[hi] at e1;cases e1
    rw[List.getElem?_set_self hiσ] at e2
    cases e2
    exact⟨u,r, .inr ⟨.inl hk,c,hc,hc'⟩⟩
   ·rw[List.getElem?_set_ne (Ne.symm hj)] at e2
    obtain⟨u',r',q⟩:=hl j y v' e1 e2 e3
    refine⟨u',r',?_⟩
    rcases q with q|⟨k,c',e,z'⟩
    ·exact .inl q
    ·refine .inr ⟨k,c',e,z'.sameBut hs ?_⟩
     rintro rfl
     exact hj (zib hN e1 (I.ok.inj _ _ _ e hc▸hi))
  ·by_cases hcc:c'=c
   ·subst hcc;exact⟨_,hc'⟩
   ·obtain ⟨w2,z2⟩:=I.cell y c' e
    exact⟨w2,z2.sameBut hs hcc⟩
  ·obtain ⟨e,n,ne,nf,d⟩:=I.pin p hp
   refine⟨(hs.2 p.1 ?_).trans e,n,ne,nf,d⟩
   intro q
   rw[q,hoc] at e
   have q':oc=p.2:=U1 e
   exact d w' (by rw[←q'];exact hocd)
theorem zda{Q:Unit->Shared->Prop}(I:Inv X pins σ H s)(hN:X.N.Nodup)(hi:X.N[i]?=some x)(hx:Loc X.env.scope x)(r:RelV v u)
 (h:∀s',Inv X pins (σ.set i (some v)) H s'->Q Unit.unit s') (hf:autoParam (X.fn x=true\/X.env.scope.names.lookup x=some .local) w6):wpAny M A (storeName X.env x u) Q E s:=
 zpH I hN hi hx r (λs' I' _=>h s' I') hf
theorem Inv.call'{ch:List Addr}(I:Inv X pins σ H s)(ho:s'.os=s.os)(u:Un (frs X.stack) ch H H' s.heap s'.heap)(hok:HOk X.prog X.w H' s'.heap)(hg:AllBare s'.gens)
 (hch:∀b∈ch,(b∈X.ex\/X.s₀.heap.objs.size<=b)/\b≠X.env.locals/\(∀x c,X.env.cells.lookup x=some c->c≠b)/\∀p∈X.pn ++pins,p.1≠b):Inv X pins σ H' s':=by
 obtain⟨h',g',d',t',o'⟩:=s'
 have e:o'=s.os:=ho
 subst e
 exact I.call (g':=g') (t':=t') (d':=d') u hok hg hch
end
noncomputable abbrev XK:=Value->Option Addr->Hp->Prop
noncomputable abbrev St:=List (Option V)
variable{σ σr:St}
noncomputable abbrev VK:=V->Hp->Prop
noncomputable abbrev TE:=St->Hp->VK->Prop
variable{te ti tl tv tx tf:TE}
noncomputable abbrev TT:=St->Hp->(Bool->Hp->Prop)->Prop
variable{tc tc2:TT}
noncomputable abbrev TA:=St->Hp->(List V->Hp->Prop)->Prop
variable{ta:TA}
structure Ends where
 nx:St->Hp->Prop
 rt:VK
 bk:St->Hp->Prop:=λ_ _=>False
 ct:St->Hp->Prop:=λ_ _=>False
variable{ct:Value}{De:Ends}
noncomputable abbrev TS:=Ends->St->Hp->Prop
variable{tb sb:TS}
def EP(X:Cx)(pins:List (Addr×Obj))(σ:St)(Q:VK)(u:Value)(s':Shared):Prop:=∃v H',Inv X pins σ H' s'/\RelV v u/\Q v H'
def TP(X:Cx)(pins:List (Addr×Obj))(σ:St)(Q:Bool->Hp->Prop)(b:Bool)(s':Shared):Prop:=∃H',Inv X pins σ H' s'/\Q b H'
def AP(X:Cx)(pins:List (Addr×Obj))(σ:St)(Q:List V->Hp->Prop)(us:List Value)(s':Shared):Prop:=∃vs H',Inv X pins σ H' s'/\Vals vs us/\Q vs H'
def SP(X:Cx)(pins:List (Addr×Obj))(D:Ends)(f:Flow)(s':Shared):Prop:=
 match f with
 | .next=>∃σ' H',Inv X pins σ' H' s'/\D.nx σ' H'
 | .brk=>∃σ' H',Inv X pins σ' H' s'/\D.bk σ' H'
 | .cont=>∃σ' H',Inv X pins σ' H' s'/\D.ct σ' H'
 | .ret u=>∃v σ' H',Inv X pins σ' H' s'/\RelV v u/\D.rt v H'
def PE(X:Cx)(e:Expr)(t:TE):Prop:=
 ∀(pins:List (Addr×Obj)) (s:Shared) (σ:St) (H:Hp) (Q:VK),Inv X pins σ H s->t σ H Q->wpAny (model X.prog X.w) X.A (eval e X.env) (EP X pins σ Q) X.xe s
def PT(X:Cx)(e:Expr)(t:TT):Prop:=
 ∀(pins:List (Addr×Obj)) (s:Shared) (σ:St) (H:Hp) (Q:Bool->Hp->Prop),Inv X pins σ H s->t σ H Q->wpAny (model X.prog X.w) X.A (isTrue e X.env (eval e X.env)) (TP X pins σ Q) X.xe s
def PW(X:Cx)(e:Expr)(t:TT):Prop:=
 ∀(whole:Sem Value) (pins:List (Addr×Obj)) (s:Shared) (σ:St) (H:Hp) (Q:Bool->Hp->Prop),Inv X pins σ H s->t σ H Q->wpAny (model X.prog X.w) X.A (isTrue e X.env whole) (TP X pins σ Q) X.xe s
theorem PW.pt{e:Expr}{t:TT}(h:PW X e t):PT X e t:=h _
variable{pt:Pos}
def PA(X:Cx)(es:List Expr)(t:TA):Prop:=
 ∀(pos:Pos) (pins:List (Addr×Obj)) (s:Shared) (σ:St) (H:Hp) (Q:List V->Hp->Prop),Inv X pins σ H s->t σ H Q->wpAny (model X.prog X.w) X.A (spliced (backTo pos (starEach es X.env))) (AP X pins σ Q) X.xe s
def PS(X:Cx)(st:Stmt)(t:TS):Prop:=
 ∀(pins:List (Addr×Obj)) (s:Shared) (σ:St) (H:Hp) (D:Ends),Inv X pins σ H s->t D σ H->wpAny (model X.prog X.w) X.A (exec st X.env) (SP X pins D) X.xe s
def PSs(X:Cx)(st:List Stmt)(t:TS):Prop:=
 ∀(pins:List (Addr×Obj)) (s:Shared) (σ:St) (H:Hp) (D:Ends),Inv X pins σ H s->t D σ H->wpAny (model X.prog X.w) X.A (execs st X.env) (SP X pins D) X.xe s
theorem thn{t:Sem α}{Q Q':α->Shared->Prop}(h:wpAny M A t Q E s)(hQ:∀a s,Q a s->Q' a s):wpAny M A t Q' E s:=D3 h hQ λ_ _ x=>x
section
noncomputable def zdQ(i:Nat):TE:=λσ H Q=>∃v,σ[i]?=some (some v)/\Q v H
noncomputable def tC(v:V):TE:=λ_ H Q=>Q v H
theorem zrL(hN:X.N[i]?=some x)(hv:Vis X.env.scope x)(hd:autoParam ((x==("__debug__":Str))=false) v5)(hcd:autoParam ((x==("__classdict__":Str))=false) v5):PE X (.Name x pos) (zdQ i):=by
 intro pins s σ H Q I h
 obtain⟨v,e,h⟩:=h
 obtain⟨m,hn,hl⟩:=I.loc
 obtain⟨u,r,l⟩:=hl i x v hN e hv
 have fin:EP X pins σ Q u s:=⟨v,H,I,r,h⟩
 rcases l with⟨hk,hm⟩|⟨hk,c,hc,hcell⟩
 ·exact wpAny_Name (wpAny_loadName_local I.ok.kind hk hn hm fin) hd
 ·rcases hk with hk|hk
  ·exact wpAny_Name (wpAny_loadName_cell I.ok.kind hk hc hcell fin) hd
  ·exact wpAny_Name (wpAny_loadName_free I.ok.kind hk hc hcell fin hcd) hd
theorem zrF{i j pos}:PE X (.Constant (.int i) j pos) (tC (.int i)):=λ_ _ _ H _ I h=>wpAny_Constant_int ⟨.int i,H,I.tok _,⟨_,rfl⟩,h⟩
theorem zuA{b j pos}:PE X (.Constant (.bool b) j pos) (tC (.bl b)):=λ_ _ _ H _ I h=>Constant_bool ⟨.bl b,H,I,rfl,h⟩
theorem zrS{j pos}:PE X (.Constant .none j pos) (tC .non):=λ_ _ _ H _ I h=>Constant_none ⟨.non,H,I,rfl,h⟩
theorem zrx{x j pos}:PE X (.Constant (.str x) j pos) (tC (.str x)):=λ_ _ _ H _ I h=>Calls.Constant_str ⟨.str x,H,I.tok _,⟨_,rfl⟩,h⟩
def Gl(X:Cx)(x:Str):Prop:=X.env.kindOf x=some .globalImplicit
theorem zf8(I:Inv X pins σ H s)(hg:Gl X x)(hm:X.mg x=some u)(h:Q u s)
 (hd:autoParam ((x==("__debug__":Str))=false) v5):wpAny (model X.prog X.w) X.A (eval (.Name x pos) X.env) Q E s:=
 Calls.Name_function_global I.ok.kind hg (Calls.loadGlobal_global (by rw[I.ok.glob];exact I.mod.glob.keeps I.bk) hm h) hd
theorem zij(I:Inv X pins σ H s)(hg:Gl X x)(hm:X.mg x=none)(hv:bootBuiltins x=some u)(h:Q u s)
 (hn:autoParam (x≠"__name__") v5) (hd:autoParam ((x==("__debug__":Str))=false) v5):wpAny (model X.prog X.w) X.A (eval (.Name x pos) X.env) Q E s:=by
 obtain⟨mb,h1,h2⟩:=I.mod.blt
 exact Calls.Name_function_global I.ok.kind hg (Calls.loadGlobal_builtin (by rw[I.ok.glob];exact I.mod.glob.keeps I.bk) hm (by rw[I.ok.blt];exact h1.keeps I.bk) ((h2 x hn).trans hv) h) hd
theorem zta(hg:Gl X x)(hm:X.mg x=some u)(r:RelV v u)(hd:autoParam ((x==("__debug__":Str))=false) v5):PE X (.Name x pos) (tC v):=
 λ_ _ _ H _ I h=>zf8 I hg hm ⟨v,H,I,r,h⟩ hd
theorem ztR(hg:Gl X x)(hm:X.mg x=none)(hv:bootBuiltins x=some u)(r:RelV v u)(hn:autoParam (x≠"__name__") v5)(hd:autoParam ((x==("__debug__":Str))=false) v5):PE X (.Name x pos) (tC v):=
 λ_ _ _ H _ I h=>zij I hg hm hv ⟨v,H,I,r,h⟩ hn hd
variable{a b:Expr}{ta tb:TE}
noncomputable def tB(t:TE):TT:=λσ H Q=>t σ H λx H1=>∃c,x= .bl c/\Q c H1
theorem zvr{e:Expr}{t:TE}(h:PE X e t)(he:autoParam (∀whole,isTrue e X.env whole=(do let v ←whole;standAt e.pos;holding [v] (truthy v))) t6):PT X e (tB t):=by
 intro pins s σ H Q I hw
 refine isTrue_plain (thn (h pins s σ H _ I hw) λv s1 zq=>?_) (he _)
 obtain⟨x,H1,I1,r1,q1⟩:=zq
 obtain⟨d,rfl,q⟩:=q1
 cases r1
 exact K3 ⟨H1,I1,q⟩
variable{tA tB':TT}
noncomputable def zwr(t u:TT):TT:=λσ H Q=>t σ H λc H1=>if c=true then u σ H1 Q else Q false H1
noncomputable def tOr(t u:TT):TT:=λσ H Q=>t σ H λc H1=>if c=true then Q true H1 else u σ H1 Q
noncomputable def zww(t:TT):TT:=λσ H Q=>t σ H λc H1=>Q (!c) H1
theorem zub(ha:PT X a tA):PW X (.BoolOp .And [a] pos) tA:=by
 intro wh pins s σ H Q I h
 refine isTrue_and (thn (ha pins s σ H Q I h) λc s1 e=>?_)
 cases c with
 |true=>exact isTrue_and_nil e
 |false=>exact e
theorem zu4(ha:PT X a tA):PW X (.BoolOp .Or [a] pos) tA:=by
 intro wh pins s σ H Q I h
 refine isTrue_or (thn (ha pins s σ H Q I h) λc s1 e=>?_)
 cases c with
 |false=>exact isTrue_or_nil e
 |true=>exact e
theorem zvz(ha:PT X a tA)(hb:PW X (.BoolOp .And (b::rest) pos) tB'):PW X (.BoolOp .And (a::b::rest) pos) (zwr tA tB'):=by
 intro wh pins s σ H Q I h
 refine isTrue_and (thn (ha pins s σ H _ I h) λc s1 zq=>?_)
 obtain⟨H1,I1,q1⟩:=zq
 cases c with
 |true=>exact hb wh pins s1 σ H1 Q I1 q1
 |false=>exact ⟨H1,I1,q1⟩
theorem zwX(ha:PT X a tA)(hb:PW X (.BoolOp .Or (b::rest) pos) tB'):PW X (.BoolOp .Or (a::b::rest) pos) (tOr tA tB'):=by
 intro wh pins s σ H Q I h
 refine isTrue_or (thn (ha pins s σ H _ I h) λc s1 zq=>?_)
 obtain⟨H1,I1,q1⟩:=zq
 cases c with
 |true=>exact ⟨H1,I1,q1⟩
 |false=>exact hb wh pins s1 σ H1 Q I1 q1
theorem zuK(ha:PT X a tA):PT X (.UnaryOp .Not a pos) (zww tA):=by
 intro pins s σ H Q I h
 exact isTrue_not (ha pins s σ H (λc H1=>Q (!c) H1) I h)
noncomputable def zuF(ta tb:TE):TE:=λσ H Q=>ta σ H λx H1=>∃c,x= .bl c/\if c=true then tb σ H1 Q else Q (.bl false) H1
noncomputable def zwn(ta tb:TE):TE:=λσ H Q=>ta σ H λx H1=>∃c,x= .bl c/\if c=true then Q (.bl true) H1 else tb σ H1 Q
noncomputable def zum(ta:TE):TE:=λσ H Q=>ta σ H λx H1=>∃c,x= .bl c/\Q (.bl (!c)) H1
theorem zvP{op}{t:TE}(h:PE X a t):PE X (.BoolOp op [a] pos) t:=λpins s σ H Q I hw=>BoolOp_one (h pins s σ H Q I hw)
theorem zvn(ha:PE X a ta)(hb:PE X (.BoolOp .And (b::rest) pos) tb):PE X (.BoolOp .And (a::b::rest) pos) (zuF ta tb):=by
 intro pins s σ H Q I h
 refine BoolOp_and (thn (ha pins s σ H _ I h) λv s1 zq=>?_)
 obtain⟨x,H1,I1,r1,q1⟩:=zq
 obtain⟨c,rfl,q1⟩:=q1
 cases r1
 refine K3 ?_
 cases c with
 |true=>exact hb pins s1 σ H1 Q I1 q1
 |false=>exact ⟨.bl false,H1,I1,rfl,q1⟩
theorem zwK(ha:PE X a ta)(hb:PE X (.BoolOp .Or (b::rest) pos) tb):PE X (.BoolOp .Or (a::b::rest) pos) (zwn ta tb):=by
 intro pins s σ H Q I h
 refine BoolOp_or (thn (ha pins s σ H _ I h) λv s1 zq=>?_)
 obtain⟨x,H1,I1,r1,q1⟩:=zq
 obtain⟨c,rfl,q1⟩:=q1
 cases r1
 refine K3 ?_
 cases c with
 |false=>exact hb pins s1 σ H1 Q I1 q1
 |true=>exact ⟨.bl true,H1,I1,rfl,q1⟩
theorem zuZ(ha:PE X a ta):PE X (.UnaryOp .Not a pos) (zum ta):=by
 intro pins s σ H Q I h
 refine UnaryOp_ (thn (ha pins s σ H _ I h) λv s1 zq=>?_)
 obtain⟨x,H1,I1,r1,q1⟩:=zq
 obtain⟨c,rfl,q1⟩:=q1
 cases r1
 exact not_of (K3 ⟨.bl (!c),H1,I1,rfl,q1⟩)
noncomputable def tIf(t:TT)(ta tb:TE):TE:=λσ H Q=>t σ H λc H1=>if c=true then ta σ H1 Q else tb σ H1 Q
theorem zqX{c:Expr}(hc:PT X c tA)(ha:PE X a ta)(hb:PE X b tb):PE X (.IfExp c a b pos) (tIf tA ta tb):=by
 intro pins s σ H Q I h
 refine wpAny_IfExp (thn (hc pins s σ H _ I h) λd s1 zq=>?_)
 obtain⟨H1,I1,q1⟩:=zq
 cases d with
 |true=>exact ha pins s1 σ H1 Q I1 q1
 |false=>exact hb pins s1 σ H1 Q I1 q1
end
def SqL(K:W.Frag)(H:Hp)(a:Addr)(xs:List V):Prop:=
 Rd H a (.lst xs)\/
  ∃(o:Obj) (its:Array Value) (n:Nat),K.lookup a=some o/\o.cls= .type "list"/\o.dict=none/\o.data= .seq its n/\its.size<=sizeLine/\Vals xs its.toList
def SqT(K:W.Frag)(H:Hp)(a:Addr)(xs:List V):Prop:=
 Rd H a (.tup xs)\/
  ∃(o:Obj) (its:Array Value) (n:Nat),K.lookup a=some o/\o.cls= .type "tuple"/\o.data= .seq its n/\its.size<=sizeLine/\Vals xs its.toList
noncomputable def zxj:Value->Option V
 | .none=>some .non
 | .bool b=>some (.bl b)
 | .int i _=>some (.int i)
 | .str x _=>some (.str x)
 | .bytes b _=>some (.byt b)
 | .float b _=>some (.flt b)
 | .ref a=>some (.ref a)
 | .type n=>some (.ty n)
 |_=>none
theorem RelV.abs{x:V}(r:RelV x u):zxj u=some x:=by
 cases x with
 |non=>cases r;rfl
 |bl _=>cases r;rfl
 |int _=>obtain ⟨t,rfl⟩:=r;rfl
 |str _=>obtain ⟨t,rfl⟩:=r;rfl
 |byt _=>obtain ⟨t,rfl⟩:=r;rfl
 |flt _=>obtain ⟨t,rfl⟩:=r;rfl
 |ref _=>cases r;rfl
 |ty _=>cases r;rfl
theorem RelV.inj{x y:V}(r:RelV x u)(q:RelV y u):x=y:=U1 (r.abs.symm.trans q.abs)
theorem Vals.inj{us:List Value}(h:Vals xs us)(h':Vals ys us):xs=ys:=by
 induction h generalizing ys with
 |nil=>cases h';rfl
 |cons r t ih=>
  cases h' with
  |cons r' t'=>rw[r.inj r',ih t']
theorem SqL.of(h:H a=some (.lst xs)):SqL K H a xs:= .inl (.inl h)
theorem SqT.of(h:H a=some (.tup xs)):SqT K H a xs:= .inl (.inl h)
theorem Inv.list(I:Inv X pins σ H s)(h:SqL X.K H a xs):∃its:List Value,Vals xs its/\PlainL s.heap a its.toArray/\xs.length<=sizeLine:=by
 rcases h with h|⟨o,its,n,hk,hc,hd,hs,hz,r⟩
 ·obtain ⟨z,its,n,r,e⟩:=h.ok I.hok
  exact⟨its,r,⟨_,n,e,rfl,rfl,rfl⟩,z⟩
 ·refine ⟨its.toList,r,⟨o,n,I.kIn a o hk,hc,hd,by simpa using hs⟩,?_⟩
  have e:=r.length
  simp only[Array.length_toList] at e
  lia
theorem Inv.tuple(I:Inv X pins σ H s)(h:SqT X.K H a xs):∃its:List Value,Vals xs its/\IsTup s.heap a its.toArray/\xs.length<=sizeLine:=by
 rcases h with h|⟨o,its,n,hk,hc,hs,hz,r⟩
 ·obtain ⟨z,its,r,p,_⟩:=h.ok I.hok
  exact⟨its,r,p,z⟩
 ·refine ⟨its.toList,r,⟨o,I.kIn a o hk,hc,n,by simpa using hs⟩,?_⟩
  have e:=r.length
  simp only[Array.length_toList] at e
  lia
theorem Inv.list_inj(I:Inv X pins σ H s)(h:SqL X.K H a xs)(h':SqL X.K H a ys):xs=ys:=by
 obtain⟨its,r,⟨o,n,e,_,_,d⟩,_⟩:=I.list h
 obtain⟨its',r',⟨o',n',e',_,_,d'⟩,_⟩:=I.list h'
 rw[e] at e';cases e'
 rw[d] at d'
 injection d' with d1 _
 have:its=its':=by simpa using E3 Array.toList d1
 subst this
 exact r.inj r'
theorem Inv.tuple_inj(I:Inv X pins σ H s)(h:SqT X.K H a xs)(h':SqT X.K H a ys):xs=ys:=by
 obtain⟨its,r,⟨o,e,_,n,d⟩,_⟩:=I.tuple h
 obtain⟨its',r',⟨o',e',_,n',d'⟩,_⟩:=I.tuple h'
 rw[e] at e';cases e'
 rw[d] at d'
 injection d' with d1 _
 have:its=its':=by simpa using E3 Array.toList d1
 subst this
 exact r.inj r'
abbrev Cx.wish(X:Cx)(E:Value->Shared->Prop):Cx:={X with xe:=E}
noncomputable abbrev Cx.nox(X:Cx):Cx:=X.wish λ_ _=>False
theorem Cx.Ok.wish(ok:X.Ok)(E:Value->Shared->Prop):(X.wish E).Ok:=
 ⟨ok.mod,ok.kind,ok.glob,ok.blt,ok.above,ok.inj,ok.has,ok.cab,ok.hd,ok.frames,ok.stk,ok.exf,ok.bs,ok.bsz,ok.noex,ok.exfs,ok.funs,ok.frf⟩
theorem Cx.Ok.unwish(ok:(X.wish E).Ok):X.Ok:=
 ⟨ok.mod,ok.kind,ok.glob,ok.blt,ok.above,ok.inj,ok.has,ok.cab,ok.hd,ok.frames,ok.stk,ok.exf,ok.bs,ok.bsz,ok.noex,ok.exfs,ok.funs,ok.frf⟩
theorem Inv.wish(I:Inv X pins σ H s)(E:Value->Shared->Prop):Inv (X.wish E) pins σ H s:=⟨I.ok.wish E,I.os,I.bare,I.base,I.loc,I.cell,I.free,I.freeC,I.pin,I.hok,I.len⟩
theorem Inv.unwish(I:Inv (X.wish E) pins σ H s):Inv X pins σ H s:=⟨I.ok.unwish,I.os,I.bare,I.base,I.loc,I.cell,I.free,I.freeC,I.pin,I.hok,I.len⟩
theorem SP.unwish{D:Ends}{f:Flow}(h:SP (X.wish E) pins D f s'):SP X pins D f s':=by
 cases f with
 |next=>obtain ⟨σ',H',I,q⟩:=h;exact⟨σ',H',I.unwish,q⟩
 |brk=>obtain ⟨σ',H',I,q⟩:=h;exact⟨σ',H',I.unwish,q⟩
 |cont=>obtain ⟨σ',H',I,q⟩:=h;exact⟨σ',H',I.unwish,q⟩
 |ret u=>obtain ⟨v,σ',H',I,r,q⟩:=h;exact⟨v,σ',H',I.unwish,r,q⟩
theorem PSs.nox{st:List Stmt}{t:TS}(h:PSs X.nox st t):PSs X st t:=λpins s σ H D I hw=>
 D3 (h pins s σ H D (I.wish _) hw) (λ_ _ q=>q.unwish) λ_ _ z=>False.elim z
section
variable{st:Stmt}{rest:List Stmt}{t u:TS}{e:Expr}
noncomputable def zuG:TS:=λD σ H=>D.nx σ H
noncomputable def zpn(t u:TS):TS:=λD σ H=>t {D with nx:=u D} σ H
theorem zsX:PSs X [] zuG:=λ_ _ σ H _ I h=>wpAny_execs_nil ⟨σ,H,I,h⟩
theorem zlw(h1:PS X st t)(h2:PSs X rest u):PSs X (st::rest) (zpn t u):=by
 intro pins s σ H D I h
 refine wpAny_execs_cons (thn (h1 pins s σ H {D with nx:=u D} I h) λf s1 q=>?_)
 cases f with
 |next=>
  obtain⟨σ',H',I',q⟩:=q
  exact h2 pins s1 σ' H' D I' q
 |ret v=>exact q
 |brk=>exact q
 |cont=>exact q
theorem ztj(h1:PS X st t):PSs X [st] t:=by
 intro pins s σ H D I h
 refine wpAny_execs_cons (thn (h1 pins s σ H D I h) λf s1 q=>?_)
 cases f with
 |next=>exact wpAny_execs_nil q
 |ret v=>exact q
 |brk=>exact q
 |cont=>exact q
noncomputable def zuv:TS:=λD σ H=>D.ct σ H
theorem zmh:PS X (.Continue pos) zuv:=λ_ _ σ H _ I h=>wpAny_Continue ⟨σ,H,I,h⟩
theorem Inv.quiet(I:Inv X pins σ H s):interactive X.env=false:=by simp[interactive,I.ok.kind]
noncomputable def zus(te:TE):TS:=λD σ H=>te σ H λ_ H1=>D.nx σ H1
theorem zto(he:PE X e te)(hs:autoParam (swapsWith e none pos.line X.env=pure false) u4):PS X (.Expr e pos) (zus te):=by
 intro pins s σ H D I h
 refine wpAny_Expr_any (thn (he pins s σ H _ I h) λv s1 zq=>?_) I.quiet hs
 obtain⟨x,H1,I1,r1,q1⟩:=zq
 exact⟨σ,H1,I1,q1⟩
noncomputable def zvX(te:TE):TS:=λD σ H=>te σ H D.rt
theorem zuO(he:PE X e te):PS X (.Return (some e) pos) (zvX te):=by
 intro pins s σ H D I h
 refine wpAny_Return_some (thn (he pins s σ H _ I h) λv s1 zq=>?_)
 obtain⟨x,H1,I1,r1,q1⟩:=zq
 exact⟨x,σ,H1,I1,r1,q1⟩
noncomputable def zwS(c:TT)(t u:TS):TS:=λD σ H=>c σ H λb H1=>if b=true then t D σ H1 else u D σ H1
theorem zwx{c:Expr}{a b:List Stmt}(hc:PT X c tc)(ha:PSs X a t)(hb:PSs X b u):PS X (.If c a b pos) (zwS tc t u):=by
 intro pins s σ H D I h
 refine wpAny_If (thn (hc pins s σ H _ I h) λd s1 zq=>?_)
 obtain⟨H1,I1,q1⟩:=zq
 cases d with
 |true=>exact ha pins s1 σ H1 D I1 q1
 |false=>exact hb pins s1 σ H1 D I1 q1
end
noncomputable abbrev TG:=V->St->Hp->(St->Hp->Prop)->Prop
variable{g2:TG}
noncomputable abbrev TGs:=List V->St->Hp->(St->Hp->Prop)->Prop
variable{tgs:TGs}
def PG(X:Cx)(target:Expr)(t:TG):Prop:=
 ∀(pins:List (Addr×Obj)) (s:Shared) (σ:St) (H:Hp) (v:V) (u:Value) (Q:St->Hp->Prop),Inv X pins σ H s->RelV v u->t v σ H Q->
  wpAny (model X.prog X.w) X.A (assign target X.env u) (λ_ s'=>∃σ' H',Inv X pins σ' H' s'/\Q σ' H') X.xe s
def PGs(X:Cx)(ts:List Expr)(t:TGs):Prop:=
 ∀(pins:List (Addr×Obj)) (s:Shared) (σ:St) (H:Hp) (vs:List V) (us:List Value) (Q:St->Hp->Prop),Inv X pins σ H s->Vals vs us->t vs σ H Q->
  wpAny (model X.prog X.w) X.A (assignInOrder ((assignEach ts X.env).map (·.2)) us) (λ_ s'=>∃σ' H',Inv X pins σ' H' s'/\Q σ' H') X.xe s
noncomputable abbrev ztl:=V->V->V->Hp->(Hp->Prop)->Prop
def zuP(X:Cx)(t:ztl):Prop:=
 ∀(pins:List (Addr×Obj)) (s:Shared) (σ:St) (H:Hp) (o i v:V) (ov iv u:Value) (Q:Hp->Prop),Inv X pins σ H s->RelV o ov->RelV i iv->RelV v u->t o i v H Q->
  wpAny (model X.prog X.w) X.A (setItem ov iv u) (λ_ s'=>∃H',Inv X pins σ H' s'/\Q H') X.xe s
noncomputable def zbH(i:Nat):TG:=λv σ H Q=>Q (σ.set i (some v)) H
theorem zof(hN:X.N.Nodup)(hi:X.N[i]?=some x)(hx:Loc X.env.scope x)(hf:autoParam (X.fn x=true\/X.env.scope.names.lookup x=some .local) w6):PG X (.Name x pos) (zbH i):=by
 intro pins s σ H v u Q I r h
 exact wpAny_assign_Name (zda I hN hi hx r (λs' I'=>⟨_,H,I',h⟩) hf)
noncomputable def zwu:TGs:=λvs σ H Q=>vs=[]/\Q σ H
noncomputable def zuD(t:TG)(u:TGs):TGs:=λvs σ H Q=>∃v r,vs=v::r/\t v σ H λσ' H'=>u r σ' H' Q
theorem ztx:PGs X [] zwu:=by
 intro pins s σ H vs us Q I r h
 obtain⟨e,h⟩:=h
 subst e
 cases r
 exact assignInOrder_nil ⟨σ,H,I,h⟩
theorem zqV{e:Expr}{t:TG}{u:TGs}(h1:PG X e t)(h2:PGs X es u)
 (hs:autoParam ((assignEach (e::es) X.env).map (·.2)=assign e X.env::(assignEach es X.env).map (·.2)) u4):PGs X (e::es) (zuD t u):=by
 intro pins s σ H vs us Q I r h
 obtain⟨v,vr,e1,h⟩:=h
 subst e1
 cases r with
 |cons r rr=>
  rw[hs]
  refine assignInOrder_cons (thn (h1 pins s σ H _ _ _ I r h) λ_ s1 zq=>?_)
  obtain⟨σ1,H1,I1,q1⟩:=zq
  exact h2 pins s1 σ1 H1 _ _ Q I1 rr q1
noncomputable def zvC(K:W.Frag)(n:Nat)(t:TGs):TG:=λv σ H Q=>∃a xs,v= .ref a/\SqT K H a xs/\xs.length=n/\t xs σ H Q
theorem zvc{k:Nat}{t:TGs}{n:Nat}(hc:X.calm=true)(h:PGs X es t)
 (hn:autoParam ((assignEach es X.env).length=n) u4) (hst:autoParam ((assignEach es X.env).findIdx? (·.1)=none) u4):PG X (.Tuple es k pos) (zvC X.K n t):=by
 intro pins s σ H v u Q I r hw
 obtain⟨a,xs,e1,hq,hl,hw⟩:=hw
 subst e1
 cases r
 obtain⟨its,rv,ht,hz⟩:=I.tuple hq
 refine assign_Tuple_tuple (I.ok.hd hc) ht (by simp[hn,←hl,rv.length]) hst λh' hx=>?_
 have I1:Inv X pins σ H {s with heap:=h'}:=I.kept (t':=s.toks) λb o e=>hx b o (V1 (Y0 e)) e
 exact h pins _ σ H xs _ Q I1 (by simpa using rv) hw
noncomputable def zwU(to ti:TE)(t:ztl):TG:=λv σ H Q=>to σ H λo H1=>ti σ H1 λi H2=>t o i v H2 λH3=>Q σ H3
theorem zuQ{o i:Expr}{to:TE}{t:ztl}(ho:PE X o to)(hi:PE X i ti)(hs:zuP X t)
 (ha:autoParam (∀v,assign (.Subscript o i pos) X.env v=(do
   let ov ←holding [v] (eval o X.env)
   let iv ←holding [v,ov] (eval i X.env)
   standAt pos
   holding [v,ov,iv] (setItem ov iv v)
   release [v,ov,iv] [])) t6):PG X (.Subscript o i pos) (zwU to ti t):=by
 intro pins s σ H v u Q I r h
 rw[ha]
 refine C0 (F3 (thn (ho pins s σ H _ I h) λov s1 zq=>?_))
 obtain⟨x,H1,I1,r1,q1⟩:=zq
 refine C0 (F3 (thn (hi pins s1 σ H1 _ I1 q1) λiv s2 zq=>?_))
 obtain⟨y,H2,I2,r2,q2⟩:=zq
 refine C0 (wpAny_standAt (C0 (F3 (thn (hs pins s2 σ H2 x y v ov iv u _ I2 r1 r2 r q2) λ_ s3 zq=>?_))))
 obtain⟨H3,I3,q3⟩:=zq
 exact wpAny_release ⟨σ,H3,I3,q3⟩
noncomputable def zja(te:TE)(g:TG):TS:=λD σ H=>te σ H λx H1=>g x σ H1 D.nx
theorem zv3{e:Expr}{g:TG}(he:PE X e te)(hg:PG X tg g)(hs:autoParam (swapsWithSole [tg] e pos.line X.env=pure false) u4)(hw:autoParam (swappedStores [tg] e X.env=pure none) u4)
 (h1:autoParam ((assignEach [tg] X.env).map (·.2)=[assign tg X.env]) u4):PS X (.Assign [tg] e pos) (zja te g):=by
 intro pins s σ H D I h
 refine wpAny_Assign_stores (thn (he pins s σ H _ I h) λv s1 zq=>?_) hs hw
 obtain⟨x,H1,I1,r1,q1⟩:=zq
 rw[h1]
 exact thn (hg pins s1 σ H1 x v _ I1 r1 q1) λ_ s2 q=>q
theorem zsj{e:Expr}(hN:X.N.Nodup)(hi:X.N[i]?=some x)(hx:Loc X.env.scope x)(he:PE X e te)(hs:autoParam (swapsWith e (some (.Name x pos')) pos.line X.env=pure false) u4)(hf:autoParam (X.fn x=true\/X.env.scope.names.lookup x=some .local) w6):
 PS X (.Assign [.Name x pos'] e pos) (zja te (zbH i)):=by
 intro pins s σ H D I h
 refine wpAny_Assign_Name (thn (he pins s σ H _ I h) λv s1 zq=>?_) hs
 obtain⟨y,H1,I1,r1,q1⟩:=zq
 exact zda I1 hN hi hx r1 (λs2 I2=>⟨_,H1,I2,q1⟩) hf
noncomputable def zwD(i j:Nat)(ta:TA):TS:=λD σ H=>ta σ H λvs H1=>∃v w,vs=[v,w]/\D.nx ((σ.set i (some v)).set j (some w)) H1
theorem zvU{a b:Expr}{kt k2 pt2}(hc:X.calm=true)(hN:X.N.Nodup)(hi:X.N[i]?=some x)(hj:X.N[j]?=some y)(hij:i≠j)
 (hx:X.env.scope.names.lookup x=some .local) (hy:X.env.scope.names.lookup y=some .local) (ha:PA X [a,b] ta)
 (hw:swappedStores [.Tuple [.Name x px, .Name y py] kt pt] (.Tuple [a,b] k2 pt2) X.env=pure (some [x,y]))
 (hs:autoParam (swapsWithSole [.Tuple [.Name x px, .Name y py] kt pt] (.Tuple [a,b] k2 pt2) pos.line X.env=pure false) u4):
 PS X (.Assign [.Tuple [.Name x px, .Name y py] kt pt] (.Tuple [a,b] k2 pt2) pos) (zwD i j ta):=by
 intro pins s σ H D I h
 rw[exec_Assign_arm]
 refine C0 (wpAny_standAt ?_)
 rw[hs]
 refine C0 (K0 ?_)
 rw[N0 ⋯]
 refine C0 (Tuple_ (thn (ha _ pins s σ H _ I h) λus s1 zq=>?_))
 obtain⟨vs,H1,I1,r1,q1⟩:=zq
 obtain⟨v,w,e1,q1⟩:=q1
 subst e1
 obtain⟨u1,u2,rfl,rv,rw'⟩:∃u1 u2,us=[u1,u2]/\RelV v u1/\RelV w u2:=by
  cases r1 with
  |cons p q=>
   cases q with
   |cons p' q'=>
    cases q'
    exact⟨_,_,rfl,p,p'⟩
 refine K2 ?_ (by show 2<=sizeLine;decide)
 have I2:Inv X pins σ H1 {s1 with heap:=s1.heap.push {cls:= .type "tuple",data:= .seq [u1,u2].toArray}}:=I1.kept (t':=s1.toks) λb o e=>G0 _ e
 rw[hw]
 refine C0 (K0 ?_)
 show wpAny (model X.prog X.w) X.A (do rule "assign.swapped-stores";let items ←unpackItems (.ref s1.heap.objs.size) 2 none;assignInOrder [λv=>bindName X.env y v,λv=>bindName X.env x v] items.reverse;pure Flow.next) _ _ _
 refine C0 (wpAny_rule (C0 (unpackItems_tuple (items:= #[u1,u2]) (I.ok.hd hc) (IsTup.new s1.heap _) λh' hx'=>?_)))
 have I3:=I2.kept (h':=h') (t':=s1.toks) λb o e=>hx' b o (V1 (Y0 e)) e
 show wpAny _ _ (assignInOrder [λv=>bindName X.env y v,λv=>bindName X.env x v] [u2,u1]>>=λ_=>pure Flow.next) _ _ _
 refine C0 (assignInOrder_cons (wpAny_bindName (zda I3 hN hj (.inl hy) rw' (λs2 I4=>?_) (.inr hy))))
 refine assignInOrder_cons (wpAny_bindName (zda I4 hN hi (.inl hx) rv (λs3 I5=>assignInOrder_nil (K0 ?_)) (.inr hx)))
 rw[List.set_comm _ _ (Ne.symm hij)] at I5
 exact⟨_,H1,I5,q1⟩
structure It where
 go:Nat->Hp->Prop
 yld:Nat->Hp->V->Hp->Prop
 stop:Nat->Hp->Prop
variable{J:It}
def zfL(X:Cx)(pins:List (Addr×Obj))(H:Hp)(b:Addr):Prop:=
 H b=none/\b≠X.env.locals/\b∉X.fs/\(b∈X.ex\/X.s₀.heap.objs.size<=b)/\(∀x c,X.env.cells.lookup x=some c->c≠b)/\∀p∈X.pn ++pins,p.1≠b
theorem Inv.fpOk{b:Addr}(I:Inv X pins σ H s)(hb:s.heap.objs.size<=b)(hn:H' b=none):zfL X pins H' b:=by
 refine⟨hn,Nat.ne_of_gt (W1 I.lt hb),I.nofs hb, .inr (Y1 I.sz hb),λx c e z=>?_,λp hp z=>?_⟩
 ·obtain ⟨v,q⟩:=I.cell x c e
  exact absurd (W1 q.lt (by rw[z];exact hb)) (Nat.lt_irrefl _)
 ·exact absurd (W1 (Y0 (I.pin p hp).1) (by rw[z];exact hb)) (Nat.lt_irrefl _)
structure Turn(P:Program)(w:World)(K:W.Frag)(tg:Expr)(J:It)(fp:List Addr)(it:Addr)(tn:Nat->Heap->Prop):Prop where
 mem:it∈fp
 obj:∀i h,tn i h->∀b∈fp,∃o,h.get? b=some o/\∀v,o.data≠ .cell v
 keep:∀i h h',tn i h->(∀b∈fp,∀o,h.get? b=some o->h'.get? b=some o)->tn i h'
 item:∀(X:Cx),X.prog=P->X.w=w->X.K=K->X.calm=true->∀(i:Nat) (pins:List (Addr×Obj)) (s:Shared) (σ:St) (H:Hp) (E:Value->Shared->Prop),Inv X pins σ H s->(∀b∈fp,zfL X pins H b)->tn i s.heap->J.go i H->
  wpAny (model P w) X.A (pyNext (.ref it)) (λr s1=>∃u,r=some u/\
   wpAny (model P w) X.A (letOwnedTupleGo tg (.ref it) u) (λ_ s2=>∃x H',Inv X pins σ H' s2/\RelV x u/\J.yld i H x H'/\tn (i+1) s2.heap/\∀b∈fp,H' b=none) E s1) E s
 done:∀(X:Cx),X.prog=P->X.w=w->X.K=K->X.calm=true->∀(i:Nat) (pins:List (Addr×Obj)) (s:Shared) (σ:St) (H:Hp) (E:Value->Shared->Prop),Inv X pins σ H s->(∀b∈fp,zfL X pins H b)->tn i s.heap->J.stop i H->
   wpAny (model P w) X.A (pyNext (.ref it)) (λr s1=>r=none/\Inv X pins σ H s1) E s
 self:∀(A:Around) (i:Nat) (s:Shared) (Q:Value->Shared->Prop) (E:Value->Shared->Prop),tn i s.heap->Q (.ref it) s->wpAny (model P w) A (pyIter (.ref it)) Q E s
noncomputable abbrev TI:=St->Hp->(It->Hp->Prop)->Prop
variable{wi wi2:TI}
def PIE(X:Cx)(pins:List (Addr×Obj))(σ:St)(tg:Expr)(R:It->Hp->Prop)(itv:Value)(s2:Shared):Prop:=
 ∃(it:Addr) (fp:List Addr) (tn:Nat->Heap->Prop) (J:It) (H':Hp),itv= .ref it/\Inv X pins σ H' s2/\Turn X.prog X.w X.K tg J fp it tn/\tn 0 s2.heap/\(∀b∈fp,zfL X pins H' b)/\R J H'
def PI(X:Cx)(tg iter:Expr)(wi:TI):Prop:=
 ∀(pins:List (Addr×Obj)) (s:Shared) (σ:St) (H:Hp) (R:It->Hp->Prop),Inv X pins σ H s->wi σ H R->
  wpAny (model X.prog X.w) X.A (eval iter X.env) (λv s1=>wpAny (model X.prog X.w) X.A (pyIter v) (PIE X pins σ tg R) X.xe s1) X.xe s
theorem zjO{o:Obj}{n:String}{vs:Array Value}{Q:Unit->Shared->Prop}(ho:s.heap.get? it=some o)(hc:o.cls= .type n)(hd:o.data= .fields vs)
 (hn:["enumerate","zip","dict_itemiterator","dict_reverseitemiterator","odict_iterator","itertools.zip_longest","itertools.pairwise"].contains n=false) (hQ:Q Unit.unit s):wpAny M A (letOwnedTupleGo tg (.ref it) u) Q E s:=by
 unfold letOwnedTupleGo
 cases tg<;>first
  |exact K0 hQ
  |(cases u<;>first
     |exact K0 hQ
     |(refine C0 (wpAny_load ho ?_)
       rw[hc,hd]
       show wpAny M A (if(["enumerate","zip","dict_itemiterator","dict_reverseitemiterator","odict_iterator","itertools.zip_longest","itertools.pairwise"].contains n&&vs[0]?==some (rawInt _))=true then _ else _) Q E s
       rw[N0 (by intro h;rw[hn,Bool.false_and] at h;cases h)]
       exact K0 hQ))
noncomputable def Itl(K:W.Frag)(a:Addr):It:=
 ⟨λi H=>∃xs x,SqL K H a xs/\xs[i]?=some x,λi H x H'=>H'=H/\∀xs,SqL K H a xs->xs[i]?=some x,λi H=>∃xs,SqL K H a xs/\xs.length<=i⟩
noncomputable def Itt(K:W.Frag)(a:Addr):It:=
 ⟨λi H=>∃xs x,SqT K H a xs/\xs[i]?=some x,λi H x H'=>H'=H/\∀xs,SqT K H a xs->xs[i]?=some x,λi H=>∃xs,SqT K H a xs/\xs.length<=i⟩
noncomputable def Itr(lo:Int)(n:Nat):It:=⟨λi _=>i<n,λi H x H'=>H'=H/\x= .int (lo+i),λi _=>n<=i⟩
theorem zqe(a it:Addr):Turn P w K tg (Itl K a) [it] it (λi h=>h.IsListIter it a i) where
 mem:=`Z3
 obj:=λi h st b hb=>by
  have e:b=it:=by simpa using hb
  subst e
  obtain⟨o,e,c,d⟩:=st
  exact⟨o,e,λv z=>by rw[d] at z;cases z⟩
 keep:=λi h h' st k=>st.at λo e=>k it `Z3 o e
 item:=by
  intro X hP hw hK hc i pins s σ H E I hf st hg
  subst hP hw hK
  obtain⟨xs,x,hq,hx⟩:=hg
  obtain⟨its,rv,p,hz⟩:=I.list hq
  obtain⟨u,hu,ru⟩:=rv.get hx
  obtain⟨f0,f1,f2,f3,f4,f5⟩:=hf it `Z3
  refine wpAny_pyNext_list_item st p.isList (x:=u) (by simpa using hu) λh' st' sb=>?_
  have I1:Inv X pins σ H {s with heap:=h'}:=I.turned (t':=s.toks) (λb o hb e=>(sb.2 b hb).trans e) f0 f1 f3 f4 f5
  obtain⟨o,e,c,d⟩:=id st'
  exact⟨u,rfl,zjO (s:={s with heap:=h'}) e c d ⋯ ⟨x,H,I1,ru,⟨rfl,λys hy=>by rw[I.list_inj hy hq];exact hx⟩,st',λb hb=>(hf b hb).1⟩⟩
 done:=by
   intro X hP hw hK hc i pins s σ H E I hf st hg
   subst hP hw hK
   obtain⟨xs,hq,hx⟩:=hg
   obtain⟨its,rv,p,hz⟩:=I.list hq
   obtain⟨f0,f1,f2,f3,f4,f5⟩:=hf it `Z3
   have hl:=rv.length
   exact wpAny_pyNext_list_end (I.ok.hd hc) st p.isList (by simp;lia) λh' eb=>⟨rfl,I.turned (t':=s.toks) (λb o hb e=>eb b o hb e) f0 f1 f3 f4 f5⟩
 self:=λ_ _ _ _ _ st h=>wpAny_pyIter_listiter st h
theorem zmW(a it:Addr):Turn P w K tg (Itt K a) [it] it (λi h=>h.IsTupleIter it a i) where
 mem:=`Z3
 obj:=λi h st b hb=>by
  have e:b=it:=by simpa using hb
  subst e
  obtain⟨o,e,c,d⟩:=st
  exact⟨o,e,λv z=>by rw[d] at z;cases z⟩
 keep:=λi h h' st k=>st.at λo e=>k it `Z3 o e
 item:=by
  intro X hP hw hK hc i pins s σ H E I hf st hg
  subst hP hw hK
  obtain⟨xs,x,hq,hx⟩:=hg
  obtain⟨its,rv,p,hz⟩:=I.tuple hq
  obtain⟨u,hu,ru⟩:=rv.get hx
  obtain⟨f0,f1,f2,f3,f4,f5⟩:=hf it `Z3
  refine wpAny_pyNext_tuple_item st (show s.heap.IsTuple a its.toArray from p) (x:=u) (by simpa using hu) λh' st' sb=>?_
  have I1:Inv X pins σ H {s with heap:=h'}:=I.turned (t':=s.toks) (λb o hb e=>(sb.2 b hb).trans e) f0 f1 f3 f4 f5
  obtain⟨o,e,c,d⟩:=id st'
  exact⟨u,rfl,zjO (s:={s with heap:=h'}) e c d ⋯ ⟨x,H,I1,ru,⟨rfl,λys hy=>by rw[I.tuple_inj hy hq];exact hx⟩,st',λb hb=>(hf b hb).1⟩⟩
 done:=by
   intro X hP hw hK hc i pins s σ H E I hf st hg
   subst hP hw hK
   obtain⟨xs,hq,hx⟩:=hg
   obtain⟨its,rv,p,hz⟩:=I.tuple hq
   obtain⟨f0,f1,f2,f3,f4,f5⟩:=hf it `Z3
   have hl:=rv.length
   exact wpAny_pyNext_tuple_end (I.ok.hd hc) st (show s.heap.IsTuple a its.toArray from p) (by simp;lia) λh' eb=>⟨rfl,I.turned (t':=s.toks) (λb o hb e=>eb b o hb e) f0 f1 f3 f4 f5⟩
 self:=λ_ _ _ _ _ st h=>wpAny_pyIter_tupleiter st h
theorem znu(it:Addr)(lo:Int)(n:Nat):Turn P w K tg (Itr lo n) [it] it (λi h=>IsRangeIter h it (lo+(i:Nat)*1) ((n:Int) -(i:Nat)) 1) where
 mem:=`Z3
 obj:=λi h st b hb=>by
  have e:b=it:=by simpa using hb
  subst e
  exact⟨_,st,λv z=>by
   have z':Data.fields _=Data.cell v:=z
   cases z'⟩
 keep:=λi h h' st k=>k it `Z3 _ st
 item:=by
  intro X hP hw hK hc i pins s σ H E I hf st hg
  subst hP hw hK
  obtain⟨f0,f1,f2,f3,f4,f5⟩:=hf it `Z3
  have W:=Walks.range (prog:=X.prog) (w:=X.w) (I.ok.hd hc) it lo 1 n
  refine W.item i s _ _ hg st λv h' tk hv st' kk=>?_
  obtain⟨t,rfl⟩:=hv
  have I1:Inv X pins σ H {s with heap:=h',toks:=tk}:=I.turned (λb o hb e=>kk b o (by simpa using hb) e) f0 f1 f3 f4 f5
  refine⟨_,rfl,zjO (s:={s with heap:=h',toks:=tk}) (n:="range_iterator") st' rfl rfl ⋯ ⟨.int (lo+i),H,I1,⟨t,?_⟩,⟨rfl,rfl⟩,st',λb hb=>(hf b hb).1⟩⟩
  rw[Int.mul_one]
 done:=by
   intro X hP hw hK hc i pins s σ H E I hf st hg
   subst hP hw hK
   obtain⟨f0,f1,f2,f3,f4,f5⟩:=hf it `Z3
   exact wpAny_pyNext_range_end (I.ok.hd hc) st (by have:n<=i:=hg;lia) λh' eb=>⟨rfl,I.turned (t':=s.toks) (λb o hb e=>eb b o hb e) f0 f1 f3 f4 f5⟩
 self:=λ_ _ _ _ _ st h=>wpAny_pyIter_rangeiter st h
noncomputable def zur(K:W.Frag)(tl:TE):TI:=λσ H R=>tl σ H λx H1=>∃a,x= .ref a/\(∃xs,SqL K H1 a xs)/\R (Itl K a) H1
noncomputable def zwp(K:W.Frag)(tl:TE):TI:=λσ H R=>tl σ H λx H1=>∃a,x= .ref a/\(∃xs,SqT K H1 a xs)/\R (Itt K a) H1
theorem ztJ{l:Expr}(hl:PE X l tl):PI X tg l (zur X.K tl):=by
 intro pins s σ H R I h
 refine thn (hl pins s σ H _ I h) λv s1 zq=>?_
 obtain⟨x,H1,I1,r1,q1⟩:=zq
 obtain⟨a,e,⟨xs,hq⟩,q⟩:=q1
 subst e
 cases r1
 obtain⟨its,rv,p,hz⟩:=I1.list hq
 refine wpAny_pyIter_list p.isList ?_
 refine⟨s1.heap.objs.size,[s1.heap.objs.size],_,_,H1,rfl,I1.kept (t':=s1.toks) λb o e=>G0 _ e,zqe a _,⟨_,Q0 _ rfl,rfl,rfl⟩,λb hb=>?_,q⟩
 have e:b=s1.heap.objs.size:=by simpa using hb
 subst e
 exact I1.fpOk (S0 _) (I1.hok.fresh (S0 _))
theorem zvy{l:Expr}(hl:PE X l tl):PI X tg l (zwp X.K tl):=by
 intro pins s σ H R I h
 refine thn (hl pins s σ H _ I h) λv s1 zq=>?_
 obtain⟨x,H1,I1,r1,q1⟩:=zq
 obtain⟨a,e,⟨xs,hq⟩,q⟩:=q1
 subst e
 cases r1
 obtain⟨its,rv,p,hz⟩:=I1.tuple hq
 refine wpAny_pyIter_tuple (show s1.heap.IsTuple a its.toArray from p) ?_
 refine⟨s1.heap.objs.size,[s1.heap.objs.size],_,_,H1,rfl,I1.kept (t':=s1.toks) λb o e=>G0 _ e,zmW a _,⟨_,Q0 _ rfl,rfl,rfl⟩,λb hb=>?_,q⟩
 have e:b=s1.heap.objs.size:=by simpa using hb
 subst e
 exact I1.fpOk (S0 _) (I1.hok.fresh (S0 _))
theorem zmI{R:It->Hp->Prop}{lo hi:Int}{t u v:Tok}{tk:Nat}(I:Inv X pins σ H s)(h1: -(2^62)<=lo)(h2:lo<2^62)(h3: -(2^62)<=hi)(h4:hi<2^62)
 (q:R (Itr lo (hi -lo).toNat) H):wpAny (model X.prog X.w) X.A (pyIter (.ref s.heap.objs.size)) (PIE X pins σ tg R) E {s with heap:=s.heap.push {cls:= .type "range",data:= .fields #[.int lo t, .int hi u, .int 1 v]},toks:=tk}:=by
 refine wpAny_pyIter_range (IsRange.new ..) (small_one h1 h2 h3 h4) ?_
 have I1:Inv X pins σ H {s with heap:=s.heap.push {cls:= .type "range",data:= .fields #[.int lo t, .int hi u, .int 1 v]},toks:=tk}:=I.kept λb o e=>G0 _ e
 refine⟨(s.heap.push {cls:= .type "range",data:= .fields #[.int lo t, .int hi u, .int 1 v]}).objs.size,[(s.heap.push {cls:= .type "range",data:= .fields #[.int lo t, .int hi u, .int 1 v]}).objs.size],_,_,H,rfl,
  I1.kept (t':=tk) λb o e=>G0 _ e,znu _ lo (hi -lo).toNat,?_,λb hb=>?_,q⟩
 ·have e1:lo+((0:Nat):Int)*1=lo:=`Z3
  have e2:(((hi -lo).toNat:Nat):Int) -((0:Nat):Int)=Builtin.Range.rangeSize lo hi 1:=by rw[rangeSize_one];split<;>lia
  show IsRangeIter _ _ (lo+((0:Nat):Int)*1) ((((hi -lo).toNat:Nat):Int) -((0:Nat):Int)) 1
  rw[e1,e2]
  exact Q0 _ rfl
 ·have e:b=(s.heap.push {cls:= .type "range",data:= .fields #[.int lo t, .int hi u, .int 1 v]}).objs.size:=by simpa using hb
  subst e
  exact I1.fpOk (S0 _) (I1.hok.fresh (S0 _))
noncomputable def zut(ta:TA):TI:=λσ H R=>ta σ H λvs H1=>∃j:Int,vs=[.int j]/\-(2^62)<=j/\j<2^62/\R (Itr 0 j.toNat) H1
noncomputable def zuH(ta:TA):TI:=λσ H R=>ta σ H λvs H1=>∃i j:Int,vs=[.int i, .int j]/\(-(2^62)<=i/\i<2^62/\-(2^62)<=j/\j<2^62)/\R (Itr i (j -i).toNat) H1
theorem zpq{a:Expr}{p:Pos}(hg:Gl X "range")(hm:X.mg "range"=none)(ha:PA X [a] ta)(hs:autoParam (starEach [a] X.env=[(false,eval a X.env)]) u4):PI X tg (.Call (.Name "range" p) [a] [] pos) (zut ta):=by
 intro pins s σ H R I h
 refine Call_ (zij I hg hm boot_range (PyProof.Rows.callWith_type1 (thn (ha pos pins s σ H _ I h) λus s1 zq=>?_) hs rfl))
 obtain⟨vs,H1,I1,r1,q1⟩:=zq
 obtain⟨j,e,q1,q2,q⟩:=q1
 subst e
 cases r1 with
 |cons r rr=>
  cases rr
  obtain⟨t,rfl⟩:=r
  exact call_range_1 (zmI I1 () () q1 q2 (by simpa using q))
theorem zpR{a b:Expr}{p:Pos}(hg:Gl X "range")(hm:X.mg "range"=none)(ha:PA X [a,b] ta)(hs:autoParam (starEach [a,b] X.env=[(false,eval a X.env),(false,eval b X.env)]) u4)(hs2:autoParam (starEach [b] X.env=[(false,eval b X.env)]) u4):
 PI X tg (.Call (.Name "range" p) [a,b] [] pos) (zuH ta):=by
 intro pins s σ H R I h
 refine Call_ (zij I hg hm boot_range (PyProof.Rows.callWith_type1 (thn (ha pos pins s σ H _ I h) λus s1 ⟨vs,H1,I1,r1,q1⟩=>?_) (by rw[hs,hs2]) (by rw[hs2];rfl)))
 obtain⟨i,j,e,⟨q1,q2,q3,q4⟩,q⟩:=q1
 subst e
 cases r1 with
 |cons r rr=>
  cases rr with
  |cons r' rr=>
   cases rr
   obtain⟨t,rfl⟩:=r
   obtain⟨t',rfl⟩:=r'
   exact call_range_2 (zmI I1 q1 q2 q3 q4 q)
noncomputable def zw9(wi:TI)(g:TG)(tb:TS):TS:=λD σ H=>wi σ H λJ H1=>∃W:Nat->Nat->St->Hp->Prop,(∃m,W 0 m σ H1)/\∀i m σ H,W i m σ H->
 (J.stop i H/\D.nx σ H)\/(J.go i H/\∃N:St->Hp->Prop,(∀σ' H',N σ' H'->∃m',m'<m/\W (i+1) m' σ' H')/\∀x H',J.yld i H x H'->g x σ H' λσ2 H2=>tb {D with nx:=N,ct:=N,bk:=D.nx} σ2 H2)
noncomputable def zfQ(fp:List Addr)(h:Heap):List (Addr×Obj):=fp.filterMap λb=>(h.get? b).map λo=>(b,o)
theorem zaD{h:Heap}{b:Addr}{o:Obj}(hb:b∈fp)(e:h.get? b=some o):(b,o)∈zfQ fp h:=List.mem_filterMap.mpr ⟨b,hb,by rw[e];rfl⟩
theorem zpM{h:Heap}{p:Addr×Obj}(hp:p∈zfQ fp h):p.1∈fp/\h.get? p.1=some p.2:=by
 obtain⟨b,hb,e⟩:=List.mem_filterMap.mp hp
 cases q:h.get? b with
 |none=>rw[q] at e;cases e
 |some o=>
  rw[q] at e
  have e':(b,o)=p:=U1 e
  subst e'
  exact⟨hb,q⟩
theorem Inv.pinned(I:Inv X pins σ H s)(hf:∀b∈fp,zfL X pins H b)(ho:∀b∈fp,∃o,s.heap.get? b=some o/\∀v,o.data≠ .cell v):Inv X (pins ++zfQ fp s.heap) σ H s:=
 I.pins_of λp hp=>(Q2.mp hp).elim (λz=>I.pin p (O1 _ z)) λz=>by
  obtain⟨hb,e⟩:=zpM z
  obtain⟨f0,f1,f2,_⟩:=hf p.1 hb
  obtain⟨o,e',d⟩:=ho p.1 hb
  rw[e] at e';cases e'
  exact⟨e,f0,f1,f2,d⟩
theorem Inv.unpinned{pl:List (Addr×Obj)}(I:Inv X (pins ++pl) σ H s):Inv X pins σ H s:=I.pins_of λp hp=>I.pin p (O1 _ (List.mem_append_left _ hp))
theorem zvV{g:TG}(hp:PassesOwn (model X.prog X.w) X.A X.env X.xe)(hc:X.calm=true)(hi:PI X tg iter wi)(hg:PG X tg g)(hb:PSs X body tb)
 (hs:autoParam (∀x,foldedSetIterable iter X.env x=pure x) t6):PS X (.For tg iter body [] pos) (zw9 wi g tb):=by
 intro pins s σ H D I h
 refine wpAny_For (thn (hi pins s σ H _ I h) λv s1 h1=>thn h1 λitv s2 h2=>?_) hs
 obtain⟨it,fp,tn,J,H2,e,I2,T,st2,f2,W,⟨m0,w0⟩,turn⟩:=h2
 subst e
 have stat:∀{H':Hp},(∀b∈fp,H' b=none)->∀b∈fp,zfL X pins H' b:=λhn b hb=>⟨hn b hb,(f2 b hb).2⟩
 refine codeAny_forLoop_any (λn s'=>∃i σ' H',Inv X pins σ' H' s'/\tn i s'.heap/\(∀b∈fp,H' b=none)/\W i n σ' H') ?_ m0 ⟨0,σ,H2,I2,st2,λb hb=>(f2 b hb).1,w0⟩
 rintro n s3 ⟨i,σ3,H3,I3,st3,fr3,w3⟩
 rcases turn i n σ3 H3 w3 with⟨stop,qn⟩|⟨go,N,hN,step⟩
 ·refine wpAny_passesOwn hp (thn (T.done X rfl rfl rfl hc i pins s3 σ3 H3 X.xe I3 (stat fr3) st3 stop) λr s4 zq=>?_)
  obtain⟨hr,I4⟩:=zq
  subst hr
  exact wpAny_execs_nil ⟨σ3,H3,I4,qn⟩
 ·refine wpAny_passesOwn hp (thn (T.item X rfl rfl rfl hc i pins s3 σ3 H3 X.xe I3 (stat fr3) st3 go) λr s4 zq=>?_)
  obtain⟨u,hr,h4⟩:=zq
  subst hr
  refine wpAny_passesOwn hp (thn h4 λ_ s5 zq=>?_)
  obtain⟨x,H5,I5,r5,y5,st5,fr5⟩:=zq
  have I5':=I5.pinned (stat fr5) (T.obj _ _ st5)
  refine wpAny_passesOwn hp (thn (hg _ s5 σ3 H5 x u _ I5' r5 (step x H5 y5)) λ_ s6 zq=>?_)
  obtain⟨σ6,H6,I6,q6⟩:=zq
  refine wpAny_passesOwn hp (thn (hb _ s6 σ6 H6 _ I6 q6) λf s7 q7=>?_)
  have again:∀{σ7:St} {H7:Hp},Inv X (pins ++zfQ fp s5.heap) σ7 H7 s7->N σ7 H7->∃m,m<n/\∃i σ' H',Inv X pins σ' H' s7/\tn i s7.heap/\(∀b∈fp,H' b=none)/\W i m σ' H':=λ{σ7 H7} I7 n7=>by
   obtain⟨m',hm,w7⟩:=hN σ7 H7 n7
   refine⟨m',hm,i+1,σ7,H7,I7.unpinned,T.keep _ _ _ st5 λb hb o e=>(I7.pin (b,o) (O1 _ (O1 _ (zaD hb e)))).1,λb hb=>?_,w7⟩
   obtain⟨o,e,d⟩:=T.obj _ _ st5 b hb
   exact(I7.pin (b,o) (O1 _ (O1 _ (zaD hb e)))).2.1
  cases f with
  |next=>obtain ⟨σ7,H7,I7,n7⟩:=q7;exact again I7 n7
  |cont=>obtain ⟨σ7,H7,I7,n7⟩:=q7;exact again I7 n7
  |brk=>obtain ⟨σ7,H7,I7,q7⟩:=q7;exact⟨σ7,H7,I7.unpinned,q7⟩
  |ret v=>obtain ⟨x7,σ7,H7,I7,r7,q7⟩:=q7;exact⟨x7,σ7,H7,I7.unpinned,r7,q7⟩
noncomputable abbrev R2:=V->V->Hp->VK->Prop
variable{r':R2}
def OpR(X:Cx)(f:Value->Value->Sem Value)(r:R2):Prop:=
 ∀(pins:List (Addr×Obj)) (s:Shared) (σ:St) (H:Hp) (x y:V) (v u:Value) (Q:VK),Inv X pins σ H s->RelV x v->RelV y u->r x y H Q->
  wpAny (model X.prog X.w) X.A (f v u) (EP X pins σ Q) X.xe s
def UnR(X:Cx)(f:Value->Sem Value)(r:V->Hp->VK->Prop):Prop:=
 ∀(pins:List (Addr×Obj)) (s:Shared) (σ:St) (H:Hp) (x:V) (v:Value) (Q:VK),Inv X pins σ H s->RelV x v->r x H Q->
  wpAny (model X.prog X.w) X.A (f v) (EP X pins σ Q) X.xe s
def CallR(X:Cx)(f:Value)(r:List V->Hp->VK->Prop):Prop:=
 ∀(pins:List (Addr×Obj)) (s:Shared) (σ:St) (H:Hp) (xs:List V) (us:List Value) (Q:VK),Inv X pins σ H s->Vals xs us->r xs H Q->
  wpAny (model X.prog X.w) X.A (call f us) (EP X pins σ Q) X.xe s
def zxf(X:Cx)(r:V->Hp->(Bool->Hp->Prop)->Prop):Prop:=
 ∀(pins:List (Addr×Obj)) (s:Shared) (σ:St) (H:Hp) (x:V) (v:Value) (Q:Bool->Hp->Prop),Inv X pins σ H s->RelV x v->r x H Q->
  wpAny (model X.prog X.w) X.A (truthy v) (TP X pins σ Q) X.xe s
noncomputable def tOp(r:R2)(ta tb:TE):TE:=λσ H Q=>ta σ H λx H1=>tb σ H1 λy H2=>r x y H2 Q
def tUn(r:V->Hp->VK->Prop)(ta:TE):TE:=λσ H Q=>ta σ H λx H1=>r x H1 Q
def rI(C:Int->Int->Prop)(g:Int->Int->V):R2:=λx y H Q=>∃i j,x= .int i/\y= .int j/\C i j/\Q (g i j) H
noncomputable def rI0(g:Int->Int->V):R2:=λx y H Q=>∃i j,x= .int i/\y= .int j/\Q (g i j) H
def rU(g:Int->V):V->Hp->VK->Prop:=λx H Q=>∃i,x= .int i/\Q (g i) H
section
variable{a b c:Expr}{ta tb tc:TE}
theorem zuS(ha:PE X a ta)(hb:PE X b tb){R:V->V->Hp->Prop}(I:Inv X pins σ H s)
 (h:ta σ H λx H1=>tb σ H1 λy H2=>R x y H2)  {f:Value->Value->Sem Value}
 (hf:∀v u s2 x y H2,Inv X pins σ H2 s2->RelV x v->RelV y u->R x y H2->wpAny (model X.prog X.w) X.A (f v u) Q X.xe s2):
 wpAny (model X.prog X.w) X.A (eval a X.env) (λv s₁=>wpAny (model X.prog X.w) X.A (eval b X.env) (λu s₂=>wpAny (model X.prog X.w) X.A (f v u) Q X.xe s₂) X.xe s₁) X.xe s:=by
 refine thn (ha pins s σ H _ I h) λv s1 zq=>?_
 obtain⟨x,H1,I1,r1,q1⟩:=zq
 refine thn (hb pins s1 σ H1 _ I1 q1) λu s2 zq=>?_
 obtain⟨y,H2,I2,r2,q2⟩:=zq
 exact hf v u s2 x y H2 I2 r1 r2 q2
theorem zws{op:Operator}{r:R2}(ho:OpR X (binaryOp op) r)(ha:PE X a ta)(hb:PE X b tb):PE X (.BinOp a op b pos) (tOp r ta tb):=by
 intro pins s σ H Q I h
 exact wpAny_BinOp (zuS ha hb I h λv u s2 x y H2 I2 rx ry q=>ho pins s2 σ H2 x y v u Q I2 rx ry q)
theorem zwP{op:UnaryOp}{r:V->Hp->VK->Prop}(ho:UnR X (unaryOp op) r)(ha:PE X a ta):PE X (.UnaryOp op a pos) (tUn r ta):=by
 intro pins s σ H Q I h
 refine UnaryOp_ (thn (ha pins s σ H _ I h) λv s1 zq=>?_)
 obtain⟨x,H1,I1,r1,q1⟩:=zq
 exact ho pins s1 σ H1 x v Q I1 r1 q1
theorem opI{f:Value->Value->Sem Value}{C:Int->Int->Prop}{g:Int->Int->Int}
 (rule:∀(i j:Int) (t u:Tok) (s:Shared) (Q:Value->Shared->Prop) (E:Value->Shared->Prop),C i j->Q (.int (g i j) s.toks) {s with toks:=s.toks+1}->wpAny (model X.prog X.w) X.A (f (.int i t) (.int j u)) Q E s):
 OpR X f (rI C λi j=> .int (g i j)):=by
 intro pins s σ H x y v u Q I rx ry h
 obtain⟨i,j,rfl,rfl,hc,q⟩:=h
 obtain⟨t,rfl⟩:=rx
 obtain⟨t',rfl⟩:=ry
 exact rule i j t t' s _ _ hc ⟨.int (g i j),H,I.tok _,⟨_,rfl⟩,q⟩
theorem zwL{f:Value->Value->Sem Value}{g:Int->Int->Int}
 (rule:∀(i j:Int) (t u:Tok) (s:Shared) (Q:Value->Shared->Prop) (E:Value->Shared->Prop),Q (.int (g i j) s.toks) {s with toks:=s.toks+1}->wpAny (model X.prog X.w) X.A (f (.int i t) (.int j u)) Q E s):
 OpR X f (rI0 λi j=> .int (g i j)):=by
 intro pins s σ H x y v u Q I rx ry h
 obtain⟨i,j,rfl,rfl,q⟩:=h
 obtain⟨t,rfl⟩:=rx
 obtain⟨t',rfl⟩:=ry
 exact rule i j t t' s _ _ ⟨.int (g i j),H,I.tok _,⟨_,rfl⟩,q⟩
theorem zs9{f:Value->Value->Sem Value}{g:Int->Int->Bool}
 (rule:∀(i j:Int) (t u:Tok) (s:Shared) (Q:Value->Shared->Prop) (E:Value->Shared->Prop),Q (.bool (g i j)) s->wpAny (model X.prog X.w) X.A (f (.int i t) (.int j u)) Q E s):
 OpR X f (rI0 λi j=> .bl (g i j)):=by
 intro pins s σ H x y v u Q I rx ry h
 obtain⟨i,j,rfl,rfl,q⟩:=h
 obtain⟨t,rfl⟩:=rx
 obtain⟨t',rfl⟩:=ry
 exact rule i j t t' s _ _ ⟨.bl (g i j),H,I,rfl,q⟩
def zw1(i j:Int):Prop:=0<j/\j<1073741824
def zwv(i j:Int):Prop:=0<=j/\j<=1000000/\i.natAbs<2^64
def CMul(i j:Int):Prop:=(-(2^64)<i/\i<2^64)\/(-(2^64)<j/\j<2^64)
theorem CMul.ok{i j:Int}(h:CMul i j):IntMulOk i j:=by
 rcases h with⟨h1,h2⟩|⟨h1,h2⟩
 ·exact .of_left (intBits_le_64 h1 h2)
 ·exact .of_right (intBits_le_64 h1 h2)
theorem znh(k:Nat):(0:Int)<=2^k:=by
 rw[two_pow_cast]
 exact Int.natCast_nonneg _
theorem zap:OpR X (binaryOp .Add) (rI0 λi j=> .int (i+j)):=zwL λ_ _ _ _ _ _ _ q=>add_int q
theorem zqU:OpR X (binaryOp .Sub) (rI0 λi j=> .int (i -j)):=zwL λ_ _ _ _ _ _ _ q=>sub_int q
theorem zbl:OpR X (binaryOp .Mult) (rI CMul λi j=> .int (i*j)):=opI λ_ _ _ _ _ _ _ hc q=>mul_int q hc.ok
theorem zk7:OpR X (binaryOp .FloorDiv) (rI zw1 λi j=> .int (i/j)):=opI λi j _ _ _ _ _ hc q=>by
 have h1:(0:Int)<j:=hc.1
 have h2:j<1073741824:=hc.2
 exact floordiv_int () (by rw[Int.fdiv_eq_ediv_of_nonneg i ()];exact q) (.inl (PyProof.noPylong_small ()))
theorem zcs:OpR X (binaryOp .Mod) (rI (λ_ j=>0<j) λi j=> .int (i%j)):=opI λi j _ _ _ _ _ hc q=>by
 have h1:(0:Int)<j:=hc
 exact mod_int' () (by rw[Int.fmod_eq_emod_of_nonneg i ()];exact q)
theorem zii:OpR X (binaryOp .Pow) (rI zwv λi j=> .int (i^j.toNat)):=opI λ_ _ _ _ _ _ _ hc q=>pow_int_small hc.1 hc.2.1 hc.2.2 q
theorem unI{f:Value->Sem Value}{g:Int->Int}
 (rule:∀(i:Int) (t:Tok) (s:Shared) (Q:Value->Shared->Prop) (E:Value->Shared->Prop),Q (.int (g i) s.toks) {s with toks:=s.toks+1}->wpAny (model X.prog X.w) X.A (f (.int i t)) Q E s):
 UnR X f (rU λi=> .int (g i)):=by
 intro pins s σ H x v Q I rx h
 obtain⟨i,rfl,q⟩:=h
 obtain⟨t,rfl⟩:=rx
 exact rule i t s _ _ ⟨.int (g i),H,I.tok _,⟨_,rfl⟩,q⟩
theorem ziM:UnR X (unaryOp .USub) (rU λi=> .int (-i)):=unI λ_ _ _ _ _ q=>neg_int q
end
noncomputable def zvg:V->V->Bool
 | .non, .non=>true| .non, .int _=>true| .int _, .non=>true| .non, .bl _=>true| .bl _, .non=>true| .non, .str _=>true| .str _, .non=>true
 | .int _, .int _=>true| .bl _, .bl _=>true| .str _, .str _=>true| .byt _, .byt _=>true
 | .int _, .str _=>true| .str _, .int _=>true| .bl _, .str _=>true| .str _, .bl _=>true
 |_,_=>false
noncomputable def rEq:R2:=λx y H Q=>zvg x y=true/\Q (.bl (decide (x=y))) H
noncomputable def rNe:R2:=λx y H Q=>zvg x y=true/\Q (.bl (!decide (x=y))) H
theorem zoB{i j:Int}:decide (V.int i=V.int j)=(i==j):=by
 rw[B3]
 simp
theorem zqI{i j:Bool}:decide (V.bl i=V.bl j)=(i==j):=by
 rw[B3]
 simp
theorem zoW{i j:Str}:decide (V.str i=V.str j)=(i==j):=by
 rw[B3]
 simp
theorem zoT{i j:Array UInt8}:decide (V.byt i=V.byt j)=(i.toList==j.toList):=by
 rw[B3]
 cases i
 cases j
 simp
section
variable{a b c:Expr}{ta tb tc:TE}
theorem zQ{Q:VK}{k k':Bool}(I:Inv X pins σ H s)(q:Q (.bl k) H)(e:k=k'):EP X pins σ Q (.bool k') s:=by
 subst e
 exact⟨.bl k,H,I,rfl,q⟩
theorem zac:OpR X (compareOp .Eq) rEq:=by
 intro pins s σ H x y v u Q I rx ry h
 obtain⟨hs,q⟩:=h
 cases x with
 |non=>
  cases rx
  cases y with
  |non=>cases ry;exact EqNone.eq_none_none (zQ I q `Z3)
  |bl j=>cases ry;exact EqNone.eq_none_bool (zQ I q `Z3)
  |int j=>obtain ⟨t',rfl⟩:=ry;exact EqNone.eq_none_int (zQ I q `Z3)
  |str j=>obtain ⟨t',rfl⟩:=ry;exact EqNone.eq_none_str (zQ I q `Z3)
  |_=>exact absurd (show false=true from hs) K1
 |bl i=>
  cases rx
  cases y with
  |non=>cases ry;exact EqNone.eq_bool_none (zQ I q `Z3)
  |bl j=>cases ry;exact eq_bool (zQ I q zqI)
  |str j=>obtain ⟨t',rfl⟩:=ry;exact EqMixed.eq_bool_str (zQ I q `Z3)
  |_=>exact absurd (show false=true from hs) K1
 |int i=>
  obtain⟨t,rfl⟩:=rx
  cases y with
  |non=>cases ry;exact EqNone.eq_int_none (zQ I q `Z3)
  |int j=>obtain ⟨t',rfl⟩:=ry;exact eq_int (zQ I q zoB)
  |str j=>obtain ⟨t',rfl⟩:=ry;exact EqMixed.eq_int_str (zQ I q `Z3)
  |_=>exact absurd (show false=true from hs) K1
 |str i=>
  obtain⟨t,rfl⟩:=rx
  cases y with
  |non=>cases ry;exact EqNone.eq_str_none (zQ I q `Z3)
  |bl j=>cases ry;exact EqMixed.eq_str_bool (zQ I q `Z3)
  |int j=>obtain ⟨t',rfl⟩:=ry;exact EqMixed.eq_str_int (zQ I q `Z3)
  |str j=>obtain ⟨t',rfl⟩:=ry;exact eq_str (zQ I q zoW)
  |_=>exact absurd (show false=true from hs) K1
 |byt i=>
  obtain⟨t,rfl⟩:=rx
  cases y with
  |byt j=>obtain ⟨t',rfl⟩:=ry;exact W.eq_bytes (zQ I q zoT)
  |_=>exact absurd (show false=true from hs) K1
 |_=>cases y<;>exact absurd (show false=true from hs) K1
theorem zou:OpR X (compareOp .NotEq) rNe:=by
 intro pins s σ H x y v u Q I rx ry h
 obtain⟨hs,q⟩:=h
 cases x with
 |non=>
  cases rx
  cases y with
  |non=>cases ry;exact EqNone.ne_none_none (zQ I q `Z3)
  |bl j=>cases ry;exact EqNone.ne_none_bool (zQ I q `Z3)
  |int j=>obtain ⟨t',rfl⟩:=ry;exact EqNone.ne_none_int (zQ I q `Z3)
  |str j=>obtain ⟨t',rfl⟩:=ry;exact EqNone.ne_none_str (zQ I q `Z3)
  |_=>exact absurd (show false=true from hs) K1
 |bl i=>
  cases rx
  cases y with
  |non=>cases ry;exact EqNone.ne_bool_none (zQ I q `Z3)
  |bl j=>cases ry;exact ne_bool (zQ I q (E3 not zqI))
  |str j=>obtain ⟨t',rfl⟩:=ry;exact EqMixed.ne_bool_str (zQ I q `Z3)
  |_=>exact absurd (show false=true from hs) K1
 |int i=>
  obtain⟨t,rfl⟩:=rx
  cases y with
  |non=>cases ry;exact EqNone.ne_int_none (zQ I q `Z3)
  |int j=>obtain ⟨t',rfl⟩:=ry;exact ne_int (zQ I q (E3 not zoB))
  |str j=>obtain ⟨t',rfl⟩:=ry;exact EqMixed.ne_int_str (zQ I q `Z3)
  |_=>exact absurd (show false=true from hs) K1
 |str i=>
  obtain⟨t,rfl⟩:=rx
  cases y with
  |non=>cases ry;exact EqNone.ne_str_none (zQ I q `Z3)
  |bl j=>cases ry;exact EqMixed.ne_str_bool (zQ I q `Z3)
  |int j=>obtain ⟨t',rfl⟩:=ry;exact EqMixed.ne_str_int (zQ I q `Z3)
  |str j=>obtain ⟨t',rfl⟩:=ry;exact ne_str (zQ I q (E3 not zoW))
  |_=>exact absurd (show false=true from hs) K1
 |byt i=>
  obtain⟨t,rfl⟩:=rx
  cases y with
  |byt j=>obtain ⟨t',rfl⟩:=ry;exact W.ne_bytes (zQ I q (E3 not zoT))
  |_=>exact absurd (show false=true from hs) K1
 |_=>cases y<;>exact absurd (show false=true from hs) K1
theorem zwm:OpR X (compareOp .Lt) (rI0 λi j=> .bl (decide (i<j))):=zs9 λ_ _ _ _ _ _ _ q=>lt_int q
theorem zfs:OpR X (compareOp .LtE) (rI0 λi j=> .bl (decide (i<=j))):=zs9 λ_ _ _ _ _ _ _ q=>le_int q
theorem zmn:OpR X (compareOp .Gt) (rI0 λi j=> .bl (decide (j<i))):=zs9 λ_ _ _ _ _ _ _ q=>gt_int q
theorem zuy:OpR X (compareOp .GtE) (rI0 λi j=> .bl (decide (j<=i))):=zs9 λ_ _ _ _ _ _ _ q=>ge_int q
theorem zkY:OpR X (compareOp .Is) (λx y H Q=>y= .non/\Q (.bl (decide (x= .non))) H):=by
 intro pins s σ H x y v u Q I rx ry h
 obtain⟨rfl,q⟩:=h
 cases ry
 refine is_none_gen (zQ I q ?_)
 cases x<;>first
  |(cases rx;rfl)
  |(obtain⟨t,rfl⟩:=rx;rfl)
theorem zs6:OpR X (compareOp .IsNot) (λx y H Q=>y= .non/\Q (.bl (!decide (x= .non))) H):=by
 intro pins s σ H x y v u Q I rx ry h
 obtain⟨rfl,q⟩:=h
 cases ry
 refine isnot_none_gen (zQ I q ?_)
 cases x<;>first
  |(cases rx;rfl)
  |(obtain⟨t,rfl⟩:=rx;rfl)
theorem ztr{r:R2}(ho:OpR X (compareOp op) r)(ha:PE X a ta)(hb:PE X b tb)(hm:behindInMarks op b=false):PE X (.Compare a [op] [b] pos) (tOp r ta tb):=by
 intro pins s σ H Q I h
 exact wpAny_Compare1 (zuS ha hb I h λv u s2 x y H2 I2 rx ry q=>ho pins s2 σ H2 x y v u Q I2 rx ry q) hm
noncomputable def zon(t:TE):TT:=λσ H Q=>t σ H λx H'=>∃k,x= .bl k/\Q k H'
theorem zti{r:R2}(ho:OpR X (compareOp op) r)(ha:PE X a ta)(hb:PE X b tb)(hm:behindInMarks op b=false):PT X (.Compare a [op] [b] pos) (zon (tOp r ta tb)):=by
 intro pins s σ H Q I h
 refine wpAny_isTrue_Compare1 (thn (ha pins s σ H _ I h) λv s1 ⟨x,H1,I1,r1,q1⟩=>thn (hb pins s1 σ H1 _ I1 q1) λu s2 ⟨y,H2,I2,r2,q2⟩=>
  thn (ho pins s2 σ H2 x y v u _ I2 r1 r2 q2) λc s3 ⟨z,H3,I3,r3,k,e,q3⟩=>?_) hm
 subst e
 cases r3
 exact K3 ⟨H3,I3,q3⟩
noncomputable def zkJ(r r':R2)(ta tb tc:TE):TE:=λσ H Q=>ta σ H λx H1=>tb σ H1 λy H2=>r x y H2 λz H3=>∃k,z= .bl k/\
 (if k=true then tc σ H3 λw' H4=>r' y w' H4 Q else Q (.bl false) H3)
theorem zrP{r:R2}(ho:OpR X (compareOp op) r)(ho':OpR X (compareOp op') r')(ha:PE X a ta)(hb:PE X b tb)(hc:PE X c tc)
 (hm:autoParam (lastMarks [op,op'] [b,c]=false) y6):PE X (.Compare a [op,op'] [b,c] pos) (zkJ r r' ta tb tc):=by
 intro pins s σ H Q I h
 refine Compare_chain (thn (ha pins s σ H _ I h) λv s1 ⟨x,H1,I1,r1,q1⟩=>chain_link (thn (hb pins s1 σ H1 _ I1 q1) λu s2 ⟨y,H2,I2,r2,q2⟩=>
  thn (ho pins s2 σ H2 x y v u _ I2 r1 r2 q2) λd s3 ⟨z,H3,I3,r3,k,e,q3⟩=>?_)) hm
 subst e
 cases r3
 refine K3 ?_
 cases k with
 |false=>exact ite_ff ⟨.bl false,H3,I3,rfl,q3⟩
 |true=>exact ite_tt (chain_last (thn (hc pins s3 σ H3 _ I3 q3) λw' s4 ⟨z',H4,I4,r4,q4⟩=>ho' pins s4 σ H4 y z' u w' Q I4 r2 r4 q4))
theorem zrW{r:R2}(ho:OpR X (compareOp op) r)(ho':OpR X (compareOp op') r')(ha:PE X a ta)(hb:PE X b tb)(hc:PE X c tc)
 (hm:autoParam (lastMarks [op,op'] [b,c]=false) y6):PT X (.Compare a [op,op'] [b,c] pos) (zon (zkJ r r' ta tb tc)):=by
 intro pins s σ H Q I h
 refine isTrue_chain (thn (ha pins s σ H _ I h) λv s1 ⟨x,H1,I1,r1,q1⟩=>test_link (thn (hb pins s1 σ H1 _ I1 q1) λu s2 ⟨y,H2,I2,r2,q2⟩=>
  thn (ho pins s2 σ H2 x y v u _ I2 r1 r2 q2) λd s3 ⟨z,H3,I3,r3,k,e,q3⟩=>?_)) hm
 subst e
 cases r3
 refine K3 ?_
 cases k with
 |false=>
  obtain⟨k',e',q'⟩:=q3
  cases e'
  exact ite_ff ⟨H3,I3,q'⟩
 |true=>
  refine ite_tt (test_last (thn (hc pins s3 σ H3 _ I3 q3) λw' s4 zq=>?_))
  obtain⟨z',H4,I4,r4,q4⟩:=zq
  refine thn (ho' pins s4 σ H4 y z' u w' _ I4 r2 r4 q4) λd' s5 zq1=>?_
  obtain⟨z2,H5,I5,r5,k2,e2,q5⟩:=zq1
  subst e2
  cases r5
  exact K3 ⟨H5,I5,q5⟩
def zvl(K:W.Frag)(x:V)(H:Hp)(k:Bool):Prop:=
 match x with
 | .non=>k=false
 | .bl b=>k=b
 | .int i=>k=(i !=0)
 | .str y=>y.length<=sizeLine/\k=((y.length:Int) !=0)
 | .byt y=>y.size<=sizeLine/\k=((y.size:Int) !=0)
 | .ref p=>(∃xs,SqL K H p xs/\k=!xs.isEmpty)\/(∃xs,SqT K H p xs/\k=!xs.isEmpty)\/∃kvs,H p=some (.dK kvs)/\k=!kvs.isEmpty
 |_=>False
theorem zm5{kvs:List (κ×V)}{vs:List (κ×Value)}(r:KV kvs vs):(!vs.isEmpty)=!kvs.isEmpty:=by
 cases r<;>rfl
theorem zhO(r:Vals xs its):(!its.toArray.isEmpty)=!xs.isEmpty:=by
 cases r<;>simp
theorem zfu:(sizeLine:Nat)<2^63:=by rw[sizeLine_eq];decide
theorem zvo:zxf X (λx H Q=>∃k,zvl X.K x H k/\Q k H):=by
 intro pins s σ H x v Q I rx h
 obtain⟨k,e,q⟩:=h
 have hl:=zfu
 have hs:sizeLine=16777216:=sizeLine_eq
 cases x with
 |non=>
  cases rx
  have e':k=false:=e
  subst e'
  exact truthy_none ⟨H,I,q⟩
 |bl b=>
  cases rx
  have e':k=b:=e
  subst e'
  exact K3 ⟨H,I,q⟩
 |int i=>
  obtain⟨t,rfl⟩:=rx
  have e':k=(i !=0):=e
  subst e'
  exact P.truthy_int ⟨H,I,q⟩
 |str y=>
  obtain⟨t,rfl⟩:=rx
  obtain⟨hy,e'⟩:y.length<=sizeLine/\k=((y.length:Int) !=0):=e
  subst e'
  exact P.truthy_str () ⟨H,I.tok _,q⟩
 |byt y=>
  obtain⟨t,rfl⟩:=rx
  obtain⟨hy,e'⟩:y.size<=sizeLine/\k=((y.size:Int) !=0):=e
  subst e'
  exact W.truthy_bytes () ⟨H,I.tok _,q⟩
 |ref p=>
  cases rx
  have e':(∃xs,SqL X.K H p xs/\k=!xs.isEmpty)\/(∃xs,SqT X.K H p xs/\k=!xs.isEmpty)\/∃kvs,H p=some (.dK kvs)/\k=!kvs.isEmpty:=e
  rcases e' with⟨xs,hx,e'⟩|⟨xs,hx,e'⟩|⟨kvs,hx,e'⟩
  ·subst e'
   obtain⟨its,r,pl,hz⟩:=I.list hx
   have hlen:=r.length
   exact wpAny_truthy_list pl.isList (by simp only[E1];lia) ⟨H,I.tok _,by rw[zhO r];exact q⟩
  ·subst e'
   obtain⟨its,r,pl,hz⟩:=I.tuple hx
   have hlen:=r.length
   exact truthy_tuple pl (by simp only[E1];lia) ⟨H,I.tok _,by rw[zhO r];exact q⟩
  ·subst e'
   obtain⟨hz,hS,vs,r,m⟩:kvs.length<=sizeLine/\(p==sysModules)=false/\∃vs,KV kvs vs/\s.heap.DictOf (zak X.prog X.w) p vs:=I.hok p _ hx
   have hlen:kvs.length=vs.length:=Paired.length r
   exact wpAny_truthy_dict hS m () ⟨H,I.tok _,by rw[zm5 r];exact q⟩
 |_=>exact (show False from e).elim
theorem zql(ha:PE X a ta)(he:∀whole,isTrue a X.env whole=(do let v ←whole;standAt a.pos;holding [v] (truthy v))):
 PT X a (λσ H Q=>ta σ H λx H'=>∃k,zvl X.K x H' k/\Q k H'):=by
 intro pins s σ H Q I h
 refine isTrue_plain (thn (ha pins s σ H _ I h) λv s1 zq=>?_) (he _)
 obtain⟨x,H1,I1,r1,q1⟩:=zq
 exact zvo pins s1 σ H1 x v Q I1 r1 q1
theorem zdM{x:V}{us:List Value}(r:Vals [x] us):∃u,us=[u]/\RelV x u:=by
 cases r with
 |cons r1 r2=>cases r2;exact⟨_,rfl,r1⟩
theorem zj7{x y:V}{us:List Value}(r:Vals [x,y] us):∃u w',us=[u,w']/\RelV x u/\RelV y w':=by
 cases r with
 |cons r1 r2=>
  cases r2 with
  |cons r3 r4=>cases r4;exact⟨_,_,rfl,r1,r3⟩
theorem zgR(hc:X.calm=true):CallR X (.builtin "min") (λxs H Q=>∃i j,xs=[.int i, .int j]/\Q (.int (if j<i then j else i)) H):=by
 intro pins s σ H xs us Q I r h
 obtain⟨i,j,rfl,q⟩:=h
 obtain⟨u,w',rfl,⟨t,rfl⟩,⟨t',rfl⟩⟩:=zj7 r
 refine min_two_ints (I.ok.hd hc) λh' tk k=>⟨_,H,I.kept k,?_,q⟩
 by_cases hj:j<i
 ·rw[R0 hj,R0 hj];exact⟨_,rfl⟩
 ·rw[N0 hj,N0 hj];exact⟨_,rfl⟩
theorem ze9:CallR X (.type "int") (λxs H Q=>(∃i,xs=[.int i]/\Q (.int i) H)\/∃k,xs=[.bl k]/\Q (.int (if k then 1 else 0)) H):=by
 intro pins s σ H xs us Q I r h
 rcases h with⟨i,rfl,q⟩|⟨k,rfl,q⟩
 ·obtain ⟨u,rfl,t,rfl⟩:=zdM r
  exact call_int_int ⟨.int i,H,I,⟨_,rfl⟩,q⟩
 ·obtain ⟨u,rfl,r1⟩:=zdM r
  cases r1
  exact call_int_bool ⟨.int (if k then 1 else 0),H,I.tok _,⟨_,rfl⟩,q⟩
end
structure ObjM(h:Heap)(x dx C:Addr)(mA:Str->Option Value):Prop where
 obj:h.get? x=some (W.instObj C dx)
 ns:h.Ns1 dx mA
 ne:dx≠x
theorem zpP{h:Heap}{dx:Addr}(n:h.Ns1 dx mA):∃od,h.get? dx=some od/\∀name,W.lookIn name od=some (mA name):=by
 obtain⟨o,es,ep,ho,hd,hk,_,hm⟩:=n
 refine⟨o,ho,λname=>?_⟩
 have e:=hm name
 unfold nsFind findBy at e
 rw[←Array.find?_toList] at e
 unfold W.lookIn
 rw[hd]
 dsimp only
 split
 ·rename_i y q
  rw[q] at e
  exact E3 some e
 ·rename_i q
  rw[q] at e
  have a:es.toList.any (·.refKey)=false:=by
   rw[List.any_eq_false]
   intro y hy
   obtain⟨z,t,hkey⟩:=hk y (Array.mem_toList_iff.mp hy)
   simp[DictEntry.refKey,hkey]
  have a':¬es.toList.any (·.refKey)=true:=by rw[a];exact K1
  rw[N0 a']
  exact E3 some e
theorem ObjM.look{h:Heap}{x dx:Addr}(I:ObjM h x dx C mA):∃od,W.InstAt h x (W.instObj C dx) C (some od)/\∀name,W.lookIn name od=some (mA name):=
 let⟨od,ho,hl⟩:=zpP I.ns
 ⟨od,⟨I.obj,rfl,rfl,ho⟩,hl⟩
section
variable{x dx:Addr}{v:Value}
theorem zt6{expr:Bool}(X:K.In s.heap)(I:ObjM s.heap x dx C mA)(hg:W.plainGet K C name=true)(hh:W.hasDictIn K C=true)
 (ha:W.findIn K (.ref C) name=some none) (hv:mA name=some v) (hv':W.handedIn v=true) (h:Q v {s with toks:=s.toks+1}):
 wpAny (model prog w) A (getAttr (.ref x) name expr) Q E s:=by
 obtain⟨od,J,hl⟩:=I.look
 exact W.get_value X J (W.plainGet_of hg).1 (W.findObj_own hh ha rfl (by rw[hl,hv])) hv' h
theorem zrJ{Q:Value×List Value->Shared->Prop}(X:K.In s.heap)(I:ObjM s.heap x dx C mA)(hg:W.plainGet K C name=true)
 (hf:W.findIn K (.ref C) name=some (some (.ref f))) (ht:W.isFn K (.ref f)=true) (hv:mA name=none) (h:Q (.ref f,[.ref x]) s):
 wpAny (model prog w) A (getMethod (.ref x) name pl) Q E s:=by
 obtain⟨od,J,hl⟩:=I.look
 exact W.method_fn X J (W.plainGet_of hg).1 (W.plainGet_of hg).2 hf (beq_iff_eq.mp ht) (by show(W.lookIn name od).map (·.isSome)=some false;rw[hl,hv];rfl) h
theorem ztF{ns:List Str}{Q:Unit->Shared->Prop}(X:K.In s.heap)(I:ObjM s.heap x dx C mA)
 (hs:W.findIn K (.ref C) "__setattr__"=some (some (.builtin "object.__setattr__"))) (hp:W.plainOver K C=true) (ht:W.takerIn K C name=some none) (hh:W.hasDictIn K C=true)
 (hw:PySem.Within mA ns) (hsz:ns.length<=sizeLine)
 (h:∀h',ObjM h' x dx C (λy=>if y=name then some v else mA y)->Heap.SameBut dx s.heap h'->Q Unit.unit {s with heap:=h',toks:=s.toks+2}):
 wpAny (model prog w) A (setAttr (.ref x) name v) Q E s:=by
 obtain⟨od,J,hl⟩:=I.look
 refine W.set_plain X J hs (W.osa_open (s:={s with toks:=s.toks+1}) (r:=none) X J hp ht λb=>?_)
 obtain⟨cd,hc,hd'⟩:=W.any_some hh
 have hx:s.heap.get? x=some ⟨.ref C,some dx, .plain, #[]⟩:=I.obj
 refine C0 (K0 (C0 (C0 (wpAny_loadPart hx (C0 (W.Looks.here (s:={s with toks:=s.toks+1}) (W.looks_clsIn X hc) ?_))))))
 rw[hd']
 refine K0 (a:=some dx) (C0 (K0 (C0 ?_)))
 refine wpAny_nsSet1 (s:={s with toks:=s.toks+1}) I.ns λh' hn2 hs2=>?_
 obtain⟨oD,esD,epD,hoD,hdD,hcD⟩:=hn2.count (Within.cons name v hw)
 refine C0 (wpAny_lookBehind hoD (by rw[hdD];exact pastItsLine_dict (Y1 hcD (by rw[L1];lia))) ?_)
 exact K0 (h _ ⟨(hs2.2 _ (Ne.symm I.ne)).trans I.obj,hn2,I.ne⟩ hs2)
theorem zse{R:Result->Shared->Prop}{vs:List Value}(X:K.In s.heap)(hm:W.makesIn K C=true)
 (hi:W.findIn K (.ref C) "__init__"=some (some (.ref f))) (hf:W.typeIn K (.ref f)=some (.type "function"))
 (h:codeAny (model prog w) (A.under (.builtin "type.__call__" ⟨.ref C::vs,kw⟩)) (.call (.ref f) ⟨.ref (s.heap.objs.size+1)::vs,kw⟩) (W.InitBack (s.heap.objs.size+1) R)
   {s with heap:=(s.heap.push W.emptyDict).push (W.instObj C s.heap.objs.size)}):
 codeAny (model prog w) A (.call (.ref C) ⟨vs,kw⟩) R s:=by
 obtain⟨hh,g,d,t,os⟩:=s
 exact W.make_core (W.makes_of X hm) (W.looks_findIn X hi) (λself=>W.bind_fn X self hf) (.inl rfl) h
end
noncomputable def zas(f:Str)(v:V):List (Str×V)->List (Str×V)
 |[]=> [(f,v)]
 |(g,x)::r=>if g=f then(g,v)::r else(g,x)::zas f v r
theorem zg1(f g:Str)(v:V):∀fs:List (Str×V),(zas f v fs).lookup g=if g=f then some v else fs.lookup g
 |[]=>by
  show List.lookup g [(f,v)]=_
  by_cases h:g=f
  ·have hb:(g==f)=true:=beq_iff_eq.mpr h
   simp only[List.lookup,hb,R0 h]
  ·have hb:(g==f)=false:=beq_eq_false_iff_ne.mpr h
   simp only[List.lookup,hb,N0 h]
 |(k,x)::r=>by
  have ih:=zg1 f g v r
  rw[show zas f v ((k,x)::r)=(if k=f then(k,v)::r else(k,x)::zas f v r)from rfl]
  by_cases hk:k=f
  ·rw[R0 hk]
   by_cases h:g=k
   ·have hb:(g==k)=true:=beq_iff_eq.mpr h
    simp only[List.lookup,hb,R0 (h.trans hk)]
   ·have hb:(g==k)=false:=beq_eq_false_iff_ne.mpr h
    simp only[List.lookup,hb,N0 (λe:g=f=>h (e.trans hk.symm))]
  ·rw[N0 hk]
   by_cases h:g=k
   ·have hb:(g==k)=true:=beq_iff_eq.mpr h
    simp only[List.lookup,hb,N0 (λe:g=f=>hk (h.symm.trans e))]
   ·have hb:(g==k)=false:=beq_eq_false_iff_ne.mpr h
    simp only[List.lookup,hb]
    exact ih
theorem zgu(f:Str)(v:V):∀fs:List (Str×V),f∈(zas f v fs).map (·.1)/\∀g,g∈fs.map (·.1)->g∈(zas f v fs).map (·.1)
 |[]=>⟨by simp[zas],λg h=>by simp at h⟩
 |(k,x)::r=>by
  obtain⟨i1,i2⟩:=zgu f v r
  rw[show zas f v ((k,x)::r)=(if k=f then(k,v)::r else(k,x)::zas f v r)from rfl]
  by_cases hk:k=f
  ·rw[R0 hk]
   subst hk
   exact⟨`Z3,λg h=>by simpa using h⟩
  ·rw[N0 hk]
   refine⟨?_,λg h=>?_⟩
   ·rw[E2]
    exact F1 _ i1
   ·rw[E2] at h⊢
    rcases D1.mp h with e|e
    ·exact D1.mpr (.inl e)
    ·exact F1 _ (i2 g e)
theorem zhe(f:Str)(v:V):∀fs:List (Str×V),(zas f v fs).length<=fs.length+1
 |[]=>by simp[zas]
 |(k,x)::r=>by
  have ih:=zhe f v r
  rw[show zas f v ((k,x)::r)=(if k=f then(k,v)::r else(k,x)::zas f v r)from rfl]
  by_cases hk:k=f
  ·rw[R0 hk,L1,L1];lia
  ·rw[N0 hk,L1,L1];lia
theorem RelO.some_of{o:Option Value}(r:RelO (some v) o):∃u,o=some u/\RelV v u:=by
 cases o with
 |none=>exact (show False from r).elim
 |some u=>exact ⟨u,rfl,r⟩
theorem RelO.none_of{o:Option Value}(r:RelO none o):o=none:=by
 cases o with
 |none=>rfl
 |some u=>exact (show False from r).elim
theorem zpv(r:RelV v u):W.handedIn u=true:=by
 cases v with
 |non=>cases (show u=Value.none from r);rfl
 |bl b=>cases (show u=Value.bool b from r);rfl
 |int i=>obtain ⟨t,e⟩:=(show∃t,u=Value.int i t from r);cases e;rfl
 |str x=>obtain ⟨t,e⟩:=(show∃t,u=Value.str x t from r);cases e;rfl
 |byt b=>obtain ⟨t,e⟩:=(show∃t,u=Value.bytes b t from r);cases e;rfl
 |flt b=>obtain ⟨t,e⟩:=(show∃t,u=Value.float b t from r);cases e;rfl
 |ref a=>cases (show u=Value.ref a from r);rfl
 |ty n=>cases (show u=Value.type n from r);rfl
section
variable{h:Heap}{dx:Addr}{fs fs':List (Str×V)}
theorem zhx(hok:HOk P w H h)(e:H a=some (.ins C dx fs)):∃mA,ObjM h a dx C mA/\(∀f,RelO (fs.lookup f) (mA f))/\PySem.Within mA (fs.map (·.1))/\fs.length<=1000/\H dx=some (.own a):=by
 obtain⟨d,z,ne,ob,mA,n,r,q⟩:=(show ObjOk P w H h a (.ins C dx fs)from hok a _ e)
 exact⟨mA,⟨ob,n,ne⟩,r,q,z,d⟩
end
structure Cls(K:W.Frag)(C:Addr):Prop where
 pg:W.plainGet K C Str.empty=true
 hd:W.hasDictIn K C=true
 po:W.plainOver K C=true
 sa:W.findIn K (.ref C) "__setattr__"=some (some (.builtin "object.__setattr__"))
variable{sa:TS}
theorem Cls.get(c:Cls K C)(f:Str):W.plainGet K C f=true:=c.pg
def NoAttr(K:W.Frag)(C:Addr)(f:Str):Prop:=W.findIn K (.ref C) f=some none
theorem NoAttr.taker{f:Str}(n:NoAttr K C f):W.takerIn K C f=some none:=by
 unfold W.takerIn
 rw[show W.findIn K (.ref C) f=some none from n]
 rfl
structure Con(K:W.Frag)(C:Addr)(f:Str)(v:V)(u:Value):Prop where
 at_:W.findIn K (.ref C) f=some (some u)
 rel:RelV v u
 get:W.specialIn K u "__get__"=some none
 cp:W.copiedNames.contains f=false
structure Meth(K:W.Frag)(C:Addr)(m:Str)(f:Addr):Prop where
 at_:W.findIn K (.ref C) m=some (some (.ref f))
 fn:W.isFn K (.ref f)=true
 kp:W.keepIn K (.ref f)=true
section
variable{dx:Addr}{fs:List (Str×V)}{f:Str}
theorem ziZ{b:Bool}(I:Inv X pins σ H s)(e:H a=some (.ins C dx fs))(c:Cls X.K C)(n:NoAttr X.K C f)(l:fs.lookup f=some v)
 (h:∀u s',Inv X pins σ H s'->RelV v u->Q u s'):wpAny (model X.prog X.w) A (getAttr (.ref a) f b) Q E s:=by
 obtain⟨mA,O,r,_,_,_⟩:=zhx I.hok e
 obtain⟨u,hu,ru⟩:=RelO.some_of (v:=v) (o:=mA f) (by rw[←l];exact r f)
 exact zt6 I.kIn O (c.get f) c.hd n hu (zpv ru) (h u _ (I.tok _) ru)
theorem zfO{m:Str}{g:Addr}{Q:Value×List Value->Shared->Prop}(I:Inv X pins σ H s)(e:H a=some (.ins C dx fs))(c:Cls X.K C)(k:Meth X.K C m g)(l:fs.lookup m=none)
 (h:Q (.ref g,[.ref a]) s):wpAny (model X.prog X.w) A (getMethod (.ref a) m pl) Q E s:=by
 obtain⟨mA,O,r,_,_,_⟩:=zhx I.hok e
 have hn:mA m=none:=RelO.none_of (by rw[←l];exact r m)
 exact zrJ I.kIn O (c.get m) k.at_ k.fn hn h
theorem ziH{y:V}{Q:Unit->Shared->Prop}(I:Inv X pins σ H s)(e:H a=some (.ins C dx fs))(c:Cls X.K C)(n:NoAttr X.K C f)(hl:fs.length<1000)(ry:RelV y u)
 (h:∀s',Inv X pins σ (upd H a (.ins C dx (zas f y fs))) s'->Q Unit.unit s'):wpAny (model X.prog X.w) A (setAttr (.ref a) f u) Q E s:=by
 obtain⟨mA,O,r,wi,_,ho⟩:=zhx I.hok e
 have hz:(fs.map (·.1)).length<=sizeLine:=by rw[D0,sizeLine_eq];lia
 refine ztF I.kIn O c.sa c.po n.taker c.hd wi hz λh' O' sb=>h _ ?_
 have hd:∃o,h'.get? dx=some o:=let⟨o,_,_,e',_⟩:=O'.ns;⟨o,e'⟩
 refine I.write (x:=a) (e:=dx) (by rw[e];exact True.intro) (.inr ho) (λb q hb z=>(sb.2 b hb).trans z) hd ?_
 refine⟨by rw[ze O.ne];exact ho,?_,O.ne,O'.obj,_,O'.ns,λg=>?_,λg hg=>?_⟩
 ·have:=zhe f y fs;lia
 ·show RelO ((zas f y fs).lookup g) (if g=f then some u else mA g)
  rw[zg1]
  by_cases q:g=f
  ·rw[R0 q,R0 q];exact ry
  ·rw[N0 q,N0 q];exact r g
 ·by_cases q:g=f
  ·rw[q];exact(zgu f y fs).1
  ·refine (zgu f y fs).2 g (wi g λz=>hg ?_)
   show(if g=f then some u else mA g)=none
   rw[N0 q];exact z
theorem Inv.made(I:Inv X pins σ H s):Inv X pins σ (upd (upd H s.heap.objs.size (.own (s.heap.objs.size+1))) (s.heap.objs.size+1) (.ins C s.heap.objs.size []))
 {s with heap:=(s.heap.push W.emptyDict).push (W.instObj C s.heap.objs.size)}:=by
 have e1:(s.heap.push W.emptyDict).get? s.heap.objs.size=some W.emptyDict:=Q0 s.heap rfl
 have e2:((s.heap.push W.emptyDict).push (W.instObj C s.heap.objs.size)).get? (s.heap.objs.size+1)=some (W.instObj C s.heap.objs.size):=by
  have:=Q0 (s.heap.push W.emptyDict) (o:=W.instObj C s.heap.objs.size) rfl
  rwa[Heap.size_push] at this
 have e3:(s.heap.push W.emptyDict).Ns s.heap.objs.size (λ_=>none):=⟨W.emptyDict, #[],_,e1,rfl,(λe he=>absurd he `Z3),λ_=>rfl⟩
 have I1:=I.laid (a:=s.heap.objs.size) (o:= .own (s.heap.objs.size+1)) (h':=s.heap.push W.emptyDict) (t':=s.toks) (λb u q=>G0 _ q) (S0 _) ⟨_,e1⟩
 refine I1.laid (a:=s.heap.objs.size+1) (o:= .ins C s.heap.objs.size []) (t':=s.toks) (λb u q=>G0 _ q) (Nat.le_of_eq (Heap.size_push _ _)) ?_
 have ne:s.heap.objs.size≠s.heap.objs.size+1:=V1 (Nat.lt_succ_self _)
 refine⟨by rw[ze ne,zc],Z1 _,ne,e2,λ_=>none,(Heap.Ns1.of_empty e3).at λo q=>G0 _ q,λ_=>True.intro,λy hy=>absurd rfl hy⟩
theorem zsT{e:Expr}{f:Str}(hb:attributeBase e f env (eval e env)=eval e env)
 (h:wpAny (model prog w) A (eval e env) (λo s₁=>wpAny (model prog w) A (getAttr o f true) Q E s₁) E s):wpAny (model prog w) A (eval (.Attribute e f pos) env) Q E s:=
 Attribute_any_ h (by rw[arm_eval_Attribute,hb])
end
noncomputable def zu5(K:W.Frag)(ta:TE)(f:Str):TE:=λσ H Q=>ta σ H λx H1=>∃a C dx fs v,x= .ref a/\H1 a=some (.ins C dx fs)/\Cls K C/\NoAttr K C f/\fs.lookup f=some v/\Q v H1
noncomputable def zwh(K:W.Frag)(ta tv:TE)(f:Str):TS:=λD σ H=>tv σ H λy H1=>ta σ H1 λx H2=>∃a C dx fs,x= .ref a/\H2 a=some (.ins C dx fs)/\Cls K C/\NoAttr K C f/\fs.length<1000/\
 D.nx σ (upd H2 a (.ins C dx (zas f y fs)))
def zvG(X:Cx)(op:Operator)(rd:V->V->Hp->VK->Prop):Prop:=
 ∀(pins:List (Addr×Obj)) (s:Shared) (σ:St) (H:Hp) (x y:V) (u v:Value) (Q:VK),Inv X pins σ H s->RelV x u->RelV y v->rd x y H Q->wpAny (model X.prog X.w) X.A (inplaceOp op u v) (EP X pins σ Q) X.xe s
def zn9(K:W.Frag)(ta tv:TE)(rd:V->V->Hp->VK->Prop)(f:Str):TS:=λD σ H=>ta σ H λx H1=>∃a C dx fs v,x= .ref a/\H1 a=some (.ins C dx fs)/\Cls K C/\NoAttr K C f/\fs.lookup f=some v/\
 tv σ H1 λy H2=>rd v y H2 λz H3=>∃dx' fs',H3 a=some (.ins C dx' fs')/\fs'.length<1000/\D.nx σ (upd H3 a (.ins C dx' (zas f z fs')))
section
variable{o e:Expr}{f:Str}{ta:TE}
theorem zvx(he:PE X e ta)(hb:attributeBase e f X.env (eval e X.env)=eval e X.env):PE X (.Attribute e f pos) (zu5 X.K ta f):=by
 intro pins s σ H Q I h
 refine zsT hb (thn (he pins s σ H _ I h) λu s1 zq=>?_)
 obtain⟨x,H1,I1,rx,a,C,dx,fs,v,ex,ea,c,n,l,q⟩:=zq
 subst ex
 obtain rfl:u=Value.ref a:=rx
 exact ziZ I1 ea c n l λu' s2 I2 ru=>⟨v,H1,I2,ru,q⟩
theorem zva(ha:PE X o ta)(hv:PE X value tv)(hs:swapsWith value (some (.Attribute o f pos')) pos.line X.env=pure false):PS X (.Assign [.Attribute o f pos'] value pos) (zwh X.K ta tv f):=by
 intro pins s σ H D I h
 refine plainObj_wpAny_Assign_Attribute (thn (hv pins s σ H _ I h) λu s1 zq=>?_) hs
 obtain⟨y,H1,I1,ry,q⟩:=zq
 refine thn (ha pins s1 σ H1 _ I1 q) λov s2 zq1=>?_
 obtain⟨x,H2,I2,rx,a,C,dx,fs,ex,ea,c,n,l,q2⟩:=zq1
 subst ex
 obtain rfl:ov=Value.ref a:=rx
 exact ziH I2 ea c n l ry λs3 I3=>⟨σ,_,I3,q2⟩
theorem zpm{op:Operator}{rd:V->V->Hp->VK->Prop}(ha:PE X o ta)(hv:PE X value tv)(hop:zvG X op rd):PS X (.AugAssign (.Attribute o f tpos) op value pos) (zn9 X.K ta tv rd f):=by
 intro pins s σ H D I h
 refine wpAny_AugAssign_AttributeAny (thn (ha pins s σ H _ I h) λov s1 zq=>?_)
 obtain⟨x,H1,I1,rx,a,C,dx,fs,v,ex,ea,c,n,l,q⟩:=zq
 subst ex
 obtain rfl:ov=Value.ref a:=rx
 refine ziZ I1 ea c n l λu s2 I2 ru=>thn (hv pins s2 σ H1 _ I2 q) λw3 s3 ⟨y,H2,I3,ry,q3⟩=>thn (hop pins s3 σ H2 v y u w3 _ I3 ru ry q3) λw4 s4 ⟨z,H3,I4,rz,dx',fs',ea',l',q4⟩=>?_
 exact ziH I4 ea' c n l' rz λs5 I5=>⟨σ,_,I5,q4⟩
def zxm:V->V->Hp->VK->Prop:=λx y H Q=>∃i j,x= .int i/\y= .int j/\Q (.int (i+j)) H
theorem zvR:zvG X .Add zxm:=by
 rintro pins s σ H x y u v Q I rx ry ⟨i,j,rfl,rfl,q⟩
 obtain⟨t,rfl⟩:=(show∃t,u=Value.int i t from rx)
 obtain⟨t',rfl⟩:=(show∃t',v=Value.int j t' from ry)
 exact PyProof.Rows.iadd_int ⟨.int (i+j),H,I.tok _,⟨_,rfl⟩,q⟩
theorem methcall_of{m:Str}{args:List Expr}(he:PE X e te)(I:Inv X pins σ H s)
 (h:te σ H λx H1=>∃a C dx fs g,x= .ref a/\H1 a=some (.ins C dx fs)/\Cls X.K C/\Meth X.K C m g/\fs.lookup m=none/\
   ∀s1,Inv X pins σ H1 s1->wpAny (model X.prog X.w) X.A (callWith pos (.ref g) [.ref a] (backTo pos (starEach args X.env)) (backToKw pos (keywordEach [] X.env))) Q X.xe s1)
 (ht:eval (.Call (.Attribute e m apos) args [] pos) X.env=(do
   let ov ←eval e X.env
   standAt apos.atName
   let(f,first) ←holding [ov] (getMethod ov m pl)
   callWith pos f first (backTo pos (starEach args X.env)) (backToKw pos (keywordEach [] X.env)))):
 wpAny (model X.prog X.w) X.A (eval (.Call (.Attribute e m apos) args [] pos) X.env) Q X.xe s:=by
 refine W.methodCall_KW (pl:=pl) (thn (he pins s σ H _ I h) λu s1 zq=>?_) ht
 obtain⟨x,H1,I1,rx,a,C,dx,fs,g,ex,ea,c,k,l,q⟩:=zq
 subst ex
 obtain rfl:u=Value.ref a:=rx
 exact zfO I1 ea c k l (q s1 I1)
end
section
variable{c:Value}{b:Bool}
inductive TyOf(K:W.Frag)(H:Hp):V->Value->Prop where
 |non:TyOf K H .non (.type "NoneType")
 |bl (x:Bool):TyOf K H (.bl x) (.type "bool")
 |int (i:Int):TyOf K H (.int i) (.type "int")
 |str (x:Str):TyOf K H (.str x) (.type "str")
 |flt (x:UInt64):TyOf K H (.flt x) (.type "float")
 |lst {a:Addr} {xs:List V} (e:H a=some (.lst xs)):TyOf K H (.ref a) (.type "list")
 |frz {a:Addr} {o:Obj} {xs:List V} (e:H a=some (.frz o (.lst xs))):TyOf K H (.ref a) (.type "list")
 |tup {a:Addr} {xs:List V} (e:H a=some (.tup xs)):TyOf K H (.ref a) (.type "tuple")
 |dK {a:Addr} {kvs:List (Key×V)} (e:H a=some (.dK kvs)):TyOf K H (.ref a) (.type "dict")
 |dT {a:Addr} {kvs:List (List Key×V)} (e:H a=some (.dT kvs)):TyOf K H (.ref a) (.type "dict")
 |ins {a C dx:Addr} {fs:List (Str×V)} (e:H a=some (.ins C dx fs)) (cl:Cls K C) (ha:W.findIn K (.ref C) "__class__"=some (some (.builtin "object.__class__")))
   (hn:W.specialIn K (.builtin "object.__class__") "__get__"=some (some (.builtin "getset_descriptor.__get__"))) (htk:W.takesIn K (.builtin "object.__class__")=some true)
   (hm:W.mroIn K C (.type "object")=some true):TyOf K H (.ref a) (.ref C)
theorem zpF{x:V}{t:Value}(I:Inv X pins σ H s)(rx:RelV x u)(ty:TyOf X.K H x t)(e:W.kitOne X.K t c=some b)(h:∀tk,Q (.bool b) {s with toks:=tk}):
 wpAny (model X.prog X.w) A (call (.builtin "isinstance") [u,c]) Q E s:=by
 cases ty with
 |non=>cases (show u=Value.none from rx);exact W.kia_one W.kitx_none I.kIn True.intro e (λz=>nomatch z) h
 |bl y=>cases (show u=Value.bool y from rx);exact W.kia_one W.kitx_bool I.kIn True.intro e (λz=>nomatch z) h
 |int i=>obtain ⟨t,q⟩:=(show∃t,u=Value.int i t from rx);cases q;exact W.kia_one W.kitx_int I.kIn True.intro e (λz=>nomatch z) h
 |str y=>obtain ⟨t,q⟩:=(show∃t,u=Value.str y t from rx);cases q;exact W.kia_one W.kitx_str I.kIn True.intro e (λz=>nomatch z) h
 |flt y=>obtain ⟨t,q⟩:=(show∃t,u=Value.float y t from rx);cases q;exact W.kia_one W.kitx_float I.kIn True.intro e (λz=>nomatch z) h
 | @lst a xs ea=>
   cases(show u=Value.ref a from rx)
   obtain⟨_,_,n,_,h1⟩:=(show ObjOk X.prog X.w H s.heap a (.lst xs)from I.hok a _ ea)
   exact W.kia_one W.kitx_list I.kIn ⟨_,h1,rfl⟩ e (λz=>nomatch z) h
 | @frz a ob xs ea=>
   cases(show u=Value.ref a from rx)
   obtain⟨_,_,_,n,_,h1⟩:=(show ObjOk X.prog X.w H s.heap a (.frz ob (.lst xs))from I.hok a _ ea)
   exact W.kia_one W.kitx_list I.kIn ⟨_,h1,rfl⟩ e (λz=>nomatch z) h
 | @tup a xs ea=>
   cases(show u=Value.ref a from rx)
   obtain⟨_,_,_,p,_⟩:=(show ObjOk X.prog X.w H s.heap a (.tup xs)from I.hok a _ ea)
   obtain⟨o,h1,h2,_⟩:=p
   exact W.kia_one W.kitx_tuple I.kIn ⟨o,h1,h2⟩ e (λz=>nomatch z) h
 | @dK a kvs ea=>
   cases(show u=Value.ref a from rx)
   obtain⟨_,_,vs,_,p⟩:=(show ObjOk X.prog X.w H s.heap a (.dK kvs)from I.hok a _ ea)
   obtain⟨o,es,ep,h1,h2,_⟩:=p
   exact W.kia_one W.kitx_dict I.kIn ⟨o,h1,h2.1⟩ e (λz=>nomatch z) h
 | @dT a kvs ea=>
   cases(show u=Value.ref a from rx)
   obtain⟨_,_,xs,_,o,es,ep,h1,h2,_⟩:=(show ObjOk X.prog X.w H s.heap a (.dT kvs)from I.hok a _ ea)
   exact W.kia_one W.kitx_dict I.kIn ⟨o,h1,h2.1⟩ e (λz=>nomatch z) h
 | @ins a C dx fs ea cl ha hn htk hm=>
   cases(show u=Value.ref a from rx)
   obtain⟨mA,O,_⟩:=zhx I.hok ea
   obtain⟨od,J,_⟩:=O.look
   exact W.kia_one (W.kitx_own (cl.get _) cl.hd ha hn htk hm) I.kIn J e (λz=>nomatch z) h
end
structure Room(k:Nat)(A:Around):Prop where
 hd:A.handled=none
 dp:A.depth+3*k+5<recursionLimit
 un:A.units+16*k+200<cLine
 gd:A.guards=some []
theorem Room.mono{k:Nat}(r:Room k A)(h:j<=k):Room j A:=⟨r.hd,by have:=r.dp;lia,by have:=r.un;lia,r.gd⟩
theorem Room.deeper{k:Nat}(r:Room (k+1) A)(env:Env):Room k (A.deeper env):=
 ⟨r.hd,by have:=r.dp;show A.depth+1+3*k+5<_;lia,by have:=r.un;show A.units+3+16*k+200<_;lia,r.gd⟩
theorem znr{us:List Value}:(A.under (.builtin "type.__call__" ⟨.ref C::us,kw⟩)).depth=A.depth+1:=by
 first|rfl|simp[Around.under,Code.weight,Code.isCreation,Code.isGuard,Code.isCaller,Code.frames,Code.isFrame,guardIds]
theorem zm7{us:List Value}:(A.under (.builtin "type.__call__" ⟨.ref C::us,kw⟩)).units=A.units+1:=by
 first|rfl|simp[Around.under,Code.cUnits,Code.frames,Code.isFrame]
theorem Room.make{k:Nat}(r:Room (k+1) A)(C:Addr)(us:List Value)(kw:List (Str×Value)):Room k (A.under (.builtin "type.__call__" ⟨.ref C::us,kw⟩)):=
 ⟨r.hd,by have:=r.dp;rw[znr];lia,by have:=r.un;rw[zm7];lia,(show(_:Option _)=some [] from r.gd)⟩
theorem Room.depth{k:Nat}(r:Room k A):A.depth<recursionLimit:=by have:=r.dp;lia
theorem Room.units{k:Nat}(r:Room k A):A.units+64<cLine:=by have:=r.un;lia
noncomputable def zgP:TA:=λ_ H Q=>Q [] H
noncomputable def zbL(ta:TE)(tr:TA):TA:=λσ H Q=>ta σ H λx H1=>tr σ H1 λxs H2=>Q (x::xs) H2
section
variable{e:Expr}{t:TA}
theorem zrX:PA X [] zgP:=λ_ _ _ _ H Q I h=>Calls.spliced_nil ⟨[],H,I, .nil,h⟩
theorem zoY(ha:PE X e te)(hr:PA X es t)(hs:autoParam (starEach (e::es) X.env=(false,eval e X.env)::starEach es X.env) u4):PA X (e::es) (zbL te t):=by
 intro pos pins s σ H Q I h
 rw[hs]
 show wpAny _ _ (spliced ((false,eval e X.env)::backTo pos (starEach es X.env))) _ _ s
 refine Calls.spliced_cons (thn (ha pins s σ H _ I h) λu s1 zq=>?_)
 obtain⟨x,H1,I1,r1,q1⟩:=zq
 refine thn (hr pos pins s1 σ H1 _ I1 q1) λus s2 zq=>?_
 obtain⟨xs,H2,I2,r2,q2⟩:=zq
 exact⟨x::xs,H2,I2, .cons r1 r2,q2⟩
noncomputable def zmQ(t:TA):TE:=λσ H Q=>t σ H λxs H1=>xs.length<=sizeLine/\∀p,H1 p=none->Q (.ref p) (upd H1 p (.tup xs))
noncomputable def znG(t:TA):TE:=λσ H Q=>t σ H λxs H1=>xs.length<=sizeLine/\∀p,H1 p=none->Q (.ref p) (upd H1 p (.lst xs))
theorem zvh{x1}(h:PA X es t):PE X (.Tuple es x1 pos) (zmQ t):=by
 intro pins s σ H Q I hq
 refine wpAny_Tuple_spliced (thn (h pos pins s σ H _ I hq) λus s1 ⟨xs,H1,I1,r,z,q⟩=>⟨by rw[←r.length];exact z,?_⟩)
 have hf:H1 s1.heap.objs.size=none:=I1.hok.fresh (S0 _)
 refine⟨.ref s1.heap.objs.size,upd H1 s1.heap.objs.size (.tup xs),I1.laid (t':=s1.toks) (λb u e=>G0 _ e) (S0 _) ?_,rfl,q _ hf⟩
 exact⟨z,us,r,⟨_,Q0 _ rfl,rfl,_,rfl⟩,NoDict.new rfl (Q0 _ rfl)⟩
theorem zqN(h:PA X es t):PE X (.List es pos) (znG t):=by
 intro pins s σ H Q I hq
 refine wpAny_List_spliced (thn (h pos pins s σ H _ I hq) λus s1 ⟨xs,H1,I1,r,z,q⟩=>⟨by rw[←r.length];exact z,?_⟩)
 have hf:H1 s1.heap.objs.size=none:=I1.hok.fresh (S0 _)
 refine⟨.ref s1.heap.objs.size,upd H1 s1.heap.objs.size (.lst xs),I1.laid (t':=s1.toks) (λb u e=>G0 _ e) (S0 _) ?_,rfl,q _ hf⟩
 exact⟨z,us,0,r,Q0 _ rfl⟩
end
noncomputable abbrev Sp:=List V->Hp->VK->XK->Prop
variable{sp:Sp}
noncomputable abbrev CXT:=List Env->Hp->Shared->XK->Value->Shared->Prop
variable{CX:CXT}
structure Env0(P:Program)(w:World)(K:W.Frag)(mg:Str->Option Value)(base:Heap)(A:Around)(outer:List Env)(s:Shared)(H:Hp):Prop where
 frames:A.frames=some outer
 mod:Mod K mg base
 bs:∀b o,base.get? b=some o->s.heap.get? b=some o/\H b=none
 bsz:base.objs.size<=s.heap.objs.size
 funs:s.heap.FunFrames base outer
 frf:∀b∈frs outer,H b=none
 hok:HOk P w H s.heap
 bare:AllBare s.gens
def CE(outer:List Env)(P:Program)(w:World)(H:Hp)(s:Shared)(Q:VK)(u:Value)(s':Shared):Prop:=
 ∃v H',s'.os=s.os/\AllBare s'.gens/\Un (frs outer) [] H H' s.heap s'.heap/\HOk P w H' s'.heap/\RelV v u/\Q v H'
def CR(CX:CXT)(outer:List Env)(P:Program)(w:World)(H:Hp)(s:Shared)(Q:VK)(E:XK)(r:Result)(s':Shared):Prop:=
 match r with
 | .ok (.ret u)=>CE outer P w H s Q u s'
 | .ok _=>False
 | .error e=>CX outer H s E e s'
structure FnOk(P:Program)(w:World)(K:W.Frag)(mg:Str->Option Value)(base:Heap)(CX:CXT)(k:Nat)(f:Addr)(fd:FuncData)(ps:List Str)(sp:Sp):Prop where
 len:∀vs H Q E,sp vs H Q E->vs.length=ps.length
 run:∀(A:Around) (outer:List Env) (s:Shared) (H:Hp) (args:Args) (us:List Value) (vs:List V) (Q:VK) (E:XK),Room k A->Env0 P w K mg base A outer s H->BindsTo s fd args (ps.zip us)->Vals vs us->sp vs H Q E->
  codeAny (model P w) A (.call (.ref f) args) (CR CX outer P w H s Q E) s
theorem Env0.make{mg:Str->Option Value}{base:Heap}(e:Env0 P w K mg base A outer s H)(C:Addr)(us:List Value)(kw:List (Str×Value)):
 Env0 P w K mg base (A.under (.builtin "type.__call__" ⟨.ref C::us,kw⟩)) outer s H:=⟨by first|exact e.frames|(simpa[Around.under,Code.envs,Code.isFrame,pushEnvs] using e.frames),e.mod,e.bs,e.bsz,e.funs,e.frf,e.hok,e.bare⟩
theorem Inv.env0(I:Inv X pins σ H s):Env0 X.prog X.w X.K X.mg X.base X.A X.stack s H:=
 ⟨I.ok.frames,I.ok.mod,I.bs,Y1 I.ok.bsz I.sz,I.stack,I.stkFree,I.hok,I.bare⟩
theorem Inv.after{Q:VK}(I:Inv X pins σ H s)(h:CE X.stack X.prog X.w H s Q u s'):EP X pins σ Q u s':=by
 obtain⟨v,H',os,bare,un,hok,r,q⟩:=h
 obtain⟨hh,g,d,t,os'⟩:=s'
 obtain rfl:os'=s.os:=os
 exact⟨v,H',I.call (h':=hh) (g':=g) (d':=d) (t':=t) (ch:=[]) un hok bare (λb z=>absurd z `Z3),r,q⟩
noncomputable def zqD(sp:Sp)(dvs:List V)(E:XK)(t:TA):TE:=λσ H Q=>t σ H λvs H1=>sp (vs ++dvs) H1 Q E
noncomputable def zoN(C:Addr)(m:Str)(sp:Sp)(dvs:List V)(E:XK)(ta:TE)(t:TA):TE:=λσ H Q=>ta σ H λx H1=>∃a dx fs,x= .ref a/\H1 a=some (.ins C dx fs)/\fs.lookup m=none/\
 t σ H1 λvs H2=>sp (x::(vs ++dvs)) H2 Q E
noncomputable def zuz(C:Addr)(sp:Sp)(dvs:List V)(E:XK)(t:TA):TE:=λσ H Q=>t σ H λvs H1=>∀x dx,H1 x=none->H1 dx=none->dx≠x->
 sp (.ref x::(vs ++dvs)) (upd (upd H1 dx (.own x)) x (.ins C dx [])) (λv H2=>v= .non/\Q (.ref x) H2) E
def Binds(K:W.Frag)(fd:FuncData)(ps:List Str)(ds:List Value):Prop:=
 ∀(s:Shared) (us:List Value),K.In s.heap->(us ++ds).length=ps.length->BindsTo s fd ⟨us,[]⟩ (ps.zip (us ++ds))
theorem Binds.all{ps:List Str}(h:∀us:List Value,us.length=ps.length->bindArgs fd ⟨us,[]⟩=pure (ps.zip us)):Binds K fd ps []:=λs us _ hl=>by
 rw[List.append_nil] at hl⊢
 exact .of_eq (h us hl)
def zcn(CX:CXT)(X:Cx)(E:XK):Prop:=∀(pins:List (Addr×Obj)) (σ:St) (H:Hp) (s:Shared) (e:Value) (s':Shared),Inv X pins σ H s->CX X.stack H s E e s'->X.xe e s'
section
variable{k:Nat}{ps:List Str}{ds:List Value}{E:XK}{m:Str}{p:Pos}{e o:Expr}{ta:TE}{t:TA}
theorem zng{Q:VK}{us:List Value}(F:FnOk X.prog X.w X.K X.mg X.base CX k f fd ps sp)(hr:Room k X.A)(hb:Binds X.K fd ps ds)(hd:Vals dvs ds)(hx:zcn CX X E)
 (I:Inv X pins σ H s) (r:Vals vs us) (h:sp (vs ++dvs) H Q E):wpAny (model X.prog X.w) X.A (call (.ref f) us) (EP X pins σ Q) X.xe s:=by
 have r2:Vals (vs ++dvs) (us ++ds):=r.append hd
 have hl:(us ++ds).length=ps.length:=by rw[←r2.length];exact F.len _ _ _ _ h
 refine wpAny_call (codeAny_mono (F.run X.A X.stack s H ⟨us,[]⟩ (us ++ds) (vs ++dvs) Q E hr I.env0 (hb s us I.kIn hl) r2 h) λr s' hq=>?_)
 cases r with
 |error e=>exact hx pins σ H s e s' I hq
 |ok fl=>
  cases fl with
  |ret u=>exact I.after hq
  |next=>exact False.elim hq
  |brk=>exact False.elim hq
  |cont=>exact False.elim hq
theorem ztV(F:FnOk X.prog X.w X.K X.mg X.base CX k f fd ps sp)(hr:Room k X.A)(hg:Gl X x)(hm:X.mg x=some (.ref f))(hk:W.keepIn X.K (.ref f)=true)(hb:Binds X.K fd ps ds)(hd:Vals dvs ds)(hx:zcn CX X E)
 (ha:PA X (e::es) t) (hdb:autoParam ((x==("__debug__":Str))=false) v5) (he:autoParam (starEach (e::es) X.env=(false,eval e X.env)::starEach es X.env) u4) (hpl:autoParam ((backTo pos (starEach es X.env)).any (·.1)=false) u4):
 PE X (.Call (.Name x p) (e::es) [] pos) (zqD sp dvs E t):=by
 intro pins s σ H Q I h
 refine wpAny_Call_Name_kw (zf8 I hg hm ?_ hdb)
 refine W.callWith_K (h₀:=X.base) I.ok.mod.kin hk (thn (ha pos pins s σ H _ I h) λus s1 zq=>?_) he hpl
 obtain⟨vs,H1,I1,r,q⟩:=zq
 refine⟨I1.kIn,?_⟩
 exact zng F hr hb hd hx I1 r q
theorem zs2(he:PE X o ta)(c:Cls X.K C)(hm:Meth X.K C m f)(F:FnOk X.prog X.w X.K X.mg X.base CX k f fd ps sp)(hr:Room k X.A)(hb:Binds X.K fd ps ds)(hd:Vals dvs ds)(hx:zcn CX X E)(ha:PA X (e::es) t)
 (hst:autoParam (starEach (e::es) X.env=(false,eval e X.env)::starEach es X.env) u4) (hpl:autoParam ((backTo pos (starEach es X.env)).any (·.1)=false) u4)
 (ht:autoParam (eval (.Call (.Attribute o m apos) (e::es) [] pos) X.env=(do
   let ov ←eval o X.env
   standAt apos.atName
   let(f,first) ←holding [ov] (getMethod ov m pl)
   callWith pos f first (backTo pos (starEach (e::es) X.env)) (backToKw pos (keywordEach [] X.env)))) u4):
 PE X (.Call (.Attribute o m apos) (e::es) [] pos) (zoN C m sp dvs E ta t):=by
 intro pins s σ H Q I h
 refine W.methodCall_KW (pl:=pl) (thn (he pins s σ H _ I h) λu s1 zq=>?_) ht
 obtain⟨x,H1,I1,rx,a,dx,fs,ex,ea,l,q⟩:=zq
 subst ex
 obtain rfl:u=Value.ref a:=rx
 refine zfO I1 ea c hm l ?_
 refine W.callWith_K (first:=[.ref a]) (h₀:=X.base) I.ok.mod.kin hm.kp (thn (ha pos pins s1 σ H1 _ I1 q) λus s2 zq=>?_) hst hpl
 obtain⟨vs,H2,I2,r,q2⟩:=zq
 refine⟨I2.kIn,?_⟩
 exact zng (us:= .ref a::us) (vs:= .ref a::vs) F hr hb hd hx I2 (.cons rfl r) q2
theorem zsd(he:PE X o ta)(c:Cls X.K C)(hm:Meth X.K C m f)(F:FnOk X.prog X.w X.K X.mg X.base CX k f fd ps sp)(hr:Room k X.A)(hb:Binds X.K fd ps ds)(hd:Vals dvs ds)(hx:zcn CX X E)
 (ht:autoParam (eval (.Call (.Attribute o m apos) [] [] pos) X.env=(do
   let ov ←eval o X.env
   standAt apos.atName
   let(f,first) ←holding [ov] (getMethod ov m pl)
   callWith pos f first (backTo pos (starEach [] X.env)) (backToKw pos (keywordEach [] X.env)))) u4):
 PE X (.Call (.Attribute o m apos) [] [] pos) (zoN C m sp dvs E ta zgP):=by
 intro pins s σ H Q I h
 refine W.methodCall_KW (pl:=pl) (thn (he pins s σ H _ I h) λu s1 zq=>?_) ht
 obtain⟨x,H1,I1,rx,a,dx,fs,ex,ea,l,q⟩:=zq
 subst ex
 obtain rfl:u=Value.ref a:=rx
 refine zfO I1 ea c hm l ?_
 exact W.callWith_K0 (first:=[.ref a]) I1.kIn hm.kp (zng (us:=[.ref a]) (vs:=[.ref a]) F hr hb hd hx I1 (.cons rfl .nil) q)
structure Mk(K:W.Frag)(C f:Addr):Prop where
 makes:W.makesIn K C=true
 init:W.findIn K (.ref C) "__init__"=some (some (.ref f))
 fn:W.isFn K (.ref f)=true
 kp:W.keepIn K (.ref C)=true
theorem zq6{Q:VK}{us:List Value}(M:Mk X.K C f)(F:FnOk X.prog X.w X.K X.mg X.base CX k f fd ps sp)(hr:Room (k+1) X.A)(hb:Binds X.K fd ps ds)(hd:Vals dvs ds)
 (hx:zcn CX X E) (I:Inv X pins σ H s) (r:Vals vs us)
 (h:∀x dx,H x=none->H dx=none->dx≠x->sp (.ref x::(vs ++dvs)) (upd (upd H dx (.own x)) x (.ins C dx [])) (λv H2=>v= .non/\Q (.ref x) H2) E):
 wpAny (model X.prog X.w) X.A (call (.ref C) us) (EP X pins σ Q) X.xe s:=by
 have hq:=h (s.heap.objs.size+1) s.heap.objs.size (I.hok.fresh (Nat.le_succ _)) (I.hok.fresh (S0 _)) (V1 (Nat.lt_succ_self _))
 have I2:=Inv.made (C:=C) I
 have r2:Vals (V.ref (s.heap.objs.size+1)::(vs ++dvs)) (Value.ref (s.heap.objs.size+1)::(us ++ds)):= .cons rfl (r.append hd)
 have hl:(Value.ref (s.heap.objs.size+1)::us ++ds).length=ps.length:=by
  have e:=r2.length
  rw[F.len _ _ _ _ hq] at e
  exact e.symm
 refine wpAny_call (zse (f:=f) I.kIn M.makes M.init (beq_iff_eq.mp M.fn) (codeAny_mono (F.run _ X.stack _ _ ⟨Value.ref (s.heap.objs.size+1)::us,[]⟩ (Value.ref (s.heap.objs.size+1)::(us ++ds)) _ _ E (hr.make C us [])
  (I2.env0.make C us []) (hb _ (Value.ref (s.heap.objs.size+1)::us) I2.kIn hl) r2 hq) λr s' hq'=>?_))
 cases r with
 |error e=>exact hx pins σ _ _ e s' I2 hq'
 |ok fl=>
  cases fl with
  |ret u=>
   obtain⟨v,H',I3,rv,ev,q3⟩:=I2.after hq'
   subst ev
   exact⟨rv,⟨V.ref (s.heap.objs.size+1),H',I3,rfl,q3⟩⟩
  |next=>exact False.elim hq'
  |brk=>exact False.elim hq'
  |cont=>exact False.elim hq'
theorem ztC(M:Mk X.K C f)(F:FnOk X.prog X.w X.K X.mg X.base CX k f fd ps sp)(hr:Room (k+1) X.A)(hg:Gl X x)(hm:X.mg x=some (.ref C))(hb:Binds X.K fd ps ds)(hd:Vals dvs ds)(hx:zcn CX X E)
 (ha:PA X (e::es) t) (hdb:autoParam ((x==("__debug__":Str))=false) v5) (he:autoParam (starEach (e::es) X.env=(false,eval e X.env)::starEach es X.env) u4) (hpl:autoParam ((backTo pos (starEach es X.env)).any (·.1)=false) u4):
 PE X (.Call (.Name x p) (e::es) [] pos) (zuz C sp dvs E t):=by
 intro pins s σ H Q I h
 refine wpAny_Call_Name_kw (zf8 I hg hm ?_ hdb)
 refine W.callWith_K (h₀:=X.base) I.ok.mod.kin M.kp (thn (ha pos pins s σ H _ I h) λus s1 zq=>?_) he hpl
 obtain⟨vs,H1,I1,r,q⟩:=zq
 refine⟨I1.kIn,?_⟩
 exact zq6 M F hr hb hd hx I1 r q
end
section
variable{k:Nat}{ps ks:List Str}{E:XK}{m:Str}{p kpos:Pos}{e o:Expr}{kws:List Keyword}{ta:TE}{t tk:TA}{nm:Option Str}
structure KBinds(K:W.Frag)(fd:FuncData)(ps ks:List Str)(g:List Value->List Value->List Value)(gV:List V->List V->List V):Prop where
 to:∀(s:Shared) (us ws:List Value),K.In s.heap->(g us ws).length=ps.length->BindsTo s fd ⟨us,ks.zip ws⟩ (ps.zip (g us ws))
 rel:∀{vs:List V} {us:List Value} {zs:List V} {ws:List Value},Vals vs us->Vals zs ws->Vals (gV vs zs) (g us ws)
variable{g:List Value->List Value->List Value}{gV:List V->List V->List V}
end
structure FnScope(N P:List Str)(sc:Scope):Prop where
 kind:sc.kind= .function
 co:sc.isCoroutine=false
 gen:sc.isGenerator=false
 nd:N.Nodup
 pre:N.take P.length=P
 par:∀x∈P,sc.names.lookup x=some .local\/sc.names.lookup x=some .cell
 nofree:∀y∈sc.names,y.2≠ .free
theorem zjU{kindOf:Str->Option NameKind}{x:Str}:∀{binds:List (Str×Value)} {m:Str->Option Value},(∀v,(x,v)∉binds)->bindL kindOf binds m x=m x
 |[],_,_=>rfl
 |(n,v)::r,m,h=>by
  unfold bindL
  rw[zjU λw hw=>h w (F1 _ hw)]
  split
  ·have:x≠n:=by rintro rfl;exact h v N1
   simp[this]
  ·rfl
theorem zjY{kindOf:Str->Option NameKind}{x:Str}:∀{binds:List (Str×Value)} {m:Str->Option Value},(∀v,(x,v)∉binds)->bindC kindOf binds m x=m x
 |[],_,_=>rfl
 |(n,v)::r,m,h=>by
  unfold bindC
  rw[zjY λw hw=>h w (F1 _ hw)]
  split
  ·rfl
  ·have:x≠n:=by rintro rfl;exact h v N1
   simp[this]
theorem zkc{kindOf:Str->Option NameKind}{x:Str}{v:Value}:∀{P:List Str} {vs:List Value} {i:Nat} {m:Str->Option Value},P.Nodup->P[i]?=some x->vs[i]?=some v->kindOf x=some .local->
 bindL kindOf (P.zip vs) m x=some v
 |[],_,_,_,_,h,_,_=>by simp at h
 |_::_,[],_,_,_,_,h,_=>by simp at h
 |p::P,w::vs,0,m,nd,h1,h2,hk=>by
  simp at h1 h2;subst h1;subst h2
  show bindL kindOf ((p,w)::P.zip vs) m p=_
  unfold bindL
  rw[zjU λv hv=>(U2.mp nd).1 (List.of_mem_zip hv).1,R0 hk]
  simp
 |p::P,w::vs,i+1,m,nd,h1,h2,hk=>by
  show bindL kindOf ((p,w)::P.zip vs) m x=_
  unfold bindL
  exact zkc (i:=i) (U2.mp nd).2 (by simpa using h1) (by simpa using h2) hk
theorem zka{kindOf:Str->Option NameKind}{x:Str}{v:Value}:∀{P:List Str} {vs:List Value} {i:Nat} {m:Str->Option Value},P.Nodup->P[i]?=some x->vs[i]?=some v->kindOf x≠some .local->
 bindC kindOf (P.zip vs) m x=some v
 |[],_,_,_,_,h,_,_=>by simp at h
 |_::_,[],_,_,_,_,h,_=>by simp at h
 |p::P,w::vs,0,m,nd,h1,h2,hk=>by
  simp at h1 h2;subst h1;subst h2
  show bindC kindOf ((p,w)::P.zip vs) m p=_
  unfold bindC
  rw[zjY λv hv=>(U2.mp nd).1 (List.of_mem_zip hv).1,N0 hk]
  simp
 |p::P,w::vs,i+1,m,nd,h1,h2,hk=>by
  show bindC kindOf ((p,w)::P.zip vs) m x=_
  unfold bindC
  exact zka (i:=i) (U2.mp nd).2 (by simpa using h1) (by simpa using h2) hk
noncomputable def zev(N:List Str)(vs:List V):St:=vs.map some ++List.replicate (N.length -vs.length) none
noncomputable def zjs(CX:CXT)(P:Program)(w:World)(K:W.Frag)(mg:Str->Option Value)(base:Heap)(N:List Str)(qual:Str)(scope:Scope)(f:Addr)(cd:Value)(A:Around)(outer:List Env)(s:Shared)(H:Hp)(E:XK):Cx where
 prog:=P
 w:=w
 K:=K
 mg:=mg
 base:=base
 A:=A.deeper (envOfC qual scope s.heap.objs.size f cd)
 N:=N
 s₀:=s
 H₀:=H
 env:=envOfC qual scope s.heap.objs.size f cd
 outer:=outer
 stack:=envOfC qual scope s.heap.objs.size f cd::outer
 ex:=[]
 calm:=true
 fn:=λ_=>true
 pn:=[]
 xe:=λe s'=>wpAny (model P w) (A.deeper (envOfC qual scope s.heap.objs.size f cd)) (leaving (envOfC qual scope s.heap.objs.size f cd) e) (λ_ s''=>CX outer H s E e s'') (λe' s''=>CX outer H s E e' s'') s'
theorem zlT{sc:Scope}{n:Nat}(h:sc.names.lookup x=some .cell):∃c,(cellsFrom n sc.names []).lookup x=some c:=by
 have q:=W.cellsFrom_some sc.names n [] (.inl h)
 exact Option.isSome_iff_exists.mp q
theorem zpw{mg:Str->Option Value}{base:Heap}{ps:List Str}{cd:Value}{s1:Shared}{E:XK}{us:List Value}
 (S:FnScope N ps scope) (hd:A.handled=none) (e0:Env0 P w K mg base A outer s H) (hl:vs.length=ps.length) (r:Vals vs us)
 (x:InCallC s s.heap.objs.size (bindL (envOfC qual scope s.heap.objs.size f cd).kindOf (ps.zip us) λ_=>none) (cellsFrom (s.heap.objs.size+1) scope.names []) (bindC (envOfC qual scope s.heap.objs.size f cd).kindOf (ps.zip us) λ_=>none) s1):
 Inv (zjs CX P w K mg base N qual scope f cd A outer s H E) [] (zev N vs) H s1:=by
 have hpl:ps.length<=N.length:=by have:=E3 List.length S.pre;rw[P1] at this;lia
 obtain⟨h1,tk,rfl,hk⟩:=x.done
 have noA:∀b:Addr,b∉(zjs CX P w K mg base N qual scope f cd A outer s H E).ex:=λb z=>absurd (show b∈([]:List Addr)from z) `Z3
 refine⟨⟨e0.mod,S.kind,rfl,rfl,S0 _,λy z c h1 h2=>?_,λy hy=>?_,λy c _ h=>?_,λ_=>hd,Around.frames_deeper e0.frames, .inr ⟨rfl,rfl⟩,λb z=>absurd z (noA b),e0.bs,e0.bsz,λb _ _=>noA b,λb z=>absurd z (noA b),e0.funs,e0.frf⟩,
  rfl,e0.bare,Un.kept hk,⟨_,x.toInCall.ns,λi y v h1 h2 h3=>?_⟩,λy c h=>⟨_,x.cell y c h⟩,e0.hok.fresh (S0 _),λy c h=>?_,λp hp=>absurd (show p∈([]:List (Addr×Obj))from hp) `Z3,e0.hok.kept hk,?_⟩
 ·exact name_of_addr x.apart (PySem.mem_of_lookup h1) (PySem.mem_of_lookup h2)
 ·have hy:scope.names.lookup y=some .cell\/scope.names.lookup y=some .free:=hy
  rcases hy with hy|hy
  ·exact zlT hy
  ·exact absurd rfl (S.nofree _ (PySem.mem_of_lookup hy))
 ·exact P2 (x.above y c (PySem.mem_of_lookup h))
 ·have hi:i<vs.length:=by
   unfold zev at h2
   by_cases hi:i<vs.length
   ·exact hi
   ·rw[W2 (by simpa using hi)] at h2
    rw[List.getElem?_replicate] at h2
    split at h2<;>cases h2
  have ha:vs[i]?=some v:=by
   unfold zev at h2
   rw[C3 (by simpa using hi),V0] at h2
   cases e:vs[i]? with
   |none=>rw[e] at h2;cases h2
   |some a=>rw[e] at h2;cases h2;rfl
  obtain⟨u,hu,rv⟩:=r.get ha
  have hp:ps[i]?=some y:=by
   rw[←S.pre,List.getElem?_take_of_lt ()];exact h1
  have ndP:ps.Nodup:=by rw[←S.pre];exact S.nd.sublist (List.take_sublist _ _)
  refine⟨u,rv,?_⟩
  rcases S.par y (Z0 hp)with k|k
  ·exact .inl ⟨k,zkc ndP hp hu k⟩
  ·obtain ⟨c,e⟩:=zlT (n:=s.heap.objs.size+1) k
   refine .inr ⟨.inl k,c,e,?_⟩
   have q:=x.cell y c e
   rw[zka ndP hp hu (by show scope.names.lookup y≠_;rw[k];decide)] at q
   exact q
 ·exact e0.hok.fresh (P2 (x.above y c (PySem.mem_of_lookup h)))
 ·unfold zev
  show _=N.length
  rw[b0,D0,List.length_replicate]
  lia
theorem zrs{mg:Str->Option Value}{base:Heap}{k:Nat}{params:Arguments}{dV kV:Value}{an:Option Addr}
  {ps:List Str}  (lk:K.lookup f=some ⟨oc,od, .func (W.fnOf name qual params body scope dV kV doc pm an cdv ct),osl⟩) (hcd:W.codeIn K cdv qual=true) (S:FnScope N ps scope)
 (len:∀vs H Q E,sp vs H Q E->vs.length=ps.length)
 (hbody:∀(A:Around) (outer:List Env) (s:Shared) (H:Hp) (vs:List V) (Q:VK) (E:XK),Room k (A.deeper (envOfC qual scope s.heap.objs.size f cdv))->sp vs H Q E->
   ∃t,PSs (zjs CX P w K mg base N qual scope f cdv A outer s H E) body t/\t {nx:=λ_ H'=>Q .non H',rt:=Q} (zev N vs) H):
 FnOk P w K mg base CX (k+1) f (W.fnOf name qual params body scope dV kV doc pm an cdv ct) ps sp:=by
 refine⟨len,λA outer s H args us vs Q E hr e0 hb r hsp=>?_⟩
 have hl:=len _ _ _ _ hsp
 have KX:K.In s.heap:=e0.mod.kin.keeps λb o e=>(e0.bs b o e).1
 have lim:s.heap.NoLimit:=e0.mod.nolimit.keeps λb o e=>(e0.bs b o e).1
 have hkind:∀y∈ps.zip us,scope.names.lookup y.1=some .local\/(scope.names.lookup y.1=some .cell/\((cellsFrom (s.heap.objs.size+1) scope.names []).lookup y.1).isSome=true):=λ⟨n,v⟩ hy=>by
  rcases S.par n (List.of_mem_zip hy).1 with q|q
  ·exact .inl q
  ·exact .inr ⟨q,W.cellsFrom_some _ _ _ (.inl q)⟩
 refine codeAny_call_function hr.depth (KX _ _ lk) rfl S.co S.gen rfl (W.codeRec_of KX hcd) (hb _ _ _ _ ?_)
 refine wpAny_newFunctionEnv_cells S.kind hkind λenv he s1 x=>?_
 subst he
 refine⟨lim.keeps x.toInCall.keep,codeAny_func ?_⟩
 obtain⟨t,ht,hq⟩:=hbody A outer s H vs Q E (hr.deeper _) hsp
 have I:Inv (zjs CX P w K mg base N qual scope f cdv A outer s H E) [] (zev N vs) H s1:=zpw S hr.hd e0 hl r x
 refine D3 (ht [] s1 (zev N vs) H _ I hq) (λfl s' hs=>?_) λe s' hs=>hs
 have fin:∀{σ':St} {H':Hp} {v:V} {u:Value},Inv (zjs CX P w K mg base N qual scope f cdv A outer s H E) [] σ' H' s'->RelV v u->Q v H'->CE outer P w H s Q u s':=
  λ{σ' H' v u} J rv q=>⟨v,H',J.os,J.bare,J.base,J.hok,rv,q⟩
 cases fl with
 |ret u=>
  obtain⟨v,σ',H',J,rv,q⟩:=hs
  exact fin J rv q
 |next=>
  obtain⟨σ',H',J,q⟩:=hs
  exact fin (v:=V.non) (u:=Value.none) J rfl q
 |brk=>
  obtain⟨_,_,_,q⟩:=hs
  exact False.elim q
 |cont=>
  obtain⟨_,_,_,q⟩:=hs
  exact False.elim q
section
variable{p:Pos}{e:Expr}{t:TA}{id T:String}{r:List V->Hp->VK->Prop}
def tCB(r:List V->Hp->VK->Prop)(t:TA):TE:=λσ H Q=>t σ H λvs H1=>r vs H1 Q
theorem zrg(hc:CallR X (.builtin id) r)(hg:Gl X x)(hm:X.mg x=none)(hv:bootBuiltins x=some (.builtin id))(ha:PA X (e::es) t)(hn:autoParam (x≠"__name__") v5)(hdb:autoParam ((x==("__debug__":Str))=false) v5)
 (he:autoParam (starEach (e::es) X.env=(false,eval e X.env)::starEach es X.env) u4) (hpl:autoParam ((backTo pos (starEach es X.env)).any (·.1)=false) u4):PE X (.Call (.Name x p) (e::es) [] pos) (tCB r t):=by
 intro pins s σ H Q I h
 refine wpAny_Call_Name_kw (zij I hg hm hv ?_ hn hdb)
 refine PyProof.Rows.callWith_builtin1 (thn (ha pos pins s σ H _ I h) λus s1 zq=>?_) he hpl
 obtain⟨vs,H1,I1,r1,q1⟩:=zq
 exact hc pins s1 σ H1 vs us Q I1 r1 q1
theorem zp8(hc:CallR X (.type T) r)(hg:Gl X x)(hm:X.mg x=none)(hv:bootBuiltins x=some (.type T))(ha:PA X (e::es) t)(hn:autoParam (x≠"__name__") v5)(hdb:autoParam ((x==("__debug__":Str))=false) v5)
 (he:autoParam (starEach (e::es) X.env=(false,eval e X.env)::starEach es X.env) u4) (hpl:autoParam ((backTo pos (starEach es X.env)).any (·.1)=false) u4):PE X (.Call (.Name x p) (e::es) [] pos) (tCB r t):=by
 intro pins s σ H Q I h
 refine wpAny_Call_Name_kw (zij I hg hm hv ?_ hn hdb)
 refine PyProof.Rows.callWith_type1 (thn (ha pos pins s σ H _ I h) λus s1 zq=>?_) he hpl
 obtain⟨vs,H1,I1,r1,q1⟩:=zq
 exact hc pins s1 σ H1 vs us Q I1 r1 q1
end
section
open PySem.SeqAt
open PySem.AutoSeq1 (wpAny_loadPart')
open PySem.MeetsSeq PySem.MeetsSeq2 PySem.MeetsSeq3
end
theorem cat_tup{t b:Addr}{vs ws:List Value}(ht:IsTup s.heap t vs.toArray)(hb:IsTup s.heap b ws.toArray)(hv:vs≠ [])
 (h1:ws=[]->Q (.ref t) s) (h2:ws≠ []->Q (.ref s.heap.objs.size) {s with heap:=s.heap.push {cls:= .type "tuple",data:= .seq (vs ++ws).toArray}})
 (hsz:vs.length+ws.length<=sizeLine):wpAny (model prog w) A (binaryOp .Add (.ref t) (.ref b)) Q E s:=by
 obtain⟨⟨cls,dd,data,sl⟩,ho,hc,n,hd⟩:=id ht
 obtain⟨⟨cls2,dd2,data2,sl2⟩,ho2,hc2,n2,hd2⟩:=id hb
 simp only at hc hd hc2 hd2
 subst hc hd hc2 hd2
 have e:vs.toArray ++ws.toArray=(vs ++ws).toArray:=`Z3
 by_cases hw:ws=[]
 ·exact concat_meets ⟨_,ho,rfl⟩ ⟨_,ho2,rfl⟩ noFill_tuple_add seq_tuple_add F.slot_tuple_add F.entry_tuple_add (F.args_tuple_add_2 _ _)
   (tuple_addW1 t b vs.toArray ws.toArray n n2 dd dd2 sl sl2 (by simpa using hv) (by simp[hw])) ⟨ho,ho2,h1 hw⟩
 ·refine concat_meets ⟨_,ho,rfl⟩ ⟨_,ho2,rfl⟩ noFill_tuple_add seq_tuple_add F.slot_tuple_add F.entry_tuple_add (F.args_tuple_add_2 _ _)
   (tuple_addW2 t b vs.toArray ws.toArray n n2 dd dd2 sl sl2 (by simpa using hv) (by simpa using hw) (by rw[E1,E1];exact hsz)) ⟨ho,ho2,?_⟩
  rw[e]
  exact h2 hw
noncomputable def sIx(n d:Nat):Option Int->Nat
 |none=>d
 |some v=>if v<0 then(v+(n:Int)).toNat else min v.toNat n
theorem zvM(n d:Nat)(hd:d<=n)(o:Option Int):sIx n d o<=n:=by
 cases o with
 |none=>exact hd
 |some v=>
  show(if v<0 then(v+(n:Int)).toNat else min v.toNat n)<=n
  by_cases hv:v<0
  ·rw[R0 hv];lia
  ·rw[N0 hv];exact Nat.min_le_right _ _
theorem zop(v:Int)(n d:Nat):(if v<0 then max (v+(n:Int)) 0 else min v (n:Int))=((sIx n d (some v):Nat):Int):=by
 show(if v<0 then max (v+(n:Int)) 0 else min v (n:Int))=(((if v<0 then(v+(n:Int)).toNat else min v.toNat n):Nat):Int)
 by_cases hv:v<0
 ·simp only[R0 hv];lia
 ·simp only[N0 hv];lia
theorem zm1(lo hi:Option Int)(n:Nat):Builtin.Slice.sliceAdjust lo hi 1 (n:Int)=(((sIx n 0 lo:Nat):Int),((sIx n n hi:Nat):Int)):=by
 have h1:¬((1:Int)<0):=()
 unfold Builtin.Slice.sliceAdjust
 simp only[h1,if_false]
 refine Prod.ext ?_ ?_
 ·cases lo with
  |none=>rfl
  |some v=>exact zop v n 0
 ·cases hi with
  |none=>rfl
  |some v=>exact zop v n n
theorem znR(i j:Nat):Builtin.Slice.slicePlaces (i:Int) (j:Int) 1=j -i:=by
 unfold Builtin.Slice.slicePlaces
 have h1:(1:Int)>0:=()
 simp only[h1,if_true,Int.ediv_one]
 split<;>lia
theorem ziB{v:Value}{o:Option Int}{Q:Option Int->Shared->Prop}(p:IsPart v o)(h:Q o s):wpAny (model prog w) A (Builtin.Slice.slicePartIndex v) Q E s:=by
 cases p with
 |none=>exact slicePart_none h
 |int i t=>exact slicePart_int h
theorem zdO{sl:Addr}{hi:Option Int}{n:Nat}{Q:Int×Int×Nat->Shared->Prop}(hs:s.heap.IsSliceOf sl vl vu .none)(pl:IsPart vl lo)(pu:IsPart vu hi)
 (h:Q (((sIx n 0 lo:Nat):Int),1,sIx n n hi -sIx n 0 lo) s):wpAny (model prog w) A (Builtin.Slice.sliceApplied (.ref sl) (pure (n:Int))) Q E s:=by
 obtain⟨os,hos,hcs,hds⟩:=id hs
 unfold Builtin.Slice.sliceApplied Builtin.Slice.sliceFields
 refine C0 (C0 (wpAny_field hos hds (x:=vl) rfl (C0 (wpAny_field hos hds (x:=vu) rfl (C0 (wpAny_field hos hds (x:= .none) rfl (K0 ?_)))))))
 refine C0 (slicePart_none ?_)
 show wpAny _ _ (if((1:Int)==0)=true then _ else _) _ _ s
 rw[N0 ⋯]
 refine C0 (ziB pl (C0 (ziB pu (C0 (K0 ?_)))))
 show wpAny _ _ (match Builtin.Slice.sliceAdjust lo hi 1 (n:Int)with|(lo,hi)=>pure (lo,(1:Int),Builtin.Slice.slicePlaces lo hi 1)) _ _ s
 rw[zm1 lo hi n]
 show wpAny _ _ (pure (((sIx n 0 lo:Nat):Int),(1:Int),Builtin.Slice.slicePlaces ((sIx n 0 lo:Nat):Int) ((sIx n n hi:Nat):Int) 1)) _ _ s
 rw[znR]
 exact K0 h
theorem zqw(xs:Array Value)(i k:Nat):((List.range k).filterMap λ(m:Nat)=>xs[((i:Int)+(m:Int)*1).toNat]?).toArray=((xs.toList.drop i).take k).toArray:=by
 have e:(λ(m:Nat)=>xs[((i:Int)+(m:Int)*1).toNat]?)=λm=>xs[i+m]?:=by
  funext m
  have:((i:Int)+(m:Int)*1).toNat=i+m:=()
  rw[this]
 rw[e]
 have:=pick_run xs i k
 rw[List.filterMap_map] at this
 have e2:((λx=>xs[x]?)∘λx=>i+x)=λm=>xs[i+m]?:=rfl
 rw[e2] at this
 rw[this]
theorem getItem_tuple_cut{t sl:Addr}{hi:Option Int}(ht:IsTup s.heap t items)(hs:s.heap.IsSliceOf sl vl vu .none)(pl:IsPart vl lo)(pu:IsPart vu hi)
 (hw:¬(sIx items.size 0 lo=0/\sIx items.size items.size hi=items.size))
 (h:Q (.ref s.heap.objs.size) {s with heap:=s.heap.push {cls:= .type "tuple",data:= .seq ((items.toList.drop (sIx items.size 0 lo)).take (sIx items.size items.size hi -sIx items.size 0 lo)).toArray}})
 (hsz:items.size<=sizeLine):wpAny (model prog w) A (getItem (.ref t) (.ref sl)) Q E s:=by
 have htake:sizeOk (.seq ((items.toList.drop (sIx items.size 0 lo)).take (sIx items.size items.size hi -sIx items.size 0 lo)).toArray):=by
  show((items.toList.drop (sIx items.size 0 lo)).take (sIx items.size items.size hi -sIx items.size 0 lo)).toArray.size<=sizeLine
  rw[E1,P1,List.length_drop,Array.length_toList]
  lia
 have hj:sIx items.size items.size hi<=items.size:=zvM _ _ (S0 _) hi
 obtain⟨os,hos,hcs,hds⟩:=id hs
 have hTs:s.TypeIs (.ref sl) "slice":=⟨os,hos,hcs⟩
 unfold getItem
 try with_reducible refine F3 ?_
 first|refine C0 (K0 ?_)|skip
 refine C0 (wpAny_sequenceKey ht.typeIs ⋯ ?_)
 refine C0 (wpAny_callSpecial?_slot (name:=Str.ofString "__getitem__") ht.typeIs PyProof.Rows.slot_tuple_getitem
  (J3 PyProof.Rows.slot_tuple_getitem ht.typeIs entry_tuple_getitem ?_ (args_tuple_getitem _ _)))
 show wpAny _ _ (Builtin.Tuple.tupleItemsOf (.ref t)>>=_) _ _ s
 refine C0 (tupleItemsOf_ ht ?_)
 refine C0 (wpAny_typeOf hTs ?_)
 rw[R0 ⋯]
 refine C0 (zdO hs pl pu ?_)
 have hno:¬((((sIx items.size 0 lo:Nat):Int)==0&&(1:Int)==1&&(sIx items.size items.size hi -sIx items.size 0 lo)==items.size)=true):=by
  intro q
  rw[X0,X0] at q
  have q1:((sIx items.size 0 lo:Nat):Int)=0:=eq_of_beq q.1.1
  have q2:sIx items.size items.size hi -sIx items.size 0 lo=items.size:=eq_of_beq q.2
  exact hw ⟨(),()⟩
 show wpAny _ _ (if(((sIx items.size 0 lo:Nat):Int)==0&&(1:Int)==1&&(sIx items.size items.size hi -sIx items.size 0 lo)==items.size)=true then _ else _) _ _ s
 rw[N0 hno,zqw]
 first
  |exact C0 (m:=Builtin.Tuple.tupleExact _) (K2 (K0 ⟨_,rfl,K0 h⟩) htake)
  |exact C0 (m:=Builtin.Tuple.tupleExact _) (K2 (C0 (K0 (K0 ⟨_,rfl,K0 h⟩))) htake)
  |exact C0 (C0 (m:=Builtin.Tuple.tupleExact _) (K2 (K0 (K0 ⟨_,rfl,K0 h⟩)) htake))
  |exact C0 (C0 (m:=Builtin.Tuple.tupleExact _) (K2 (K0 ⟨_,rfl,K0 h⟩) htake))
noncomputable abbrev TO:=St->Hp->(Option Int->Hp->Prop)->Prop
def PO(X:Cx)(e:Option Expr)(t:TO):Prop:=
 ∀(pins:List (Addr×Obj)) (s:Shared) (σ:St) (H:Hp) (Q:Option Int->Hp->Prop),Inv X pins σ H s->t σ H Q->
  wpAny (model X.prog X.w) X.A (evalPart e X.env) (λu s'=>∃o H',Inv X pins σ H' s'/\IsPart u o/\Q o H') X.xe s
noncomputable def zge:TO:=λ_ H Q=>Q none H
noncomputable def zj8(t:TE):TO:=λσ H Q=>t σ H λx H1=>∃i,x= .int i/\Q (some i) H1
section
variable{e:Expr}{lo hi:Option Expr}{tl th:TO}{p2:Pos}
theorem zts:PO X none zge:=by
 intro pins s σ H Q I h
 rw[evalPart_none]
 exact K0 ⟨none,H,I, .none,h⟩
theorem zsO(h:PE X e te):PO X (some e) (zj8 te):=by
 intro pins s σ H Q I hw
 rw[evalPart_some]
 refine thn (h pins s σ H _ I hw) λu s1 zq=>?_
 obtain⟨x,H1,I1,r1,q1⟩:=zq
 obtain⟨i,rfl,q⟩:=q1
 obtain⟨t,rfl⟩:=r1
 exact⟨some i,H1,I1, .int i t,q⟩
def SlR(X:Cx)(r:V->Option Int->Option Int->Hp->VK->Prop):Prop:=
 ∀(pins:List (Addr×Obj)) (s:Shared) (σ:St) (H:Hp) (x:V) (v vl vu:Value) (lo hi:Option Int) (sl:Addr) (Q:VK),Inv X pins σ H s->RelV x v->s.heap.IsSliceOf sl vl vu .none->IsPart vl lo->IsPart vu hi->r x lo hi H Q->
  ∃T id,typeLookup (.type T) "__getitem__"=pure (some (.builtin id))/\s.TypeIs v T/\wpAny (model X.prog X.w) X.A (getItem v (.ref sl)) (EP X pins σ Q) X.xe s
def tSl(r:V->Option Int->Option Int->Hp->VK->Prop)(te:TE)(tl th:TO):TE:=λσ H Q=>te σ H λx H1=>tl σ H1 λl H2=>th σ H2 λu H3=>r x l u H3 Q
theorem zrn{r:V->Option Int->Option Int->Hp->VK->Prop}(hr:SlR X r)(he:PE X e te)(hl:PO X lo tl)(hu:PO X hi th):PE X (.Subscript e (.Slice lo hi none p2) pos) (tSl r te tl th):=by
 intro pins s σ H Q I h
 refine Subscript_ (thn (he pins s σ H _ I h) λv s1 zq=>?_)
 obtain⟨x,H1,I1,r1,q1⟩:=zq
 refine wpAny_Slice (thn (hl pins s1 σ H1 _ I1 q1) λvl s2 zq=>?_)
 obtain⟨l,H2,I2,pl,q2⟩:=zq
 refine thn (hu pins s2 σ H2 _ I2 q2) λvu s3 zq1=>?_
 obtain⟨u,H3,I3,pu,q3⟩:=zq1
 rw[evalPart_none]
 refine K0 ?_
 have I4:Inv X pins σ H3 {s3 with heap:=s3.heap.push {cls:= .type "slice",data:= .fields #[vl,vu, .none]}}:=I3.kept (t':=s3.toks) λb ob q=>G0 _ q
 obtain⟨T,id,hT,ht,hg⟩:=hr pins {s3 with heap:=s3.heap.push {cls:= .type "slice",data:= .fields #[vl,vu, .none]}} σ H3 x v vl vu l u s3.heap.objs.size Q I4 r1 (Heap.IsSliceOf.new ..) pl pu q3
 show wpAny (model X.prog X.w) X.A (subscriptTail e (.Slice lo hi none p2) v (.ref s3.heap.objs.size)) (EP X pins σ Q) X.xe {s3 with heap:=s3.heap.push {cls:= .type "slice",data:= .fields #[vl,vu, .none]}}
 exact tail_any (ops:=[.ref s3.heap.objs.size,v]) ht hT hg (by with_unfolding_all rfl)
noncomputable def zde(xs:List V)(lo hi:Option Int):List V:=(xs.drop (sIx xs.length 0 lo)).take (sIx xs.length xs.length hi -sIx xs.length 0 lo)
theorem zgZ(xs:List V)(lo hi:Option Int):(zde xs lo hi).length<=xs.length:=by
 unfold zde
 rw[P1,List.length_drop]
 lia
def zw8(K:W.Frag):V->Option Int->Option Int->Hp->VK->Prop:=λx lo hi H Q=>∃a xs,x= .ref a/\SqT K H a xs/\
 ¬(sIx xs.length 0 lo=0/\sIx xs.length xs.length hi=xs.length)/\∀p,H p=none->Q (.ref p) (upd H p (.tup (zde xs lo hi)))
theorem zvS:SlR X (zw8 X.K):=by
 intro pins s σ H x v vl vu lo hi sl Q I rx hs pl pu h
 obtain⟨a,xs,rfl,hx,hw,q⟩:=h
 cases rx
 obtain⟨its,r,ht,hz⟩:=I.tuple hx
 have hlen:its.toArray.size=xs.length:=by rw[E1];exact r.length.symm
 refine⟨"tuple",_,PyProof.Rows.slot_tuple_getitem.lookup,ht.typeIs,?_⟩
 refine getItem_tuple_cut ht hs pl pu (by rw[hlen];exact hw) ?_ (by rw[hlen];exact hz)
 rw[hlen]
 refine⟨.ref s.heap.objs.size,_,I.laid (t':=s.toks) (o:= .tup (zde xs lo hi)) (λb ob q=>G0 _ q) (S0 _) ?_,rfl,q _ (I.hok.fresh (S0 _))⟩
 exact⟨Y1 (zgZ xs lo hi) hz,_,(r.drop (sIx xs.length 0 lo)).take (sIx xs.length xs.length hi -sIx xs.length 0 lo),IsTup.new _ _,NoDict.new rfl (Q0 _ rfl)⟩
noncomputable def zwG(K:W.Frag):R2:=λx y H Q=>∃a b xs ys,x= .ref a/\y= .ref b/\SqT K H a xs/\SqT K H b ys/\xs≠ []/\xs.length+ys.length<=sizeLine/\
 (ys=[]->Q (.ref a) H)/\(ys≠ []->∀p,H p=none->Q (.ref p) (upd H p (.tup (xs ++ys))))
theorem Vals.nil_iff{us:List Value}(r:Vals xs us):us=[]↔xs=[]:=by
 cases r with
 |nil=>simp
 |cons _ _=>simp
theorem zsJ:OpR X (binaryOp .Add) (zwG X.K):=by
 intro pins s σ H x y v u Q I rx ry h
 obtain⟨a,b,xs,ys,rfl,rfl,ha,hb,hx,hz,q1,q2⟩:=h
 cases rx
 cases ry
 obtain⟨its,r1,p1,_⟩:=I.tuple ha
 obtain⟨its2,r2,p2,_⟩:=I.tuple hb
 refine cat_tup p1 p2 (λz=>hx (r1.nil_iff.mp z)) (λz=>⟨.ref a,H,I,rfl,q1 (r2.nil_iff.mp z)⟩) (λz=>?_) (by rw[←r1.length,←r2.length];exact hz)
 refine⟨.ref s.heap.objs.size,_,I.laid (t':=s.toks) (o:= .tup (xs ++ys)) (λb ob q=>G0 _ q) (S0 _) ?_,rfl,q2 (λw=>z (r2.nil_iff.mpr w)) _ (I.hok.fresh (S0 _))⟩
 exact⟨by rw[b0];exact hz,_,r1.append r2,IsTup.new _ _,NoDict.new rfl (Q0 _ rfl)⟩
end
noncomputable def ixN(n:Nat)(i:Int):Option Nat:=if 0<=i then(if i<n then some i.toNat else none)else if -(n:Int)<=i then some (i+n).toNat else none
noncomputable def atI(xs:List α)(i:Int):Option α:=(ixN xs.length i).bind λj=>xs[j]?
theorem zoD{n:Nat}{i:Int}(h:ixN n i=some j):seqIndex? i n=some j/\j<n/\-(n:Int)<=i/\i<n:=by
 unfold ixN at h
 by_cases h0:0<=i
 ·rw[R0 h0] at h
  by_cases h1:i<n
  ·rw[R0 h1] at h
   have e:i.toNat=j:=U1 h
   exact⟨by rw[seqIndex_of h0 h1,e],(),(),h1⟩
  ·rw[N0 h1] at h;cases h
 ·rw[N0 h0] at h
  by_cases h1: -(n:Int)<=i
  ·rw[R0 h1] at h
   have e:(i+n).toNat=j:=U1 h
   exact⟨by rw[seqIndex_neg () h1,e],(),h1,()⟩
  ·rw[N0 h1] at h;cases h
theorem zld{xs:List α}{i:Int}{v:α}(h:atI xs i=some v):∃j,seqIndex? i xs.length=some j/\xs[j]?=some v/\j<xs.length/\-(xs.length:Int)<=i/\i<xs.length:=by
 unfold atI at h
 cases e:ixN xs.length i with
 |none=>rw[e] at h;cases h
 |some j=>
  rw[e] at h
  obtain⟨h1,h2,h3,h4⟩:=zoD e
  exact⟨j,h1,h,h2,h3,h4⟩
theorem zZ{xs:List α}{v:α}(h:xs[j]?=some v):atI xs (j:Int)=some v:=by
 have hj:j<xs.length:=(y1.mp h).1
 have e:ixN xs.length (j:Int)=some j:=by
  unfold ixN
  rw[R0 (),R0 ()];simp
 unfold atI;rw[e];exact h
def zoy(b:Expr):Prop:=∀o i,subscripted b false o i=operate [o,i] (getItem o i)
def IxR(X:Cx)(r:R2):Prop:=
 ∀(value slice:Expr) (pins:List (Addr×Obj)) (s:Shared) (σ:St) (H:Hp) (x y:V) (v u:Value) (Q:VK),Inv X pins σ H s->RelV x v->RelV y u->r x y H Q->
  subscripted slice false v u=operate [v,u] (getItem v u)->wpAny (model X.prog X.w) X.A (subscriptTail value slice v u) (EP X pins σ Q) X.xe s
def MtR(X:Cx)(id:String)(r:V->List V->Hp->VK->Prop):Prop:=
 ∀(pins:List (Addr×Obj)) (s:Shared) (σ:St) (H:Hp) (x:V) (xs:List V) (v:Value) (us:List Value) (Q:VK),Inv X pins σ H s->RelV x v->Vals xs us->r x xs H Q->
  wpAny (model X.prog X.w) X.A (call (.builtin id) (v::us)) (EP X pins σ Q) X.xe s
section
variable{a b:Expr}{ta tb:TE}
theorem IxR.or{r:R2}(h:IxR X r)(h':IxR X r'):IxR X (λx y H Q=>r x y H Q\/r' x y H Q):=by
 intro value slice pins s σ H x y v u Q I rx ry q hs
 rcases q with q|q
 ·exact h value slice pins s σ H x y v u Q I rx ry q hs
 ·exact h' value slice pins s σ H x y v u Q I rx ry q hs
theorem zwH{r:R2}(hr:IxR X r)(ha:PE X a ta)(hb:PE X b tb)(hs:zoy b):PE X (.Subscript a b pos) (tOp r ta tb):=by
 intro pins s σ H Q I h
 exact Subscript_ (zuS ha hb I h λv u s2 x y H2 I2 rx ry q=>hr a b pins s2 σ H2 x y v u Q I2 rx ry q (hs _ _))
noncomputable def zwq(K:W.Frag):R2:=λx y H Q=>∃p xs i v,x= .ref p/\y= .int i/\SqL K H p xs/\atI xs i=some v/\Q v H
noncomputable def zwV(K:W.Frag):R2:=λx y H Q=>∃p xs i v,x= .ref p/\y= .int i/\SqT K H p xs/\atI xs i=some v/\Q v H
noncomputable def zwj:R2:=λx y H Q=>∃z i c,x= .str z/\y= .int i/\z.length<=sizeLine/\atI z.cps.toList i=some c/\Q (.str ⟨#[c]⟩) H
theorem zaq:IxR X (zwq X.K):=by
 intro value slice pins s σ H x y v u Q I rx ry h hs
 obtain⟨p,xs,i,z,rfl,rfl,hq,he,q⟩:=h
 cases rx
 obtain⟨t,rfl⟩:=ry
 obtain⟨its,r,pl,hz⟩:=I.list hq
 obtain⟨j,h1,h2,h3,h4,h5⟩:=zld he
 obtain⟨w,ew,rw'⟩:=r.get h2
 have hl:=r.length
 have hn:=zfu
 have fin:EP X pins σ Q w s:=⟨z,H,I,rw',q⟩
 by_cases h0:0<=i
 ·have hj:i.toNat=j:=by
   rw[seqIndex_of h0 h5] at h1
   exact U1 h1
  exact item_listR pl.isList h0 () (by rw[hj];simpa using ew) fin hs
 ·have hj:(i+(its.toArray.size:Int)).toNat=j:=by
   rw[seqIndex_neg () h4] at h1
   rw[E1,←hl]
   exact U1 h1
  exact subscriptTail_builtinR (x:=w) pl.isList.typeIs slot_list_getitem.lookup
   (wpAny_getItem_list_neg (Q:=λr s'=>r=w/\EP X pins σ Q r s') pl.isList () (by rw[E1]<;>lia) () (by rw[hj];simpa using ew) ⟨rfl,fin⟩) hs
theorem zw:IxR X (zwV X.K):=by
 intro value slice pins s σ H x y v u Q I rx ry h hs
 obtain⟨p,xs,i,z,rfl,rfl,hq,he,q⟩:=h
 cases rx
 obtain⟨t,rfl⟩:=ry
 obtain⟨its,r,pl,hz⟩:=I.tuple hq
 obtain⟨j,h1,h2,h3,h4,h5⟩:=zld he
 obtain⟨w,ew,rw'⟩:=r.get h2
 have hl:=r.length
 have hn:=zfu
 have fin:EP X pins σ Q w s:=⟨z,H,I,rw',q⟩
 exact subscriptTail_builtinR (x:=w) pl.typeIs slot_tuple_getitem.lookup
  (getItem_tuple (j:=j) (Q:=λr s'=>r=w/\EP X pins σ Q r s') pl () () (by rw[E1,←hl];exact h1) (by simpa using ew) ⟨rfl,fin⟩) hs
theorem zrM:IxR X zwj:=by
 intro value slice pins s σ H x y v u Q I rx ry h hs
 obtain⟨z,i,c,rfl,rfl,hz,he,q⟩:=h
 obtain⟨t,rfl⟩:=rx
 obtain⟨t',rfl⟩:=ry
 obtain⟨j,h1,h2,h3,h4,h5⟩:=zld he
 have hl:z.cps.toList.length=z.length:=by simp[Str.length]
 rw[hl] at h1 h4 h5
 have hn:=zfu
 exact tail_any (typeIs_str s z t) slot_str_getitem.lookup (getItem_str (c:=c) (by
  have e1:decide (i< -(2^63:Int))=false:=U0 ()
  have e2:decide (i≥2^63)=false:=U0 ()
  rw[e1,e2,Bool.or_false]) (by rw[h1];simpa using h2) ⟨.str ⟨#[c]⟩,H,I.tok _,⟨_,rfl⟩,q⟩) hs
noncomputable def rIx(K:W.Frag):R2:=λx y H Q=>zwq K x y H Q\/zwV K x y H Q\/zwj x y H Q
theorem zn1:IxR X (rIx X.K):=zaq.or (zw.or zrM)
theorem znE(its:List Value)(n j:Nat)(u:Value):Obj.mapSeq (·.setIfInBounds j u) {cls:= .type "list",data:= .seq its.toArray n}={cls:= .type "list",data:= .seq (its.set j u).toArray n}:=by
 simp[Obj.mapSeq]
theorem Inv.lst{pins:List (Addr×Obj)}{σ:St}{H:Hp}{s:Shared}{p:Addr}{xs:List V}(I:Inv X pins σ H s)(h:H p=some (.lst xs)):
 ∃(its:List Value) (n:Nat),Vals xs its/\s.heap.get? p=some {cls:= .type "list",data:= .seq its.toArray n}/\xs.length<=sizeLine:=by
 obtain⟨z,its,n,r,e⟩:=I.hok p _ h
 exact⟨its,n,r,e,z⟩
theorem Inv.lstUpd{p:Addr}{n n':Nat}{f:Obj->Obj}(I:Inv X pins σ H s)(h:H p=some (.lst xs))
 (ho:s.heap.get? p=some {cls:= .type "list",data:= .seq its.toArray n}) (hf:f {cls:= .type "list",data:= .seq its.toArray n}={cls:= .type "list",data:= .seq its'.toArray n'}) (r:Vals ys its') (hz:ys.length<=sizeLine) (t:Nat):
 Inv X pins σ (upd H p (.lst ys)) {s with heap:=s.heap.update p f,toks:=t}:=by
 have e:(s.heap.update p f).get? p=some {cls:= .type "list",data:= .seq its'.toArray n'}:=by
  rw[Heap.get?_update_self f ho (by rw[hf]<;>rfl),hf]
 refine I.write (x:=p) (e:=p) (by rw[h];trivial) (.inl rfl) (λb u hb q=>(Heap.get?_update_other _ _ (Ne.symm hb)).trans q) ⟨_,e⟩ ?_
 exact⟨hz,its',n',r,e⟩
def zwb:V->V->V->Hp->(Hp->Prop)->Prop:=λo i v H Q=>∃p xs k j,o= .ref p/\i= .int k/\H p=some (.lst xs)/\ixN xs.length k=some j/\Q (upd H p (.lst (xs.set j v)))
theorem ze3:zuP X zwb:=by
 intro pins s σ H o i v ov iv u Q I ro ri rv h
 obtain⟨p,xs,k,j,rfl,rfl,hp,hj,q⟩:=h
 cases ro
 obtain⟨t,rfl⟩:=ri
 obtain⟨its,n,r,ho,hz⟩:=I.lst hp
 obtain⟨h1,h2,h3,h4⟩:=zoD hj
 have hl:=r.length
 have hn:=zfu
 have I':Inv X pins σ (upd H p (.lst (xs.set j v))) {s with heap:=s.heap.update p (Obj.mapSeq (·.setIfInBounds j u))}:=
  I.lstUpd hp ho (znE its n j u) (r.set rv j) (by rw[List.length_set];exact hz) s.toks
 by_cases h0:0<=k
 ·have hk:k.toNat=j:=by
   rw[seqIndex_of h0 h4] at h1
   exact U1 h1
  exact W.ki_setAt ho h0 () (by rw[E1,←hl];exact h4) (by rw[hk];exact⟨_,I',q⟩)
 ·have hk:(k+(its.toArray.size:Int)).toNat=j:=by
   rw[seqIndex_neg () h3] at h1
   rw[E1,←hl]
   exact U1 h1
  exact W.ki_setBack ho () (by rw[E1,←hl];exact h3) () (by rw[hk];exact⟨_,I',q⟩)
theorem zkq(lo hi:Option Int)(n:Nat):(sliceBounds lo hi none n).1=((sIx n 0 lo:Nat):Int)/\(sliceBounds lo hi none n).2.1=((sIx n n hi:Nat):Int)/\(sliceBounds lo hi none n).2.2=1:=by
 refine⟨?_,?_,rfl⟩
 ·cases lo with
  |none=>simp[sliceBounds,sIx]
  |some i=>
   simp only[sliceBounds,sIx,Option.getD_none,show(1:Int)>0 by decide,if_true]
   by_cases h:i<0
   ·simp only[h,if_true]<;>lia
   ·simp only[h,if_false]<;>lia
 ·cases hi with
  |none=>simp[sliceBounds,sIx]
  |some i=>
   simp only[sliceBounds,sIx,Option.getD_none,show(1:Int)>0 by decide,if_true]
   by_cases h:i<0
   ·simp only[h,if_true]<;>lia
   ·simp only[h,if_false]<;>lia
theorem zjj(its:List Value)(lo hi:Option Int):slicePick its.toArray lo hi none=((its.drop (sIx its.length 0 lo)).take (sIx its.length its.length hi -sIx its.length 0 lo)).toArray:=by
 obtain⟨h1,h2,h3⟩:=zkq lo hi its.toArray.size
 unfold slicePick
 rw[h1,h2,h3]
 simp only[sliceRange_one,pick_run,E1]<;>rfl
def zxi(K:W.Frag):V->Option Int->Option Int->Hp->VK->Prop:=λx lo hi H Q=>∃a xs,x= .ref a/\SqL K H a xs/\∀p,H p=none->Q (.ref p) (upd H p (.lst (zde xs lo hi)))
theorem zok:SlR X (zxi X.K):=by
 intro pins s σ H x v vl vu lo hi sl Q I rx hs pl pu h
 obtain⟨a,xs,rfl,hx,q⟩:=h
 cases rx
 obtain⟨its,r,ht,hz⟩:=I.list hx
 have hlen:=r.length
 refine⟨"list",_,slot_list_getitem.lookup,ht.isList.typeIs,?_⟩
 refine wpAny_getItem_list_slice ht.isList hs pl pu .none `Z3 ?_ (by rw[E1]<;>lia)
 rw[zjj,←hlen]
 refine⟨.ref s.heap.objs.size,_,I.laid (t':=s.toks) (o:= .lst (zde xs lo hi)) (λb ob q=>G0 _ q) (S0 _) ?_,rfl,q _ (I.hok.fresh (S0 _))⟩
 exact⟨Y1 (zgZ xs lo hi) hz,_,0,(r.drop (sIx xs.length 0 lo)).take (sIx xs.length xs.length hi -sIx xs.length 0 lo),Q0 _ rfl⟩
noncomputable def zf7:V->Bool
 | .non=>true
 | .bl _=>true
 | .int _=>true
 | .str _=>true
 |_=>false
noncomputable def eqV:V->V->Bool
 | .non, .non=>true
 | .bl a, .bl b=>a==b
 | .bl a, .int b=>(if a then 1 else 0)==b
 | .int a, .bl b=>a==(if b then 1 else 0)
 | .int a, .int b=>a==b
 | .str a, .str b=>a==b
 |_,_=>false
theorem zu0{y x:V}{v:Value}(ry:RelV y u)(rx:RelV x v)(fy:zf7 y=true)(fx:zf7 x=true):SeqAt.EqAt A s u v (eqV y x):=by
 cases y with
 |non=>
  cases ry
  cases x with
  |non=>cases rx;exact SeqAt.EqAt.same _
  |bl b=>cases rx;exact SeqAt.EqAt.none_bool b
  |int b=>obtain ⟨t,rfl⟩:=rx;exact SeqAt.EqAt.none_int b t
  |str b=>obtain ⟨t,rfl⟩:=rx;exact SeqAt.EqAt.none_str b t
  |_=>exact absurd (show false=true from fx) K1
 |bl a=>
  cases ry
  cases x with
  |non=>cases rx;exact SeqAt.EqAt.bool_none a
  |bl b=>cases rx;exact SeqAt.EqAt.bool_bool a b
  |int b=>obtain ⟨t,rfl⟩:=rx;exact SeqAt.EqAt.bool_int a b t
  |str b=>obtain ⟨t,rfl⟩:=rx;exact SeqAt.EqAt.bool_str a b t
  |_=>exact absurd (show false=true from fx) K1
 |int a=>
  obtain⟨t',rfl⟩:=ry
  cases x with
  |non=>cases rx;exact SeqAt.EqAt.int_none a t'
  |bl b=>cases rx;exact SeqAt.EqAt.int_bool a t' b
  |int b=>obtain ⟨t,rfl⟩:=rx;exact SeqAt.EqAt.int_int a t' b t
  |str b=>obtain ⟨t,rfl⟩:=rx;exact SeqAt.EqAt.int_str a t' b t
  |_=>exact absurd (show false=true from fx) K1
 |str a=>
  obtain⟨t',rfl⟩:=ry
  cases x with
  |non=>cases rx;exact SeqAt.EqAt.str_none a t'
  |bl b=>cases rx;exact SeqAt.EqAt.str_bool a t' b
  |int b=>obtain ⟨t,rfl⟩:=rx;exact SeqAt.EqAt.str_int a t' b t
  |str b=>obtain ⟨t,rfl⟩:=rx;exact SeqAt.EqAt.str_str a t' b t
  |_=>exact absurd (show false=true from fx) K1
 |_=>exact absurd (show false=true from fy) K1
noncomputable def eqU(x:V)(u:Value):Bool:=match u with
 | .none=>eqV .non x
 | .bool b=>eqV (.bl b) x
 | .int i _=>eqV (.int i) x
 | .str z _=>eqV (.str z) x
 |_=>false
theorem zrr{x y:V}(r:RelV y u)(f:zf7 y=true):eqU x u=eqV y x:=by
 cases y with
 |non=>cases r;rfl
 |bl b=>cases r;rfl
 |int i=>obtain ⟨t,rfl⟩:=r;rfl
 |str z=>obtain ⟨t,rfl⟩:=r;rfl
 |_=>exact absurd (show false=true from f) K1
theorem zgh{x:V}:∀{xs:List V} {us:List Value},Vals xs us->xs.all zf7=true->us.any (eqU x)=xs.any λy=>eqV y x
 |_,_, .nil,_=>rfl
 |y::xs,u::us, .cons r t,f=>by
  rw[List.all_cons,X0] at f
  rw[List.any_cons,List.any_cons,zrr r f.1,zgh t f.2]
theorem zeX{A:Around}{s:Shared}{x:V}{v:Value}(rx:RelV x v)(fx:zf7 x=true):∀{xs:List V} {us:List Value},Vals xs us->xs.all zf7=true->∀u∈us,SeqAt.EqAt A s u v (eqU x u)
 |_,_, .nil,_=>λu hu=>by cases hu
 |y::xs,u::us, .cons r t,f=>λu' hu=>by
  rw[List.all_cons,X0] at f
  rcases D1.mp hu with rfl|hu
  ·rw[zrr r f.1];exact zu0 r rx f.1 fx
  ·exact zeX rx fx t f.2 u' hu
noncomputable def inV(x:V)(xs:List V):Bool:=xs.any λy=>eqV y x
noncomputable def rIn(K:W.Frag)(neg:Bool):R2:=λx y H Q=>∃p xs,y= .ref p/\(SqL K H p xs\/SqT K H p xs)/\zf7 x=true/\xs.all zf7=true/\Q (.bl (if neg then !inV x xs else inV x xs)) H
theorem zaW:OpR X (compareOp .In) (rIn X.K false):=by
 intro pins s σ H x y v u Q I rx ry h
 obtain⟨p,xs,rfl,hq,fx,fs,q⟩:=h
 cases ry
 rcases hq with hq|hq
 ·obtain ⟨its,r,pl,hz⟩:=I.list hq
  refine SeqAt.in_listAt (eqU x) pl.isList (λw hw=>zeX rx fx r fs w (by simpa using hw)) ⟨.bl _,H,I,rfl,?_⟩
  rw[show its.toArray.any (eqU x)=its.any (eqU x) by simp,zgh r fs]
  exact q
 ·obtain ⟨its,r,pl,hz⟩:=I.tuple hq
  refine SeqAt.in_tupleAt (eqU x) pl (λw hw=>zeX rx fx r fs w (by simpa using hw)) ⟨.bl _,H,I,rfl,?_⟩
  rw[show its.toArray.any (eqU x)=its.any (eqU x) by simp,zgh r fs]
  exact q
theorem zgk:OpR X (compareOp .NotIn) (rIn X.K true):=by
 intro pins s σ H x y v u Q I rx ry h
 obtain⟨p,xs,rfl,hq,fx,fs,q⟩:=h
 cases ry
 rcases hq with hq|hq
 ·obtain ⟨its,r,pl,hz⟩:=I.list hq
  refine SeqAt.notIn_listAt (eqU x) pl.isList (λw hw=>zeX rx fx r fs w (by simpa using hw)) ⟨.bl _,H,I,rfl,?_⟩
  rw[show its.toArray.any (eqU x)=its.any (eqU x) by simp,zgh r fs]
  exact q
 ·obtain ⟨its,r,pl,hz⟩:=I.tuple hq
  refine SeqAt.notIn_tupleAt (eqU x) pl (λw hw=>zeX rx fx r fs w (by simpa using hw)) ⟨.bl _,H,I,rfl,?_⟩
  rw[show its.toArray.any (eqU x)=its.any (eqU x) by simp,zgh r fs]
  exact q
theorem zkH:CallR X (.builtin "len") (λxs H Q=>∃p ys,xs=[.ref p]/\(SqL X.K H p ys\/SqT X.K H p ys)/\Q (.int ys.length) H):=by
 intro pins s σ H xs us Q I r h
 obtain⟨p,ys,rfl,hq,q⟩:=h
 obtain⟨u,rfl,rx⟩:=zdM r
 cases rx
 have hn:=zfu
 rcases hq with hq|hq
 ·obtain ⟨its,r',pl,hz⟩:=I.list hq
  have hlen:=r'.length
  exact Calls.call_len_list pl.isList (by simp only[E1]<;>lia) ⟨.int ys.length,H,I.tok _,⟨s.toks+1,by rw[E1,hlen]⟩,q⟩
 ·obtain ⟨its,r',pl,hz⟩:=I.tuple hq
  have hlen:=r'.length
  exact len_tuple pl (by simp only[E1]<;>lia) ⟨.int ys.length,H,I.tok _,⟨s.toks+1,by rw[E1,hlen]⟩,q⟩
theorem zkf:CallR X (.builtin "len") (λxs H Q=>∃z,xs=[.str z]/\z.length<=sizeLine/\Q (.int z.length) H):=by
 intro pins s σ H xs us Q I r h
 obtain⟨z,rfl,hz,q⟩:=h
 obtain⟨u,rfl,t,rfl⟩:=zdM r
 have hn:=zfu
 exact len_str () ⟨.int z.length,H,I.tok _,⟨_,rfl⟩,q⟩
theorem CallR.or{f:Value}{r r':List V->Hp->VK->Prop}(h:CallR X f r)(h':CallR X f r'):CallR X f (λxs H Q=>r xs H Q\/r' xs H Q):=by
 intro pins s σ H xs us Q I rs q
 rcases q with q|q
 ·exact h pins s σ H xs us Q I rs q
 ·exact h' pins s σ H xs us Q I rs q
theorem zkV:CallR X (.type "list") (λxs H Q=>∃p ys,xs=[.ref p]/\(SqL X.K H p ys\/SqT X.K H p ys)/\∀l,H l=none->Q (.ref l) (upd H l (.lst ys))):=by
 intro pins s σ H xs us Q I r h
 obtain⟨p,ys,rfl,hq,q⟩:=h
 obtain⟨u,rfl,rx⟩:=zdM r
 cases rx
 have fin:∀(its:List Value),Vals ys its->ys.length<=sizeLine->∀(h':Heap) (c':Nat),(∀b o',s.heap.get? b=some o'->h'.get? b=some o')->
  h'.get? s.heap.objs.size=some {cls:= .type "list",dict:=none,data:= .seq its.toArray c',slots:= #[]}->EP X pins σ Q (.ref s.heap.objs.size) {s with heap:=h'}:=λits r' hz h' c' kp e=>
  ⟨.ref s.heap.objs.size,_,I.laid (t':=s.toks) kp (S0 _) (show ObjOk X.prog X.w _ h' _ (.lst ys)from⟨hz,its,c',r',e⟩),rfl,q _ (I.hok.fresh (S0 _))⟩
 rcases hq with hq|hq
 ·obtain ⟨its,r',pl,hz⟩:=I.list hq
  have hlen:=r'.length
  obtain⟨o,ho,hc,n,hd⟩:=pl.isList
  exact call_list_seq p (.inl rfl) ho hc hd (λh' c' kp e=>fin its r' hz h' c' kp e) (by simp only[E1]<;>lia)
 ·obtain ⟨its,r',pl,hz⟩:=I.tuple hq
  have hlen:=r'.length
  obtain⟨o,ho,hc,n,hd⟩:=pl
  exact call_list_seq p (.inr rfl) ho hc hd (λh' c' kp e=>fin its r' hz h' c' kp e) (by simp only[E1]<;>lia)
theorem zS:CallR X (.type "tuple") (λxs H Q=>∃p ys,xs=[.ref p]/\((SqL X.K H p ys/\∀l,H l=none->Q (.ref l) (upd H l (.tup ys)))\/(SqT X.K H p ys/\Q (.ref p) H))):=by
 intro pins s σ H xs us Q I r h
 obtain⟨p,ys,rfl,h⟩:=h
 obtain⟨u,rfl,rx⟩:=zdM r
 cases rx
 rcases h with⟨hq,q⟩|⟨hq,q⟩
 ·obtain ⟨its,r',pl,hz⟩:=I.list hq
  have hlen:=r'.length
  refine call_tuple_list pl.isList (λh' kp=>?_) (by simp only[E1]<;>lia)
  have I1:Inv X pins σ H {s with heap:=h'}:=I.kept (t':=s.toks) kp
  have I2:Inv X pins σ (upd H h'.objs.size (.tup ys)) {s with heap:=h'.push {cls:= .type "tuple",data:= .seq its.toArray}}:=
   I1.laid (t':=s.toks) (λb o e=>G0 _ e) (S0 _) (show ObjOk X.prog X.w _ _ _ (.tup ys)from⟨hz,its,r',IsTup.new _ _,NoDict.new rfl (Q0 _ rfl)⟩)
  exact⟨.ref h'.objs.size,_,I2,rfl,q _ (I1.hok.fresh (S0 _))⟩
 ·obtain ⟨its,r',pl,hz⟩:=I.tuple hq
  exact call_tuple_same pl ⟨.ref p,H,I,rfl,q⟩
def tyV(K:W.Frag)(T:String)(x:V)(H:Hp):Prop:=match x with
 | .str _=>T="str"
 | .int _=>T="int"
 | .ref p=>(T="list"/\∃xs,SqL K H p xs)\/(T="tuple"/\∃o,K.lookup p=some o/\o.cls= .type "tuple"/\o.dict=none)\/
    (T="dict"/\((∃kvs,H p=some (.dK kvs))\/∃kvs,H p=some (.dT kvs)))\/(T="set"/\∃S n,H p=some (.set S n))\/(T="tuple"/\∃xs,H p=some (.tup xs))
 |_=>False
theorem zuL{T:String}{x:V}{v:Value}(I:Inv X pins σ H s)(r:RelV x v)(ty:tyV X.K T x H):
 s.TypeIs v T/\∀a,v= .ref a->∃ob,s.heap.get? a=some ob/\ob.dict=none:=by
 cases x with
 |str z=>
  obtain⟨t,rfl⟩:=r
  cases(show T="str"from ty)
  exact⟨typeIs_str s z t,λ_ e=>nomatch e⟩
 |int i=>
  obtain⟨t,rfl⟩:=r
  cases(show T="int"from ty)
  exact⟨typeIs_int s i t,λ_ e=>nomatch e⟩
 |ref p=>
  cases r
  rcases ty with⟨rfl,xs,hq⟩|⟨rfl,o,hk,hc,hd⟩|⟨rfl,hk⟩|⟨rfl,S,n,hk⟩|⟨rfl,xs,hk⟩
  ·obtain ⟨its,_,pl,_⟩:=I.list hq
   refine⟨pl.isList.typeIs,λa e=>?_⟩
   cases e
   obtain⟨o,n,e,c,hd,_⟩:=pl
   exact⟨o,e,hd⟩
  ·refine ⟨⟨o,I.kIn p o hk,hc⟩,λa e=>?_⟩
   cases e
   exact⟨o,I.kIn _ o hk,hd⟩
  ·have z:∃o,s.heap.get? p=some o/\o.ExactDict:=by
    rcases hk with⟨kvs,hk⟩|⟨kvs,hk⟩
    ·obtain ⟨_,_,_,_,o,_,_,e,ex,_⟩:=I.hok p _ hk
     exact⟨o,e,ex⟩
    ·obtain ⟨_,_,_,_,o,_,_,e,ex,_⟩:=I.hok p _ hk
     exact⟨o,e,ex⟩
   obtain⟨o,e,ex⟩:=z
   refine⟨⟨o,e,ex.1⟩,λa e2=>?_⟩
   cases e2
   exact⟨o,e,ex.2.1⟩
  ·obtain ⟨o,_,_,_,e,ex,_⟩:=I.hok p _ hk
   refine⟨⟨o,e,ex.1⟩,λa e2=>?_⟩
   cases e2
   exact⟨o,e,ex.2.1⟩
  ·obtain ⟨_,_,_,⟨o,e,c,_⟩,nd⟩:=I.hok p _ hk
   refine⟨⟨o,e,c⟩,λa e2=>?_⟩
   cases e2
   exact⟨o,e,nd o e⟩
 |_=>exact False.elim ty
def tBM(K:W.Frag)(T:String)(r:V->List V->Hp->VK->Prop)(to:TE)(t:TA):TE:=λσ H Q=>to σ H λx H1=>tyV K T x H1/\t σ H1 λxs H2=>r x xs H2 Q
variable{o e:Expr}{to:TE}{t:TA}{T id:String}{r:V->List V->Hp->VK->Prop}
theorem zwc(pa:PlainAttrs T)(slot:Slot T name id)(hty:typeOf (.builtin id)=pure (.type "method_descriptor"))(hm:MtR X id r)(ho:PE X o to)(ha:PA X (e::es) t)
 (hbase:autoParam (attributeBase o name X.env (eval o X.env)=eval o X.env) u4)
 (hfew:autoParam (((backTo cpos (starEach (e::es) X.env)).all (λx=>!x.1)&&(backToKw cpos (keywordEach [] X.env)).all (λx=>x.1.isSome)
   &&decide ((e::es).length+([]:List Keyword).length+(if([]:List Keyword).isEmpty then 0 else 1)<30))=true) u4)
 (hline:autoParam ((apos.endLine==cpos.line)=true) u4) (hs:autoParam (starEach (e::es) X.env=(false,eval e X.env)::starEach es X.env) u4) (hplain:autoParam ((backTo cpos (starEach es X.env)).any (·.1)=false) u4):
 PE X (.Call (.Attribute o name apos) (e::es) [] cpos) (tBM X.K T r to t):=by
 intro pins s σ H Q I h
 refine wpAny_Call_method_late hbase hfew hline rfl (thn (ho pins s σ H _ I h) λv s1 zq=>?_)
 obtain⟨x,H1,I1,r1,ty,q1⟩:=zq
 obtain⟨h1,h2⟩:=zuL I1 r1 ty
 refine⟨T,id,pa,slot,hty,h1,h2,?_⟩
 have hA:=ha cpos pins s1 σ H1 _ I1 q1
 rw[hs] at hA⊢
 refine Calls.callWith_builtin (by show(false||(backTo cpos (starEach es X.env)).any (·.1))=false;rw[hplain]<;>rfl) (Calls.evalArgs_plain ?_)
 refine thn hA λus s2 zq=>?_
 obtain⟨vs,H2,I2,r2,q2⟩:=zq
 exact hm pins s2 σ H2 x vs v us Q I2 r1 r2 q2
end
def MtM(X:Cx)(id:String)(r:V->List V->Hp->VK->Prop):Prop:=
 ∀(pins:List (Addr×Obj)) (s:Shared) (σ:St) (H:Hp) (x:V) (xs:List V) (v:Value) (us:List Value) (Q:VK),Inv X pins σ H s->RelV x v->Vals xs us->r x xs H Q->
  wpAny (model X.prog X.w) X.A (call (.builtin id) (v::us)) (EP X pins σ Q) X.xe s
theorem Vals.one{x:V}{us:List Value}(h:Vals [x] us):∃u,us=[u]/\RelV x u:=by
 cases h with
 |cons r t=>cases t;exact⟨_,rfl,r⟩
theorem Vals.eraseIdx:∀{xs:List V} {us:List Value} (i:Nat),Vals xs us->Vals (xs.eraseIdx i) (us.eraseIdx i)
 |_,_,_, .nil=> .nil
 |_,_,0, .cons _ t=>t
 |_,_,i+1, .cons r t=> .cons r (Vals.eraseIdx i t)
theorem Vals.rep{us:List Value}(h:Vals xs us):∀k:Nat,Vals (List.replicate k xs).flatten (List.replicate k us).flatten
 |0=> .nil
 |k+1=>by
  rw[V2,V2,List.flatten_cons,List.flatten_cons]
  exact Vals.append h (Vals.rep h k)
theorem zjz{α:Type}:∀(l:List α) (i:Nat),(l.eraseIdx i).length<=l.length
 |[],_=>S0 _
 |_::_,0=>Nat.le_succ _
 |_::r,i+1=>Nat.succ_le_succ (zjz r i)
theorem zgr(its:List Value):∀(k:Nat) (acc:List Value),
 List.foldl (λx1 x2=>x1 ++x2) acc.toArray (List.replicate k its.toArray)=(acc ++(List.replicate k its).flatten).toArray
 |0,acc=>`Z3
 |k+1,acc=>by
  have e:acc.toArray ++its.toArray=(acc ++its).toArray:=`Z3
  have e2:(acc ++its)++(List.replicate k its).flatten=acc ++(List.replicate (k+1) its).flatten:=by
   rw[V2,List.flatten_cons,List.append_assoc]
  rw[←e2,←zgr its k (acc ++its),←e,V2,List.foldl_cons]
section
variable{b:Addr}{zs:List V}
theorem Inv.lset{n:Nat}{f:Array Value->Array Value}(I:Inv X pins σ H s)(hH:H l=some (.lst xs))
 (e:s.heap.get? l=some {cls:= .type "list",data:= .seq its.toArray n}) (hf:f its.toArray=its'.toArray) (hv:Vals ys its') (hz:ys.length<=sizeLine):
 Inv X pins σ (upd H l (.lst ys)) {s with heap:=s.heap.update l (Obj.mapSeq f),toks:=t'}:=by
 have q:=IsL.update e f
 rw[hf] at q
 refine I.write (x:=l) (e:=l) (by rw[hH];exact trivial) (.inl rfl) (λb' u hb hu=>(Heap.get?_update_other s.heap (Obj.mapSeq f) (Ne.symm hb)).trans hu) ⟨_,q⟩ ?_
 exact⟨hz,its',_,hv,q⟩
theorem Inv.lnew(I:Inv X pins σ H s)(hv:Vals ys its)(hz:ys.length<=sizeLine):
 Inv X pins σ (upd H s.heap.objs.size (.lst ys)) {s with heap:=s.heap.push {cls:= .type "list",data:= .seq its.toArray},toks:=t'}:=
 I.laid (λ_ _ q=>G0 _ q) (S0 _) ⟨hz,its,0,hv,Q0 _ rfl⟩
theorem Inv.fresh(I:Inv X pins σ H s):H s.heap.objs.size=none:=I.hok.fresh (S0 _)
theorem Inv.lstM(I:Inv X pins σ H s)(hH:H l=some (.lst xs)):xs.length<=sizeLine/\∃(its:List Value) (n:Nat),Vals xs its/\xs.length=its.length/\s.heap.get? l=some {cls:= .type "list",data:= .seq its.toArray n}:=by
 obtain⟨z,its,n,r,e⟩:=I.hok l _ hH
 exact⟨z,its,n,r,r.length,e⟩
theorem zlx{n:Nat}(h:n<=sizeLine):Builtin.List.listTooLong n=false:=by
 unfold Builtin.List.listTooLong
 exact U0 ()
end
def ztI:V->List V->Hp->VK->Prop:=λx vs H Q=>∃l xs y,x= .ref l/\vs=[y]/\H l=some (.lst xs)/\xs.length<sizeLine/\Q .non (upd H l (.lst (xs ++ [y])))
theorem zbQ:MtM X "list.append" ztI:=by
 intro pins s σ H x vs v us Q I rx rv h
 obtain⟨l,xs,y,rfl,rfl,hH,hz,q⟩:=h
 cases rx
 obtain⟨u,rfl,ru⟩:=rv.one
 obtain⟨z,its,n,r,hl,e⟩:=I.lstM hH
 refine call_meets F.slot_list_append ⟨_,e,rfl⟩ F.entry_list_append (F.args_list_append_2 _ _) (PySem.list_append l its.toArray n u (by rw[E1];lia)) ⟨e,?_⟩
 refine⟨.non,_,I.lset (its':=its ++ [u]) hH e `Z3 (r.append (.cons ru .nil)) ?_,rfl,q⟩
 rw[b0,List.length_singleton]
 lia
def ztB:V->List V->Hp->VK->Prop:=λx vs H Q=>∃l b xs zs,x= .ref l/\vs=[.ref b]/\H l=some (.lst xs)/\H b=some (.lst zs)/\xs.length+zs.length<=sizeLine/\Q .non (upd H l (.lst (xs ++zs)))
theorem zgE:MtM X "list.extend" ztB:=by
 intro pins s σ H x vs v us Q I rx rv h
 obtain⟨l,b,xs,zs,rfl,rfl,hH,hB,hz,q⟩:=h
 cases rx
 obtain⟨u,rfl,ru⟩:=rv.one
 cases ru
 obtain⟨z,its,n,r,hl,e⟩:=I.lstM hH
 obtain⟨z2,its2,n2,r2,hl2,e2⟩:=I.lstM hB
 have hsz:its.toArray.size+its2.toArray.size<=sizeLine:=by rw[E1,E1];lia
 have hlong:¬(!its.toArray.isEmpty&&Builtin.List.listTooLong (its.toArray.size+its2.toArray.size))=true:=by
  rw[zlx hsz,Bool.and_false]
  exact K1
 refine call_meets F.slot_list_extend ⟨_,e,rfl⟩ F.entry_list_extend (F.args_list_extend_2 _ _)
  (AutoSeq1.list_extend_list_list_0 l its.toArray n b its2.toArray n2 hlong (by rw[E1];lia) ()) ⟨e,e2,?_⟩
 refine⟨.non,_,I.lset (its':=its ++its2) hH e `Z3 (r.append r2) ?_,rfl,q⟩
 rw[b0]
 lia
def zvd:V->List V->Hp->VK->Prop:=λx vs H Q=>∃l xs i k y,x= .ref l/\vs=[.int i]/\H l=some (.lst xs)/\-(2^63)<=i/\i<2^63/\seqIndex? i xs.length=some k/\xs[k]?=some y/\Q y (upd H l (.lst (xs.eraseIdx k)))
theorem zsb:MtM X "list.pop" zvd:=by
 intro pins s σ H x vs v us Q I rx rv h
 obtain⟨l,xs,i,k,y,rfl,rfl,hH,h1,h2,hk,hy,q⟩:=h
 cases rx
 obtain⟨u,rfl,ru⟩:=rv.one
 obtain⟨t,rfl⟩:=ru
 obtain⟨z,its,n,r,hl,e⟩:=I.lstM hH
 obtain⟨w,hw,rw'⟩:=r.get hy
 refine call_meets F.slot_list_pop ⟨_,e,rfl⟩ F.entry_list_pop (F.args_list_pop_2 _ _)
  (MeetsSeq.list_pop_at l its.toArray n i t k w (fitsIndex_both h1 h2) (by rw[E1,←hl];exact hk) (by rw[←Array.getElem?_toList];exact hw) (by rw[E1];lia)) ⟨e,?_⟩
 refine⟨y,_,I.lset (its':=its.eraseIdx k) hH e ?_ (r.eraseIdx k) ?_,rw',q⟩
 ·show its.toArray.eraseIdxIfInBounds k=(its.eraseIdx k).toArray
  rw[List.eraseIdxIfInBounds_toArray]
 ·have:=zjz xs k
  lia
noncomputable def zuf:R2:=λx y H Q=>∃l b xs zs,x= .ref l/\y= .ref b/\H l=some (.lst xs)/\H b=some (.lst zs)/\xs.length+zs.length<=sizeLine/\∀p,H p=none->Q (.ref p) (upd H p (.lst (xs ++zs)))
theorem zd0:OpR X (binaryOp .Add) zuf:=by
 intro pins s σ H x y v u Q I rx ry h
 obtain⟨l,b,xs,zs,rfl,rfl,hH,hB,hz,q⟩:=h
 cases rx
 cases ry
 obtain⟨z,its,n,r,hl,e⟩:=I.lstM hH
 obtain⟨z2,its2,n2,r2,hl2,e2⟩:=I.lstM hB
 refine P.add_list e e2 ?_ (by rw[E1,E1];lia)
 have ea:its.toArray ++its2.toArray=(its ++its2).toArray:=`Z3
 rw[ea]
 exact⟨.ref _,_,I.lnew (t':=s.toks) (r.append r2) (by rw[b0];lia),rfl,q _ I.fresh⟩
noncomputable def zu3:R2:=λx y H Q=>∃l k xs,x= .ref l/\y= .int k/\H l=some (.lst xs)/\-(2^63)<=k/\k<2^63/\xs.length*k.toNat<=sizeLine/\
 ∀p,H p=none->Q (.ref p) (upd H p (.lst (List.replicate k.toNat xs).flatten))
theorem zkg(xs:List α)(k:Nat):(List.replicate k xs).flatten.length=k*xs.length:=by
 induction k with
 |zero=>simp
 |succ k ih=>rw[V2,List.flatten_cons,b0,ih,Nat.succ_mul,Nat.add_comm]
theorem zqT:OpR X (binaryOp .Mult) zu3:=by
 intro pins s σ H x y v u Q I rx ry h
 obtain⟨l,k,xs,rfl,rfl,hH,h1,h2,hz,q⟩:=h
 cases rx
 obtain⟨t,rfl⟩:=ry
 obtain⟨z,its,n,r,hl,e⟩:=I.lstM hH
 have hlen:its.toArray.size*k.toNat<=sizeLine:=by rw[E1,←hl];exact hz
 have hcap:¬its.toArray.size*k.toNat>(2^63 -1)/8:=by
  have:(sizeLine:Nat)<=(2^63 -1)/8:=⋯
  lia
 have hfit:¬(!Builtin.List.listFitsIndex k)=true:=by
  rw[fitsIndex_both h1 h2]
  exact K1
 have hlong:¬Builtin.List.listTooLong (its.toArray.size*k.toNat)=true:=by
  rw[zlx hlen]
  exact K1
 have hnew:List.foldl (λx1 x2=>x1 ++x2) #[] (List.replicate (if its.toArray.isEmpty=true then 0 else k.toNat) its.toArray)=(List.replicate k.toNat its).flatten.toArray:=by
  have f0:∀m:Nat,List.foldl (λx1 x2=>x1 ++x2) #[] (List.replicate m its.toArray)=(List.replicate m its).flatten.toArray:=λm=>by
   have:=zgr its m []
   rw[List.nil_append] at this
   exact this
  rw[f0]
  cases its with
  |nil=>simp
  |cons a r'=>rw[N0 `Z3]
 refine wpAny_binaryOp_repeat_ref (T:="list") (U:="int") ⋯ ⟨_,e,rfl⟩ (λs'=>typeIs_int s' k t) noFill_list_mul F.fills_int_mul F.slot_int_rmul repeat_list F.slot_int_index.lookup
  (call_meets F.slot_int_rmul (typeIs_int s k t) F.entry_int_rmul (F.args_int_rmul_2 _ _) (int___rmul___int_list k t l its.toArray n)
    ⟨e,rfl,⟨_,e,rfl⟩,call_meets F.slot_list_mul ⟨_,e,rfl⟩ F.entry_list_mul (F.args_list_mul_2 _ _) (AutoListH.list___mul___list_int_3 l its.toArray n k t hfit hcap hlong) ⟨e,?_⟩⟩)
 rw[hnew]
 exact⟨.ref _,_,I.lnew (t':=s.toks) (r.rep k.toNat) (by rw[zkg,Nat.mul_comm];exact hz),rfl,q _ I.fresh⟩
section
set_option maxRecDepth 100000 in
end
section
open PySem.W PySem.Calls
theorem zhr{P:Params}{h:Heap}:∀(ns:List Int) (vs:List Value),WellAll P h vs (ns.map WData.int)->IntsAre vs ns:=by
 intro ns
 induction ns with
 |nil=>
  intro vs w
  rw[List.map_nil] at w
  cases w
  exact .nil
 |cons n ns ih=>
  intro vs w
  rw[E2] at w
  cases w with
  |cons a b=>
   cases a
   exact .cons _ _ (ih _ b)
theorem zpt{l:OpenLaw}{n:Nat}(hn:l.most=some n){P:Params}{h:Heap}{args:List WData}{vals:List Value}
 (hpre:l.row.toRowW.claim.pre args=true) (hwl:WellAll P h vals args):
 ∃a vs ns,vals=[Value.ref a]/\args=[WData.list (ns.map WData.int)]/\h.get? a=some {cls:= .type "list",data:= .seq vs.toArray}/\IntsAre vs ns/\ns.length<=n:=by
 have hsh:WShape.hasAll [] args [.list .int]=true:=(pre_splitW hpre).1
 have hc:l.pre.holds [] {args:=args}=true:=(pre_splitW hpre).2
 obtain⟨d,r,rfl,h1,h2⟩:=hasAllW_cons hsh
 obtain rfl:=hasAllW_nil h2
 obtain⟨xs,rfl,h3⟩:=hasW_list h1
 obtain⟨ns,rfl⟩:=items_int h3
 have hlen:ns.length<=n:=by
  unfold OpenLaw.pre at hc
  have h4:(WTm.not (.lt (.lit (.int (n:Int))) (.len (.arg 0)))).holds [] {args:=[.list (ns.map .int)]}=true:=by
   have h4:=(holds_andW hc).1
   rw[hn] at h4
   exact h4
  have h5:=condW_of h4 (w_not (w_lt w_lit (w_len_list (w_arg rfl))))
  rw[D0] at h5
  refine Nat.le_of_not_lt λq=>?_
  have q':(n:Int)<((ns.length:Nat):Int):=()
  first
   |(rw[P0 q'] at h5;exact absurd h5 ⋯)
   |(simp at h5;lia)
 cases hwl with
 |cons w1 w2=>
  cases w2
  cases w1 with
  |list ho hall=>exact ⟨_,_,ns,rfl,rfl,ho,zhr ns _ hall,hlen⟩
theorem zpY(l:OpenLaw)(args:List WData):l.row.toRowW.claim.post args (.bool true) args=true:=
 postW_of (r:=l.row.toRowW) (X:=(true==true))
  (show WShape.has [] (.bool true) .bool=true by first|rfl|decide|simp[WShape.has,WShape.arms,WShape.armsAll])
  (show(WTm.eq .res (.lit (.bool true))).value [] {args:=args,res:=some (.bool true),after:=args}=some (.bool (true==true))from w_eq_bool (w_res rfl) w_lit) rfl
theorem attach_call{l:OpenLaw}{n:Nat}{q:Program}{d:DefRec}
 (hn:l.most=some n) (hdf:d.params.defaults=[])
 (call:∀(w:World) (s₀ s₁:Shared) (mg mb:Str->Option Value) (fa:Addr) (o:Obj) (pm cd doc:Value) (a:Addr) (vs:List Value) (ns:List Int),
   Ground q loose [] XP w s₀ mg mb s₁.heap->YP w s₁.heap->
   s₁.heap.get? fa=some o->o.data= .func (docDef d.name d.params d.body d.scope pm cd doc)->s₁.heap.CodeRec cd d.name->mg d.name=some (.ref fa)->
   s₁.heap.get? a=some {cls:= .type "list",data:= .seq vs.toArray}->IntsAre vs ns->ns.length<=n->s₁.gens= #[]->
   codeAny (model l.prog w) callerA (.call (.ref fa) ⟨[.ref a],[]⟩) (λr s'=>r= .ok (.ret (.bool true))/\OldK s₁.heap s'.heap/\s'.os=s₁.os/\AllBare s'.gens) s₁):
 WalkO q loose XP YP l.row.toRowW d [] (λf vs=>PySem.call f vs):=by
 intro w s₀ s₁ mg mb G Y fa o pm cd doc dV kV ho hd hcd hD hmg hg args vals as hpre hlay hrd hwl hlo
 obtain rfl:dV= .none:=Dflts.none hD hdf
 obtain rfl:kV= .none:=Dflts.noKw hD
 obtain⟨a,vs,ns,rfl,rfl,hobj,hints,hlen⟩:=zpt hn hpre hwl
 refine enter_call (codeAny_mono (call w s₀ s₁ mg mb fa o pm cd doc a vs ns G Y ho (fd_plain hd) hcd hmg hobj hints hlen hg) λr s' hq=>?_)
 obtain⟨rfl,h2,h3,h4⟩:=hq
 exact⟨.inl ⟨.bool true, .bool true,[],rfl,λ_=>rfl, .bool true,zpY l _,λ_=>⟨List.Pairwise.nil,λ_ hm=>(nomatch hm)⟩⟩,h2,h3,h4⟩
section
variable{K:Frag}
end
end
theorem zjv:∀{vs:List Value} {ns:List Int},IntsAre vs ns->Vals (ns.map V.int) vs
 |_,_, .nil=> .nil
 |_,_, .cons n t h=> .cons ⟨t,rfl⟩ (zjv h)
def zve(H:Hp):Prop:=∀b,H b=none\/∃o xs,H b=some (.frz o (.lst xs))
theorem zqS{mg mb:Str->Option Value}{k:Nat}{s₁:Shared}{vs:List Value}{ns:List Int}
 (KX:K.In s₁.heap) (hns:s₁.heap.Ns mainGlobals mg) (hb:s₁.heap.Ns builtinsNs mb) (hbb:∀x:Str,x≠"__name__"->mb x=bootBuiltins x) (hlim:s₁.heap.NoLimit) (hg:s₁.gens= #[])
 (ha:s₁.heap.get? a=some {cls:= .type "list",data:= .seq vs.toArray}) (hi:IntsAre vs ns) (hl:ns.length<=sizeLine) (hr:Room k callerA)
 (F:∀base:Heap,K.In base->base.Ns mainGlobals mg->FnOk P w K mg base CX k fa fd [x] sp) (hbind:∀(s:Shared) (u:Value),BindsTo s fd ⟨[u],[]⟩ [(x,u)])
 (hsp:∀H:Hp,zve H->SqL K H a (ns.map V.int)->sp [.ref a] H (λv _=>v= .bl true) λ_ _ _=>False)
 (hCX:∀H e s',CX [] H s₁ (λ_ _ _=>False) e s'->False):
 codeAny (model P w) callerA (.call (.ref fa) ⟨[.ref a],[]⟩) (λr s'=>r= .ok (.ret (.bool true))/\OldK s₁.heap s'.heap/\s'.os=s₁.os/\AllBare s'.gens) s₁:=by
 have rv:=zjv hi
 have lenV:=hi.length
 have core:∀H:Hp,zve H->SqL K H a (ns.map V.int)->HOk P w H s₁.heap->(∀b,H b≠none->b=a)->(H a≠none->K.lookup a=none)->
  codeAny (model P w) callerA (.call (.ref fa) ⟨[.ref a],[]⟩) (λr s'=>r= .ok (.ret (.bool true))/\OldK s₁.heap s'.heap/\s'.os=s₁.os/\AllBare s'.gens) s₁:=by
  intro H hO hS hok hA hK
  have base_of:∀{b:Addr} {o:Obj},s₁.heap.get? b=some o->H b=none->(zkF s₁.heap H).get? b=some o:=λe n=>zrZ e n
  have noA:∀{b:Addr} {o:Obj} {es:Array DictEntry} {ep:Nat},s₁.heap.get? b=some o->o.data= .dict es ep->H b=none:=λ{b o es ep} e d=>by
   cases q:H b with
   |none=>rfl
   |some u=>
    have e':b=a:=hA b (by rw[q];simp)
    subst e'
    rw[ha] at e;cases e
    have d':Data.seq vs.toArray _=Data.dict es ep:=d
    cases d'
  have nsK:∀{b:Addr} {m:Str->Option Value},s₁.heap.Ns b m->(zkF s₁.heap H).Ns b m:=λ{b m} ⟨o,es,ep,e,d,r⟩=>⟨o,es,ep,base_of e (noA e d),d,r⟩
  have hKb:K.In (zkF s₁.heap H):=λb o e=>base_of (KX b o e) (by
   cases q:H b with
   |none=>rfl
   |some u=>
    have e':b=a:=hA b (by rw[q];simp)
    subst e'
    rw[hK (by rw[q];simp)] at e;cases e)
  have hM:Mod K mg (zkF s₁.heap H):=⟨hKb,nsK hns,⟨mb,nsK hb,hbb⟩,let⟨mc,h1,h2⟩:=hlim;⟨mc,nsK h1,h2⟩⟩
  have e0:Env0 P w K mg (zkF s₁.heap H) callerA [] s₁ H:=⟨rfl,hM,λb o e=>zsK e,Nat.le_of_eq (zph _ _),trivial,λb hb=>absurd (show b∈([]:List Addr)from hb) `Z3,hok, .of_eq hg⟩
  refine codeAny_mono ((F _ hKb (nsK hns)).run callerA [] s₁ H ⟨[.ref a],[]⟩ [.ref a] [.ref a] _ _ hr e0 (hbind s₁ (.ref a)) (.cons rfl .nil) (hsp H hO hS)) λr s' h=>?_
  cases r with
  |error e=>exact (hCX H e s' h).elim
  |ok fl=>
   cases fl with
   |next=>exact False.elim h
   |brk=>exact False.elim h
   |cont=>exact False.elim h
   |ret u=>
    obtain⟨v,H',os,bare,un,hok',r',q⟩:=h
    have q':v= .bl true:=q
    subst q'
    obtain rfl:u=Value.bool true:=r'
    refine⟨rfl,OldK.of_keep λb o e=>?_,os,bare⟩
    cases q:H b with
    |none=>exact un.keep b o e q (by intro z;exact absurd (show b∈([]:List Addr)from z) `Z3) `Z3
    |some u=>
     rcases hO b with z|⟨ob,xs,z⟩
     ·rw[q] at z;cases z
     ·have z2:=un.frzs b ob _ z
      obtain⟨e1,_⟩:=hok b _ z
      obtain⟨e2,_⟩:=hok' b _ z2
      rw[e] at e1;cases e1
      exact e2
 cases hk:K.lookup a with
 |some o=>
  have e:=KX a o hk
  rw[ha] at e
  cases e
  refine core (λ_=>none) (λ_=> .inl rfl) (.inr ⟨_,vs.toArray,_,hk,rfl,rfl,rfl,by rw[E1,lenV];exact hl,by simpa using rv⟩) (λb u z=>by have z':(none:Option HO)=some u:=z;cases z') (λb z=>absurd rfl z) λz=>absurd rfl z
 |none=>
  refine core (λb=>if b=a then some (.frz {cls:= .type "list",data:= .seq vs.toArray} (.lst (ns.map V.int)))else none) (λb=>?_) (.inl (.inr ⟨{cls:= .type "list",data:= .seq vs.toArray},R0 rfl⟩)) (λb u z=>?_) (λb z=>?_) λ_=>hk
  ·by_cases hb:b=a
   ·exact .inr ⟨_,_,R0 hb⟩
   ·exact .inl (N0 hb)
  ·by_cases hb:b=a
   ·have z':=(R0 hb).symm.trans z
    cases z'
    subst hb
    exact⟨ha,by rw[D0];exact hl,vs,_,rv,ha⟩
   ·have z':=(N0 hb).symm.trans z
    cases z'
  ·by_cases hb:b=a
   ·exact hb
   ·exact absurd (N0 hb) z
theorem walk_of{l:W.OpenLaw}{n k:Nat}{q:Program}{d:DefRec}{K:Params->W.Frag}{CX:World->CXT}{sp:World->Sp}
 (hn:l.most=some n) (hn2:n<=sizeLine) (hdf:d.params.defaults=[]) (hr:Room k callerA)
 (hY:∀(w:World) (h:Heap),YP w h->(K w.params).In h)
 (F:∀(w:World) (mg:Str->Option Value) (fa:Addr) (h:Heap),(K w.params).In h->h.Ns mainGlobals mg->mg d.name=some (.ref fa)->
   ∃fd:FuncData,(∀(s:Shared) (u:Value),BindsTo s fd ⟨[u],[]⟩ [(x,u)])/\
    ∀base:Heap,(K w.params).In base->base.Ns mainGlobals mg->FnOk l.prog w (K w.params) mg base (CX w) k fa fd [x] (sp w))
 (hsp:∀(w:World) (H:Hp) (a:Addr) (ns:List Int),ns.length<=n->zve H->SqL (K w.params) H a (ns.map V.int)->sp w [.ref a] H (λv _=>v= .bl true) λ_ _ _=>False)
 (hCX:∀(w:World) (H:Hp) (s:Shared) (e:Value) (s':Shared),CX w [] H s (λ_ _ _=>False) e s'->False):
 W.WalkO q loose XP YP l.row.toRowW d [] (λf vs=>PySem.call f vs):=by
 refine attach_call hn hdf λw s₀ s₁ mg mb fa o pm cd doc a vs ns G Y ho hd hcd hmg hobj hints hlen hg=>?_
 have KX:=hY w _ Y
 obtain⟨fd,hb,hF⟩:=F w mg fa _ KX G.T.g hmg
 exact zqS KX G.T.g G.T.b G.T.builtins G.T.nolimit hg hobj hints (Y1 hlen hn2) hr hF hb (λH hO hS=>hsp w H a ns hlen hO hS) λH e s'=>hCX w H s₁ e s'
noncomputable abbrev CX0:CXT:=λ_ _ _ _ _ _=>False
noncomputable abbrev E0:XK:=λ_ _ _=>False
theorem zk:zcn CX0 X E0:=λ_ _ _ _ _ _ _ h=>h.elim
structure Fun(K:W.Frag)(x qual:Str)(st:Stmt)(f:Addr)(fd:FuncData):Prop where
 ex:∃(oc:Value) (od:Option Addr) (kV doc pm:Value) (an:Option Addr) (cdv ct:Value) (osl:Array (Option Value)),
  fd=W.fnOf x qual (zar st) (zaa st) (zd st) .none kV doc pm an cdv ct/\K.lookup f=some ⟨oc,od, .func fd,osl⟩/\W.codeIn K cdv qual=true
 kp:W.keepIn K (.ref f)=true
section
variable{mg:Str->Option Value}{base:Heap}
theorem Fun.ok{st:Stmt}{ps:List Str}{k:Nat}(F:Fun K x qual st f fd)(S:FnScope N ps (zd st))(len:∀vs H Q E,sp vs H Q E->vs.length=ps.length)
 (hbody:∀(cdv:Value) (A:Around) (outer:List Env) (s:Shared) (H:Hp) (vs:List V) (Q:VK) (E:XK),Room k (A.deeper (envOfC qual (zd st) s.heap.objs.size f cdv))->sp vs H Q E->
   ∃t,PSs (zjs CX0 P w K mg base N qual (zd st) f cdv A outer s H E).nox (zaa st) t/\t {nx:=λ_ H'=>Q .non H',rt:=Q} (zev N vs) H):FnOk P w K mg base CX0 (k+1) f fd ps sp:=by
 obtain⟨oc,od,kV,doc,pm,an,cdv,ct,osl,rfl,lk,hcd⟩:=F.ex
 refine zrs lk hcd S len λA outer s H vs Q E hr hsp=>?_
 obtain⟨t,h,q⟩:=hbody cdv A outer s H vs Q E hr hsp
 exact⟨t,h.nox,q⟩
theorem Fun.binds{st:Stmt}{ps:List Str}(F:Fun K x qual st f fd)
 (h:∀(kV doc pm:Value) (an:Option Addr) (cdv ct:Value) (us:List Value),us.length=ps.length->bindArgs (W.fnOf x qual (zar st) (zaa st) (zd st) .none kV doc pm an cdv ct) ⟨us,[]⟩=pure (ps.zip us)):Binds K fd ps []:=by
 obtain⟨oc,od,kV,doc,pm,an,cdv,ct,osl,rfl,lk,hcd⟩:=F.ex
 exact .all (h kV doc pm an cdv ct)
theorem zke{st:Stmt}{an:Option Addr}{kV:Value}(l:K.lookup f=some ⟨oc,od, .func (W.fnOf x qual (zar st) (zaa st) (zd st) .none kV doc pm an cdv ct),osl⟩)
 (c:W.codeIn K cdv qual=true) (k:W.keepIn K (.ref f)=true):Fun K x qual st f (W.fnOf x qual (zar st) (zaa st) (zd st) .none kV doc pm an cdv ct):=⟨⟨oc,od,kV,doc,pm,an,cdv,ct,osl,rfl,l,c⟩,k⟩
end
theorem zp{n:Nat}(h:n<=1000):n<sizeLine:=Nat.lt_of_le_of_lt h ⋯
theorem zat{c A B:Prop}[Decidable c](h1:c->A)(h2:¬c->B):if c then A else B:=by
 by_cases h:c
 ·rw[R0 h]
  exact h1 h
 ·rw[N0 h]
  exact h2 h
def Same(H H':Hp):Prop:=∀b o,H b=some o->H' b=some o
theorem Same.refl(H:Hp):Same H H:=λ_ _ h=>h
theorem Same.trans(a:Same H H1)(b:Same H1 H2):Same H H2:=λc o h=>b c o (a c o h)
theorem Same.free(e:Same H H')(h:H' l=Option.none):H l=Option.none:=by
 cases q:H l with
 |none=>rfl
 |some o=>
  rw[e l o q] at h
  cases h
theorem Same.seq(e:Same H H')(h:SqL K H a xs):SqL K H' a xs:=by
 rcases h with(h|⟨o,h⟩)|h
 ·exact .inl (.inl (e _ _ h))
 ·exact .inl (.inr ⟨o,e _ _ h⟩)
 ·exact .inr h
noncomputable def zH(X:Cx)(N':List Str)(scope:Scope)(cl:List (Str×Addr))(C:Addr)(s₀:Shared)(H₀:Hp)(fp:List Addr):Cx:=
 {prog:=X.prog,w:=X.w,K:=X.K,mg:=X.mg,base:=X.base,A:=X.A,N:=N',s₀:=s₀,H₀:=H₀,env:=compEnvC scope cl C X.env,outer:=X.stack,stack:=X.stack,ex:=fp,fn:=λ_=>false,
  calm:=X.calm,pn:=[],xe:=λ_ _=>False}
structure CompOk(N:List Str)(osc:Scope)(N':List Str)(src:List (Option Nat))(scope:Scope):Prop where
 kind:scope.kind= .function
 nocell:∀y∈scope.names,y.2≠ .cell
 loc:∀y∈scope.names,y.2= .local->scope.names.lookup y.1=some .local
 frees:∀y∈scope.names,y.2= .free->osc.names.lookup y.1=some .cell\/osc.names.lookup y.1=some .free
 nd:N'.Nodup
 len:src.length=N'.length
 src:∀q∈src.zip N',∀j∈q.1.toList,N[j]?=some q.2/\scope.names.lookup q.2=some .free
theorem zfH{env:Env}:∀(l:List (Str×NameKind)) (acc:List (Str×Addr)),(∀x c,acc.lookup x=some c->env.cells.lookup x=some c)->(∀y∈l,y.2= .free->∃c,env.cells.lookup y.1=some c)->
 ∃cl,(forIn l acc λ(x:Str×NameKind) (r:List (Str×Addr))=>(if(x.2==NameKind.free)=true then(cellOf env x.1>>=λa=>pure (ForInStep.yield ((x.1,a)::r)))else pure (ForInStep.yield r):Sem (ForInStep (List (Str×Addr)))))=pure cl/\
  (∀x c,cl.lookup x=some c->env.cells.lookup x=some c)/\(∀y∈l,y.2= .free->∃c,cl.lookup y.1=some c)/\(∀x c,acc.lookup x=some c->∃d,cl.lookup x=some d)
 |[],acc,h,_=>⟨acc,rfl,h,λ_ z=>(nomatch z),λx c e=>⟨c,e⟩⟩
 |(n,k)::l,acc,h,hf=>by
  by_cases hk:k= .free
  ·subst hk
   obtain⟨c,hc⟩:=hf (n, .free) N1 rfl
   have hacc:∀x d,((n,c)::acc).lookup x=some d->env.cells.lookup x=some d:=λx d e=>by
    rw[List.lookup_cons] at e
    cases hx:x==n with
    |true=>
     rw[hx] at e
     have e1:x=n:=by simpa using hx
     have e2:c=d:=by simpa using e
     rw[e1,←e2];exact hc
    |false=>
     rw[hx] at e
     exact h x d e
   obtain⟨cl,e1,e2,e3,e4⟩:=zfH l ((n,c)::acc) hacc λy hy=>hf y (F1 _ hy)
   refine⟨cl,?_,e2,λy hy hyf=>?_,λx d e=>?_⟩
   ·rw[List.forIn_cons]
    have:cellOf env n=pure c:=by unfold cellOf;rw[hc]
    simp only[beq_self_eq_true,if_true,this,pure_bind]
    exact e1
   ·rcases D1.mp hy with rfl|hy
    ·exact e4 n c `Z3
    ·exact e3 y hy hyf
   ·by_cases hx:x=n
    ·subst hx;exact e4 x c `Z3
    ·have hb:(x==n)=false:=by simpa using hx
     exact e4 x d (by rw[List.lookup_cons,hb];exact e)
  ·obtain ⟨cl,e1,e2,e3,e4⟩:=zfH l acc h λy hy=>hf y (F1 _ hy)
   refine⟨cl,?_,e2,λy hy hyf=>?_,e4⟩
   ·rw[List.forIn_cons]
    have hb:(k==NameKind.free)=false:=by simpa using hk
    simp only[hb,P3,if_false,pure_bind]
    exact e1
   ·rcases D1.mp hy with rfl|hy
    ·exact absurd hyf hk
    ·exact e3 y hy hyf
theorem zfv(hf:∀y∈scope.names,y.2= .free->∃c,env.cells.lookup y.1=some c):
 ∃cl,closureFor scope env=pure cl/\(∀x c,cl.lookup x=some c->env.cells.lookup x=some c)/\∀y∈scope.names,y.2= .free->∃c,cl.lookup y.1=some c:=by
 obtain⟨cl,e1,e2,e3,_⟩:=zfH (env:=env) scope.names [] (λ_ _ z=>by simp at z) hf
 refine⟨cl,?_,e2,e3⟩
 unfold closureFor
 refine Eq.trans ?_ (E3 (λt=>t>>=λc=>(pure c:Sem (List (Str×Addr)))) e1)
 first
  |rfl
  |(congr 1)
theorem zky:∀{x:Str},(relabel scope env).names.lookup x=some .cell\/(relabel scope env).names.lookup x=some .free->(∀y∈scope.names,y.2≠ .cell)->(x,NameKind.free)∈scope.names:=by
 intro x h hc
 have key:∀(l:List (Str×NameKind)),(∀y∈l,y.2≠ .cell)->((l.map λ(n,k)=>if (k==NameKind.free&&env.scope.kind== .function&&env.kindOf n==some .cell)then(n,NameKind.cell)else(n,k)).lookup x=some .cell\/
  (l.map λ(n,k)=>if (k==NameKind.free&&env.scope.kind== .function&&env.kindOf n==some .cell)then(n,NameKind.cell)else(n,k)).lookup x=some .free)->(x,NameKind.free)∈l:=by
  intro l
  induction l with
  |nil=>intro _ h;simp at h
  |cons y l ih=>
   obtain⟨n,k⟩:=y
   intro hc h
   have hc':∀y∈l,y.2≠ .cell:=λy hy=>hc y (F1 _ hy)
   have hk:k≠ .cell:=hc (n,k) N1
   rw[E2] at h
   by_cases hx:x=n
   ·subst hx
    by_cases hf:k= .free
    ·subst hf;exact N1
    ·exfalso
     have hb:(k==NameKind.free)=false:=by simpa using hf
     simp only[hb,Bool.false_and,P3,if_false,List.lookup_cons,beq_self_eq_true] at h
     rcases h with h|h
     ·exact hk (U1 h)
     ·exact hf (U1 h)
   ·refine F1 _ (ih hc' ?_)
    have hb:(x==n)=false:=by simpa using hx
    by_cases hq:(k==NameKind.free&&env.scope.kind== .function&&env.kindOf n==some .cell)=true
    ·simp only[hq,if_true,List.lookup_cons,hb] at h
     exact h
    ·simp only[hq,P3,if_false,List.lookup_cons,hb] at h
     exact h
 exact key _ hc h
theorem zla(h:scope.names.lookup x=some .free):(relabel scope env).names.lookup x=some .cell\/(relabel scope env).names.lookup x=some .free:=by
 have key:∀(l:List (Str×NameKind)),l.lookup x=some .free->((l.map λ(n,k)=>if (k==NameKind.free&&env.scope.kind== .function&&env.kindOf n==some .cell)then(n,NameKind.cell)else(n,k)).lookup x=some .cell\/
  (l.map λ(n,k)=>if (k==NameKind.free&&env.scope.kind== .function&&env.kindOf n==some .cell)then(n,NameKind.cell)else(n,k)).lookup x=some .free):=by
  intro l
  induction l with
  |nil=>intro h;simp at h
  |cons y l ih=>
   obtain⟨n,k⟩:=y
   intro h
   rw[E2]
   rw[List.lookup_cons] at h
   cases hx:x==n with
   |true=>
    rw[hx] at h
    have hk:k= .free:=U1 h
    subst hk
    by_cases hq:(NameKind.free==NameKind.free&&env.scope.kind== .function&&env.kindOf n==some .cell)=true
    ·simp only[hq,if_true,List.lookup_cons,hx];exact .inl trivial
    ·simp only[hq,P3,if_false,List.lookup_cons,hx];exact .inr trivial
   |false=>
    rw[hx] at h
    by_cases hq:(k==NameKind.free&&env.scope.kind== .function&&env.kindOf n==some .cell)=true
    ·simp only[hq,if_true,List.lookup_cons,hx];exact ih h
    ·simp only[hq,P3,if_false,List.lookup_cons,hx];exact ih h
 exact key _ h
noncomputable def zfA(src:List (Option Nat))(σ:St):St:=src.map λo=>o.bind λj=>(σ[j]?).join
section
variable{src:List (Option Nat)}{cl:List (Str×Addr)}
theorem zfD{h₁:Heap}{tk:Nat}(I:Inv X pins σ H s)(hf:∀b∈fp,zfL X pins H b)(hlt:∀b∈fp,b<s.heap.objs.size)(ok:CompOk X.N osc N' src scope)(hsc:X.env.scope=osc)
 (c1:∀x c,cl.lookup x=some c->X.env.cells.lookup x=some c) (c2:∀y∈scope.names,y.2= .free->∃c,cl.lookup y.1=some c)
 (hn:h₁.Ns s.heap.objs.size λ_=>none) (hk:∀b o,s.heap.get? b=some o->h₁.get? b=some o):
 Inv (zH X N' scope cl s.heap.objs.size s H fp) [] (zfA src σ) H {s with heap:=h₁,toks:=tk}:=by
 have hkind:(relabel scope X.env).kind= .function:=ok.kind
 refine⟨⟨I.ok.mod,hkind,I.ok.glob,I.ok.blt,S0 _,λx y c h1 h2=>I.ok.inj x y c (c1 x c h1) (c1 y c h2),λx hx=>?_,λx c z _=>(by cases z),I.ok.hd,I.ok.frames, .inl rfl,λb hb=>?_,I.bs,Y1 I.ok.bsz I.sz,λb o e hb=>?_,λb hb z=>?_,I.stack,I.stkFree⟩,
  rfl,I.bare,Un.kept hk,⟨_,hn,λi x v h1 h2 h3=>?_⟩,λx c e=>?_,I.hok.fresh (S0 _),λx c e=>I.freeC x c (c1 x c e),λp hp=>absurd (show p∈([]:List (Addr×Obj))from hp) `Z3,I.hok.kept hk,?_⟩
 ·exact c2 _ (zky (env:=X.env) (scope:=scope) (x:=x) hx ok.nocell) rfl
 ·obtain ⟨f0,f1,f2,f3,f4,f5⟩:=hf b hb
  exact⟨λz=>absurd (hlt b hb) (by rw[z];exact Nat.lt_irrefl _),λx c e=>f4 x c (c1 x c e)⟩
 ·obtain ⟨f0,f1,f2,f3,f4,f5⟩:=hf b hb
  rcases f3 with z|z
  ·exact I.ok.noex b o e z
  ·exact absurd (W1 (Y0 e) (Y1 I.ok.bsz z)) (Nat.lt_irrefl _)
 ·obtain ⟨f0,f1,f2,f3,f4,f5⟩:=hf b hb
  rcases D1.mp (I.stkSub b z)with q|q
  ·exact f1 q
  ·exact f2 q
 ·
  have hi:∃j,src[i]?=some (some j)/\σ[j]?=some (some v):=by
   unfold zfA at h2
   rw[V0] at h2
   cases e:src[i]? with
   |none=>rw[e] at h2;cases h2
   |some o=>
    rw[e] at h2
    cases o with
    |none=>cases h2
    |some j=>
     refine⟨j,rfl,?_⟩
     have h2':(σ[j]?).join=some v:=U1 h2
     cases e2:σ[j]? with
     |none=>rw[e2] at h2';cases h2'
     |some w=>rw[e2] at h2';exact E3 some h2'
  obtain⟨j,e1,e2⟩:=hi
  have hz:(some j,x)∈src.zip N':=by
   refine List.mem_iff_getElem?.mpr ⟨i,?_⟩
   rw[List.getElem?_zip_eq_some]
   exact⟨e1,h1⟩
  obtain⟨q1,q2⟩:=ok.src _ hz j `Z3
  have hfr:=PySem.mem_of_lookup q2
  have hk0:=ok.frees _ hfr rfl
  rw[←hsc] at hk0
  obtain⟨m,hns,hl⟩:=I.loc
  obtain⟨u,r,l⟩:=hl j x v q1 e2 (hk0.elim (λz=> .inr (.inl z)) λz=> .inr (.inr z))
  refine⟨u,r,?_⟩
  rcases l with⟨l1,_⟩|⟨_,c,l2,l3⟩
  ·exfalso
   have l1':X.env.scope.names.lookup x=some .local:=l1
   rcases hk0 with z|z
   ·rw[l1'] at z;cases z
   ·rw[l1'] at z;cases z
  ·obtain ⟨d,hd⟩:=c2 _ hfr rfl
   have:d=c:=by
    have:=(c1 _ _ hd).symm.trans l2
    exact U1 this
   subst this
   obtain⟨o,ho,hod⟩:=l3
   exact .inr ⟨zla q2,d,hd,o,hk _ _ ho,hod⟩
 ·obtain ⟨v,o,ho,hod⟩:=I.cell x c (c1 x c e)
  exact⟨v,o,hk _ _ ho,hod⟩
 ·show (zfA src σ).length=N'.length
  unfold zfA
  rw[D0]
  exact ok.len
theorem zfC{σ':St}(I:Inv X pins σ H s)(hf:∀b∈fp,zfL X pins H b)(hC:s.heap.objs.size<=C)(J:Inv (zH X N' scope cl C s H fp) [] σ' H' s')(hs:Heap.SameBut C s'.heap h'):
 Inv X pins σ H' {s' with heap:=h'}:=by
 have nC:∀b o,s.heap.get? b=some o->b≠C:=λb o e z=>absurd (W1 (Y0 e) (by rw[z];exact hC)) (Nat.lt_irrefl _)
 have B:Un (frs X.stack) fp H H' s.heap s'.heap:=J.base
 refine I.call' (ch:=fp) J.os ⟨λb o e n hb hx=>(hs.2 b (nC b o e)).trans (B.keep b o e n hb hx),λb o e n hb hx=>?_,B.free,λb o e hx=>?_,B.tups,B.frzs,B.tbls⟩ (λb ob e=>?_) J.bare λb hb=>?_
 ·obtain ⟨sl,e1⟩:=B.slot b o e n hb hx
  exact⟨sl,(hs.2 b (nC b o e)).trans e1⟩
 ·obtain ⟨o',e1⟩:=B.there b o e hx
  exact⟨o',(hs.2 b (nC b o e)).trans e1⟩
 ·refine (J.hok b ob e).stay (λc w' hc q=>(hs.2 c ?_).trans q) (λ_ q=>q) λ_ _ q=>q
  have hfree:H' C=none:=J.free
  rintro rfl
  rcases hc with rfl|hc
  ·rw[hfree] at e;cases e
  ·rw[hfree] at hc;cases hc
 ·obtain ⟨f0,f1,f2,f3,f4,f5⟩:=hf b hb
  exact⟨f3,f1,f4,f5⟩
end
noncomputable def zki(ifs:List Expr)(env:Env):Sem Bool:=forIn ifs true λc r=>if r=true then do let ok ←isTrue c env (eval c env);pure (ForInStep.yield ok)else pure (ForInStep.yield r)
def PIf(X:Cx)(ifs:List Expr)(t:TT):Prop:=
 ∀(pins:List (Addr×Obj)) (s:Shared) (σ:St) (H:Hp) (Q:Bool->Hp->Prop),Inv X pins σ H s->t σ H Q->wpAny (model X.prog X.w) X.A (zki ifs X.env) (TP X pins σ Q) X.xe s
noncomputable def zp1:TT:=λ_ H Q=>Q true H
theorem zt3:PIf X [] zp1:=λpins s σ H Q I h=>wpAny_tests_nil ⟨H,I,h⟩
theorem zs1{c:Expr}{t:TT}(h:PT X c t):PIf X [c] t:=λpins s σ H Q I hq=>wpAny_tests_one (h pins s σ H Q I hq)
theorem zgj{R:Result->Shared->Prop}{it:Value}(I:Nat->Shared->Prop)
 (turn:∀n s,I n s->wpAny (model prog w) A (pyNext it) (λr s1=>match r with
   |none=>R (.ok .next) s1
   |some v=>wpAny (model prog w) A (letOwnedTupleGo target it v) (λ_ s1'=>wpAny (model prog w) A (assign target env v) (λ_ s2=>wpAny (model prog w) A (zki ifs env) (λok s3=>
     if ok=true then wpAny (model prog w) A (eval elt env) (λx s4=>wpAny (model prog w) A (call (.builtin "list.append") [acc,x]) (λ_ s5=>∃m,m<n/\I m s5) (λ_ _=>False) s4) (λ_ _=>False) s3
     else∃m,m<n/\I m s3) (λ_ _=>False) s2) (λ_ _=>False) s1') (λ_ _=>False) s1) (λ_ _=>False) s)
 (n:Nat) (h:I n s):codeAny (model prog w) A (.compLoop (.ListComp elt [⟨target,iter,ifs,0⟩] scope pos) 0 it acc env) R s:=by
 have no:∀{E:Value->Shared->Prop} (e:Value) (s:Shared),(λ(_:Value) (_:Shared)=>False) e s->E e s:=λ_ _ z=>False.elim z
 refine codeAny_loop rfl I (λn s hI=>?_) n h
 show wpAny _ A ((compTurn (.ListComp elt [⟨target,iter,ifs,0⟩] scope pos) 0 it acc env).onRaise (λx=>do noteFrame x env;theTreesLotGoes x)) _ _ s
 refine wpAny_noted ?_
 rw[compTurn_list]
 refine C0 (wpAny_standAt (C0 (D3 (turn n s hI) (λr s₁ h₁=>?_) no)))
 cases r with
 |none=>exact K0 h₁
 |some v=>
  refine C0 (D3 h₁ (λ_ s1' h1'=>?_) no)
  refine C0 (D3 h1' (λ_ s₂ h₂=>C0 (D3 h₂ (λok s₃ h₃=>?_) no)) no)
  cases ok with
  |false=>exact K0 ⟨rfl,h₃⟩
  |true=>
   exact C0 (C0 (D3 h₃ (λx s₄ h₄=>C0 (D3 h₄ (λ_ s₅ h₅=>K0 (K0 ⟨rfl,h₅⟩)) no)) no))
def ze0(g:TG)(tc:TT)(te:TE)(src:List (Option Nat))(σ:St)(Q:VK)(J:It)(H1:Hp):Prop:=∀l,H1 l=none->
 ∃W:Nat->Nat->List V->St->Hp->Prop,(∃m,W 0 m [] (zfA src σ) (upd H1 l (.lst [])))/\∀i m ys σ' H',W i m ys σ' H'->H' l=some (.lst ys)->
  (J.stop i H'/\Q (.ref l) H')\/(J.go i H'/\∃N:List V->St->Hp->Prop,(∀zs σ2 H2,N zs σ2 H2->∃m',m'<m/\W (i+1) m' zs σ2 H2)/\∀x H2,J.yld i H' x H2->g x σ' H2 λσ2 H3=>tc σ2 H3 λb H4=>
    if b=true then te σ2 H4 λy H5=>H5 l=some (.lst ys)/\ys.length<sizeLine/\N (ys ++ [y]) σ2 (upd H5 l (.lst (ys ++ [y])))
    else H4 l=some (.lst ys)/\N ys σ2 H4)
noncomputable def zoG(wi:TI)(g:TG)(tc:TT)(te:TE)(src:List (Option Nat)):TE:=λσ H Q=>wi σ H (ze0 g tc te src σ Q)
def zux(g:TG)(tb:TS)(D:Ends)(σ:St)(J:It)(H1:Hp):Prop:=∃W:Nat->Nat->St->Hp->Prop,(∃m,W 0 m σ H1)/\∀i m σ H,W i m σ H->
 (J.stop i H/\D.nx σ H)\/(J.go i H/\∃N:St->Hp->Prop,(∀σ' H',N σ' H'->∃m',m'<m/\W (i+1) m' σ' H')/\∀x H',J.yld i H x H'->g x σ H' λσ2 H2=>tb {D with nx:=N,ct:=N,bk:=D.nx} σ2 H2)
noncomputable def zup(wi:TI)(g:TG)(tb:TS):TS:=λD σ H=>wi σ H (zux g tb D σ)
theorem ztA{g:TG}(hp:PassesOwn (model X.prog X.w) X.A X.env X.xe)(hc:X.calm=true)(hi:PI X tg iter wi)(hg:PG X tg g)(hb:PSs X body tb)
 (hs:autoParam (∀x,foldedSetIterable iter X.env x=pure x) t6):PS X (.For tg iter body [] pos) (zup wi g tb):=zvV hp hc hi hg hb hs
section
variable{src:List (Option Nat)}{g:TG}
theorem zuh(ok:CompOk X.N osc N' src scope)(hsc:X.env.scope=osc)(hc:X.calm=true)(hi:PI X tg iter wi)
 (hg:∀cl C s₀ H₀ fp,PG (zH X N' scope cl C s₀ H₀ fp) tg g) (ht:∀cl C s₀ H₀ fp,PIf (zH X N' scope cl C s₀ H₀ fp) ifs tc) (he:∀cl C s₀ H₀ fp,PE (zH X N' scope cl C s₀ H₀ fp) elt te)
 (hs:autoParam (∀x,foldedSetIterable iter X.env x=pure x) t6):PE X (.ListComp elt [⟨tg,iter,ifs,0⟩] scope pos) (zoG wi g tc te src):=by
 intro pins s σ H Q I h
 obtain⟨cl,hcl,c1,c2⟩:=zfv (scope:=scope) (env:=X.env) λy hy hyf=>I.ok.has y.1 (by
  have z:=ok.frees y hy hyf
  rw[←hsc] at z
  exact z)
 rw[eval_ListComp]
 refine wpAny_comprehension_free (use:=none) rfl hs hcl ok.kind ok.loc (thn (hi pins s σ H _ I h) λv s1 h1=>thn h1 λitv s2 h2=>?_)
 obtain⟨it,fp,tn,J,H2,e,I2,T,st2,f2,q2⟩:=h2
 subst e
 have hlt2:∀b∈fp,b<s2.heap.objs.size:=λb hb=>by
  obtain⟨o,e,_⟩:=T.obj _ _ st2 b hb
  exact Y0 e
 refine K2 ?_
 have hl:H2 s2.heap.objs.size=none:=I2.hok.fresh (S0 _)
 have I3:Inv X pins σ (upd H2 s2.heap.objs.size (.lst [])) {s2 with heap:=s2.heap.push {cls:= .type "list",dict:=none,data:= .seq ([]:List Value).toArray}}:=
  I2.laid (t':=s2.toks) (λb u e=>G0 _ e) (S0 _) ⟨Z1 _,[],0, .nil,Q0 _ rfl⟩
 obtain⟨W,⟨m0,w0⟩,turn⟩:=q2 _ hl
 generalize hl2:s2.heap.objs.size=l at *
 generalize hs3:({s2 with heap:=s2.heap.push {cls:= .type "list",dict:=none,data:= .seq ([]:List Value).toArray}}:Shared)=s3 at *
 have f3:∀b∈fp,zfL X pins (upd H2 l (.lst [])) b:=λb hb=>⟨by rw[ze (V1 (hlt2 b hb))];exact(f2 b hb).1,(f2 b hb).2⟩
 have k3:∀b o,s2.heap.get? b=some o->s3.heap.get? b=some o:=λb o e=>by rw[←hs3];exact G0 _ e
 have hlt3:∀b∈fp,b<s3.heap.objs.size:=λb hb=>by
  obtain⟨o,e,_⟩:=T.obj _ _ st2 b hb
  exact Y0 (k3 b o e)
 refine wpAny_newFunctionEnv ok.nocell (by intro y hy;simp at hy) (λh₁ hns₁ hsb₁=>?_) ok.kind
 have k4:∀b o,s3.heap.get? b=some o->h₁.get? b=some o:=λb o e=>(hsb₁.2 b (V1 (Y0 e))).trans (G0 _ e)
 have J0:=zfD (tk:=s3.toks+([]:List (Str×Value)).length) I3 f3 hlt3 ok hsc c1 c2 hns₁ k4
 have st4:tn 0 h₁:=T.keep _ _ _ st2 λb hb o e=>k4 b o (k3 b o e)
 generalize hC:s3.heap.objs.size=C at *
 have stat:∀{H':Hp},(∀b∈fp,H' b=none)->∀b∈fp,zfL (zH X N' scope cl C s3 (upd H2 l (.lst [])) fp) [] H' b:=λ{H'} hn b hb=>
  ⟨hn b hb,(J0.ok.exf b hb).1,J0.ok.exfs b hb, .inl hb,(J0.ok.exf b hb).2,λp hp=>absurd (show p∈([]:List (Addr×Obj))from hp) `Z3⟩
 have loop:codeAny (model X.prog X.w) X.A (.compLoop (.ListComp elt [⟨tg,iter,ifs,0⟩] scope pos) 0 (.ref it) (.ref l) (compEnvC scope cl C X.env))
  (compPost (model X.prog X.w) X.A X.xe none (EP X pins σ Q) (.ref l) C) {s3 with heap:=h₁,toks:=s3.toks+([]:List (Str×Value)).length}:=by
  refine zgj (λn s'=>∃i ys σ' H',Inv (zH X N' scope cl C s3 (upd H2 l (.lst [])) fp) [] σ' H' s'/\tn i s'.heap/\(∀b∈fp,H' b=none)/\H' l=some (.lst ys)/\W i n ys σ' H') ?_ m0
   ⟨0,[],_,_,J0,st4,λb hb=>(f3 b hb).1,zc,w0⟩
  rintro n s5 ⟨i,ys,σ5,H5,I5,st5,fr5,hl5,w5⟩
  rcases turn i n ys σ5 H5 w5 hl5 with⟨stop,qn⟩|⟨go,N,hN,step⟩
  ·refine thn (T.done (zH X N' scope cl C s3 (upd H2 l (.lst [])) fp) rfl rfl rfl hc i [] s5 σ5 H5 (λ_ _=>False) I5 (stat fr5) st5 stop) λr s6 ⟨hr,I6⟩=>?_
   subst hr
   obtain⟨m,hn,_⟩:=I6.loc
   exact⟨m,hn,λh' hsb=>⟨.ref l,H5,zfC I3 f3 (by rw[←hC];exact S0 _) I6 hsb,rfl,qn⟩⟩
  ·refine thn (T.item (zH X N' scope cl C s3 (upd H2 l (.lst [])) fp) rfl rfl rfl hc i [] s5 σ5 H5 (λ_ _=>False) I5 (stat fr5) st5 go) λr s6 ⟨u,hr,h6⟩=>?_
   subst hr
   refine thn h6 λ_ s7 zq=>?_
   obtain⟨x,H7,I7,r7,y7,st7,fr7⟩:=zq
   have I7':=I7.pinned (stat fr7) (T.obj _ _ st7)
   refine thn (hg cl C s3 _ fp _ s7 σ5 H7 x u _ I7' r7 (step x H7 y7)) λ_ s8 zq=>?_
   obtain⟨σ8,H8,I8,q8⟩:=zq
   refine thn (ht cl C s3 _ fp _ s8 σ8 H8 _ I8 q8) λb s9 zq=>?_
   obtain⟨H9,I9,q9⟩:=zq
   have back:∀{s':Shared} {H':Hp},Inv (zH X N' scope cl C s3 (upd H2 l (.lst [])) fp) ([]++zfQ fp s7.heap) σ8 H' s'->tn (i+1) s'.heap/\∀b∈fp,H' b=none:=λ{s' H'} I'=>by
    refine⟨T.keep _ _ _ st7 λb hb o e=>(I'.pin (b,o) (O1 _ (O1 _ (zaD hb e)))).1,λb hb=>?_⟩
    obtain⟨o,e,d⟩:=T.obj _ _ st7 b hb
    exact(I'.pin (b,o) (O1 _ (O1 _ (zaD hb e)))).2.1
   cases b with
   |false=>
    obtain⟨hl9,n9⟩:=q9
    obtain⟨m',hm,w9⟩:=hN _ _ _ n9
    obtain⟨t9,fr9⟩:=back I9
    exact⟨m',hm,i+1,ys,σ8,H9,I9.unpinned,t9,fr9,hl9,w9⟩
   |true=>
    refine thn (he cl C s3 _ fp _ s9 σ8 H9 _ I9 q9) λxv s10 zq=>?_
    obtain⟨y,H10,I10,r10,hl10,hz,n10⟩:=zq
    obtain⟨m',hm,w10⟩:=hN _ _ _ n10
    refine thn (zbQ (X:=zH X N' scope cl C s3 (upd H2 l (.lst [])) fp) _ s10 σ8 H10 (.ref l) [y] (.ref l) [xv] (λv H'=>H'=upd H10 l (.lst (ys ++ [y]))) I10 rfl (.cons r10 .nil) ⟨l,ys,y,rfl,rfl,hl10,hz,rfl⟩) λ_ s11 ⟨_,H11,I11,_,e11⟩=>?_
    subst e11
    obtain⟨t11,fr11⟩:=back I11
    exact⟨m',hm,i+1,ys ++ [y],σ8,_,I11.unpinned,t11,fr11,zc,w10⟩
 exact codeAny_compStart_list loop (T.self _ 0 _ _ _ st4 loop)
end
section
variable[DecidableEq κ]
noncomputable def za4(kvs:List (κ×V))(k:κ):Option V:=(kvs.find? λkv=>decide (kv.1=k)).map (·.2)
noncomputable def zaB(kvs:List (κ×V))(k:κ)(v:V):List (κ×V):=
 if(kvs.any λkv=>decide (kv.1=k))=true then kvs.map (λkv=>if kv.1=k then(kv.1,v)else kv)else kvs ++ [(k,v)]
theorem zeL{p:κ×V}{r:List (κ×V)}{k:κ}(e:p.1=k):za4 (p::r) k=some p.2:=by simp[za4,List.find?_cons,e]
theorem zcf{p:κ×V}{r:List (κ×V)}{k:κ}(e:¬p.1=k):za4 (p::r) k=za4 r k:=by simp[za4,List.find?_cons,e]
theorem zgm(k:κ):∀kvs:List (κ×V),(kvs.any λkv=>decide (kv.1=k))=(za4 kvs k).isSome
 |[]=>rfl
 |p::r=>by
  rw[List.any_cons]
  by_cases e:p.1=k
  ·simp only[zeL e,P0 e,Bool.true_or,Option.isSome_some]
  ·rw[zcf e,U0 e,Bool.false_or];exact zgm k r
theorem zeJ(kvs:List (κ×V))(k:κ)(v:V):(zaB kvs k v).length<=kvs.length+1:=by
 unfold zaB
 split
 ·rw[D0];lia
 ·rw[b0,L1,List.length_nil];lia
theorem zf2{kvs:List (κ×V)}{k:κ}(v:V)(h:za4 kvs k=none):zaB kvs k v=kvs ++ [(k,v)]:=by
 unfold zaB
 rw[zgm,h]
 exact N0 ⋯
theorem RelO.isSome_eq{o:Option V}{u:Option Value}(r:RelO o u):o.isSome=u.isSome:=by
 cases o with
 |none=>cases u with
  |none=>rfl
  |some _=>exact (show False from r).elim
 |some _=>cases u with
  |none=>exact (show False from r).elim
  |some _=>rfl
theorem RelO.getD{o:Option V}{u:Option Value}{d:V}{d':Value}(r:RelO o u)(rd:RelV d d'):RelV (o.getD d) (u.getD d'):=by
 cases o with
 |none=>cases u with
  |none=>exact rd
  |some _=>exact (show False from r).elim
 |some _=>cases u with
  |none=>exact (show False from r).elim
  |some _=>exact r
theorem KV.val{kvs:List (κ×V)}{vs:List (κ×Value)}(r:KV kvs vs)(k:κ):RelO (za4 kvs k) (valueAt vs k):=by
 unfold KV at r
 induction r with
 |nil=>exact True.intro
 | @cons p q ps qs h t ih=>
   obtain⟨h1,h2⟩:=h
   by_cases e:p.1=k
   ·have e':q.1=k:=h1.symm.trans e
    have b:valueAt (q::qs) k=some q.2:=by simp[valueAt,List.find?_cons,e']
    rw[zeL e,b];exact h2
   ·have e':¬q.1=k:=λz=>e (h1.trans z)
    have b:valueAt (q::qs) k=valueAt qs k:=by simp[valueAt,List.find?_cons,e']
    rw[zcf e,b];exact ih
theorem KV.any{kvs:List (κ×V)}{vs:List (κ×Value)}(r:KV kvs vs)(k:κ):(kvs.any λkv=>decide (kv.1=k))=vs.any λkv=>decide (kv.1=k):=by
 unfold KV at r
 induction r with
 |nil=>rfl
 |cons h t ih=>rw[List.any_cons,List.any_cons,ih,h.1]
theorem KV.repl{kvs:List (κ×V)}{vs:List (κ×Value)}(r:KV kvs vs)(k:κ){y:V}(ry:RelV y u):
 KV (kvs.map λkv=>if kv.1=k then(kv.1,y)else kv) (vs.map λkv=>if kv.1=k then(kv.1,u)else kv):=by
 unfold KV at r⊢
 induction r with
 |nil=>exact .nil
 | @cons p q ps qs h t ih=>
   rw[E2,E2]
   refine .cons ?_ ih
   obtain⟨h1,h2⟩:=h
   by_cases e:p.1=k
   ·rw[R0 e,R0 (h1.symm.trans e)];exact⟨h1,ry⟩
   ·rw[N0 e,N0 (λz=>e (h1.trans z))];exact⟨h1,h2⟩
theorem KV.put{kvs:List (κ×V)}{vs:List (κ×Value)}(r:KV kvs vs)(k:κ){y:V}(ry:RelV y u):KV (zaB kvs k y) (stored vs k u):=by
 unfold zaB stored
 rw[r.any k]
 by_cases e:(vs.any λkv=>decide (kv.1=k))=true
 ·rw[R0 e,R0 e];exact r.repl k ry
 ·rw[N0 e,N0 e];exact Paired.snoc r ⟨rfl,ry⟩
theorem KV.length{kvs:List (κ×V)}{vs:List (κ×Value)}(r:KV kvs vs):kvs.length=vs.length:=Paired.length r
end
theorem zlS{k:Key}(r:RelV (kV k) u):(zak P w).is k u=true:=by
 cases k with
 |inl i=>obtain ⟨t,e⟩:=(show∃t,u=Value.int i t from r);subst e;exact zlM P w i t
 |inr x=>obtain ⟨t,e⟩:=(show∃t,u=Value.str x t from r);subst e;exact zmJ P w x t
theorem zj2{P:Program}{w:World}:∀{ks:List Key} {us:List Value},Vals (ks.map kV) us->ItemsAre (zak P w) ks us
 |[],_,r=>by rw[List.map_nil] at r;cases r;exact .nil
 |k::ks,_,r=>by
  rw[E2] at r
  cases r with
  |cons h t=>exact .cons (zlS h) (zj2 t)
abbrev KT(H:Hp):List (List Key×V)->List (List Key×Addr×Value)->Prop:=Paired λp q=>p.1=q.1/\H q.2.1=some (.tup (p.1.map kV))/\RelV p.2 q.2.2
theorem KT.val{kvs:List (List Key×V)}{xs:List (List Key×Addr×Value)}(r:KT H kvs xs)(k:List Key):RelO (za4 kvs k) ((atKey xs k).map (·.2)):=by
 induction r with
 |nil=>exact True.intro
 | @cons p q ps qs h t ih=>
   obtain⟨h1,_,h2⟩:=h
   by_cases e:p.1=k
   ·have e':q.1=k:=h1.symm.trans e
    have b:atKey (q::qs) k=some q.2:=by simp[atKey,List.find?_cons,e']
    rw[zeL e,b];exact h2
   ·have e':¬q.1=k:=λz=>e (h1.trans z)
    have b:atKey (q::qs) k=atKey qs k:=by simp[atKey,List.find?_cons,e']
    rw[zcf e,b];exact ih
theorem KT.repl{kvs:List (List Key×V)}{xs:List (List Key×Addr×Value)}(r:KT H kvs xs)(k:List Key){y:V}(ry:RelV y u):
 KT H (kvs.map λkv=>if kv.1=k then(kv.1,y)else kv) (xs.map (putAt k u)):=by
 induction r with
 |nil=>exact .nil
 | @cons p q ps qs h t ih=>
   rw[E2,E2]
   refine .cons ?_ ih
   obtain⟨h1,h2,h3⟩:=h
   unfold putAt
   by_cases e:p.1=k
   ·rw[R0 e,R0 (h1.symm.trans e)];exact⟨h1,h2,ry⟩
   ·rw[N0 e,N0 (λz=>e (h1.trans z))];exact⟨h1,h2,h3⟩
theorem KT.put{kvs:List (List Key×V)}{xs:List (List Key×Addr×Value)}(r:KT H kvs xs)(k:List Key){b:Addr}{y:V}(hb:H b=some (.tup (k.map kV)))(ry:RelV y u):
 KT H (zaB kvs k y) (storedH xs k b u):=by
 have e:(kvs.any λkv=>decide (kv.1=k))=(atKey xs k).isSome:=by
  rw[zgm,(r.val k).isSome_eq,Option.isSome_map]
 unfold zaB storedH
 rw[e]
 by_cases q:(atKey xs k).isSome=true
 ·rw[R0 q,R0 q];exact r.repl k ry
 ·rw[N0 q,N0 q];exact Paired.snoc r ⟨rfl,hb,ry⟩
theorem KT.keeps{kvs:List (List Key×V)}{xs:List (List Key×Addr×Value)}(r:KT H kvs xs)(ht:∀b ys,H b=some (.tup ys)->H' b=some (.tup ys)):KT H' kvs xs:=
 Paired.mapP r λ_ _ z=>⟨z.1,ht _ _ z.2.1,z.2.2⟩
section
variable{h:Heap}
theorem zun{u:HO}(ok:HOk P w H h)(e:Rd H a u):ObjOk P w H h a u:=e.ok ok
theorem zmC(ok:HOk P w H h)(e:Rd H a (.dK kvs)):kvs.length<=sizeLine/\(a==sysModules)=false/\∃vs,KV kvs vs/\h.DictOf (zak P w) a vs:=
 show ObjOk P w H h a (.dK kvs)from zun ok e
theorem zjW(ok:HOk P w H h)(e:H a=some (.dK kvs)):kvs.length<=sizeLine/\(a==sysModules)=false/\∃vs,KV kvs vs/\h.DictOf (zak P w) a vs:=zmC ok (.inl e)
theorem zkj{ks:List Key}(ok:HOk P w H h)(e:H a=some (.tup (ks.map kV))):(tupleKind (zak P w)).is h ks a:=by
 obtain⟨_,its,r,⟨o,h1,h2,n,h3⟩,_⟩:=(show ObjOk P w H h a (.tup (ks.map kV))from ok a _ e)
 exact⟨o,its.toArray,n,h1,h2,h3,by simpa using zj2 r⟩
theorem zlN{kvs:List (List Key×V)}(ok:HOk P w H h)(e:Rd H a (.dT kvs)):kvs.length<=sizeLine/\(a==sysModules)=false/\
 ∃xs,KT H kvs xs/\h.DictOfH (tupleKind (zak P w)) a xs:=by
 obtain⟨z,y,xs,r,o,es,ep,h1,h2,h3,h4,h5⟩:=(show ObjOk P w H h a (.dT kvs)from zun ok e)
 refine⟨z,y,xs,r,o,es,ep,h1,h2,h3,h4,λx hx=>?_,h5⟩
 have all:∀{l:List (List Key×V)} {m:List (List Key×Addr×Value)},KT H l m->∀x∈m,(tupleKind (zak P w)).is h x.1 x.2.1:=by
  intro l m q
  induction q with
  |nil=>intro x hx;exact nomatch hx
  | @cons p q ps qs hq t ih=>
    intro x hx
    rcases D1.mp hx with e|hx
    ·subst e
     exact zkj ok (by rw[←hq.1];exact hq.2.1)
    ·exact ih x hx
 exact all r x hx
theorem zwI{kvs:List (List Key×V)}(ok:HOk P w H h)(e:H a=some (.dT kvs)):kvs.length<=sizeLine/\(a==sysModules)=false/\
 ∃xs,KT H kvs xs/\h.DictOfH (tupleKind (zak P w)) a xs:=zlN ok (.inl e)
end
def DGet(H:Hp)(a:Addr)(y:V)(r:Option V):Prop:=
 (∃kvs k,Rd H a (.dK kvs)/\y=kV k/\r=za4 kvs k)\/∃kvs k b,Rd H a (.dT kvs)/\y= .ref b/\H b=some (.tup (k.map kV))/\r=za4 kvs k
def DPut(H:Hp)(a:Addr)(y v:V)(H':Hp):Prop:=
 (∃kvs k,H a=some (.dK kvs)/\y=kV k/\kvs.length<sizeLine/\H'=upd H a (.dK (zaB kvs k v)))\/
 ∃kvs k b,H a=some (.dT kvs)/\y= .ref b/\H b=some (.tup (k.map kV))/\kvs.length<sizeLine/\H'=upd H a (.dT (zaB kvs k v))
theorem DGet.k{H:Hp}{a:Addr}{kvs:List (Key×V)}{k:Key}(e:H a=some (.dK kvs)):DGet H a (kV k) (za4 kvs k):= .inl ⟨kvs,k, .inl e,rfl,rfl⟩
theorem DPut.t{b:Addr}{kvs:List (List Key×V)}{k:List Key}(e:H a=some (.dT kvs))(eb:H b=some (.tup (k.map kV)))(hl:kvs.length<sizeLine):
 DPut H a (.ref b) v (upd H a (.dT (zaB kvs k v))):= .inr ⟨kvs,k,b,e,rfl,eb,hl,rfl⟩
variable{t:List Str}
section
variable{y:V}{r:Value}{o:Option V}
theorem Inv.big(I:Inv X pins σ H s):sysModules<s.heap.objs.size:=by
 have h:mainGlobals<s.heap.objs.size:=(I.mod.glob.keeps I.bk).lt
 exact Nat.lt_trans ⋯ h
theorem zpu(hu:A.units+1<cLine)(I:Inv X pins σ H s)(g:DGet H a y (some v))(ry:RelV y u)(h:∀w' s',Inv X pins σ H s'->RelV v w'->Q w' s'):
 wpAny (model X.prog X.w) A (getItem (.ref a) u) Q E s:=by
 rcases g with⟨kvs,k,e,ey,l⟩|⟨kvs,k,b,e,ey,eb,l⟩
 ·subst ey
  obtain⟨z,hd,vs,rel,dd⟩:=zmC I.hok e
  obtain⟨w',hw,rw'⟩:=RelO.some_of (v:=v) (o:=valueAt vs k) (by rw[l];exact rel.val k)
  exact wpAny_getItem_of (zlS ry) dd.mapOf hw (h w' _ (I.tok _) rw')
 ·subst ey
  cases(show u=Value.ref b from ry)
  obtain⟨z,hd,xs,rel,dd⟩:=zlN I.hok e
  obtain⟨w',hw,rw'⟩:=RelO.some_of (v:=v) (o:=(atKey xs k).map (·.2)) (by rw[l];exact rel.val k)
  obtain⟨p,hp,hp2⟩:=Option.map_eq_some_iff.mp hw
  refine wpAny_getItem_heap (tupleKind_room_in1 hu) (zkj I.hok eb) dd hp ?_
  rw[hp2]
  exact h w' _ (I.tok _) rw'
theorem zkK{ob:HO}(I:Inv X pins σ H s)(mu:Mut (H a))(hs:Heap.SameBut a s.heap h')(he:∃q,h'.get? a=some q)(new:ObjOk X.prog X.w (upd H a ob) h' a ob):
 Inv X pins σ (upd H a ob) {s with heap:=h',toks:=t'}:=
 I.write (x:=a) (e:=a) mu (.inl rfl) (λb q hb z=>(hs.2 b hb).trans z) he new
theorem zqy{vs:List (Key×Value)}(z:kvs.length<=sizeLine)(hd:(a==sysModules)=false)(rel:KV kvs vs)(dd:h'.DictOf (zak P w) a vs):
 ObjOk P w H' h' a (.dK kvs):=⟨z,hd,vs,rel,dd⟩
theorem zpN{Q:Unit->Shared->Prop}(hu:A.units+1<cLine)(I:Inv X pins σ H s)(g:DPut H a y v H')(ry:RelV y u)(rv:RelV v r)(h:∀s',Inv X pins σ H' s'->Q Unit.unit s'):
 wpAny (model X.prog X.w) A (setItem (.ref a) u r) Q E s:=by
 rcases g with⟨kvs,k,e,ey,l,eH⟩|⟨kvs,k,b,e,ey,eb,l,eH⟩
 ·subst ey eH
  obtain⟨z,hd,vs,rel,dd⟩:=zjW I.hok e
  have hz:vs.length<=sizeLine:=by rw[←rel.length];exact z
  have hl:(zaB kvs k v).length<=sizeLine:=by have:=zeJ kvs k v;lia
  refine wpAny_setItem_pairs (hsz:=hz) (zlS ry) dd λh' dd' hs=>h _ ?_
  have he:∃q,h'.get? a=some q:=let⟨q,_,_,hq,_⟩:=dd';⟨q,hq⟩
  exact zkK I (by rw[e];exact True.intro) hs he (zqy hl hd (rel.put k rv) dd')
 ·subst ey eH
  cases(show u=Value.ref b from ry)
  obtain⟨z,hd,xs,rel,dd⟩:=zwI I.hok e
  have hz:xs.length<=sizeLine:=by rw[←Paired.length rel];exact z
  have hl:(zaB kvs k v).length<=sizeLine:=by have:=zeJ kvs k v;lia
  refine wpAny_setItem_heap (hsz:=hz) (tupleKind_room_in1 hu) (zkj I.hok eb) dd λh' dd' hs=>h _ ?_
  obtain⟨q,es,ep,hq,h2,h3,h4,_,h5⟩:=dd'
  refine zkK I (by rw[e];exact True.intro) hs ⟨q,hq⟩ ⟨hl,hd,_,(rel.put k eb rv).keeps λc ys ec=>?_,q,es,ep,hq,h2,h3,h4,h5⟩
  rw[ze (zy ec e (λz=>nomatch z))]
  exact ec
end
section
variable{k:Key}
end
def zvK(i:Expr):Prop:=∀ov iv,subscripted i false ov iv=operate [ov,iv] (getItem ov iv)
theorem ztv{slice:Expr}{T id:String}
 (hl:typeLookup (.type T) "__getitem__"=pure (some (.builtin id))) (hs:zvK slice)
 (h:wpAny (model prog w) A (eval value env) (λo s₁=>wpAny (model prog w) A (eval slice env) (λi s₂=>s₂.TypeIs o T/\wpAny (model prog w) A (getItem o i) Q E s₂) E s₁) E s):
 wpAny (model prog w) A (eval (.Subscript value slice pos) env) Q E s:=by
 refine Subscript_ (D3 h (λo s₁ h₁=>D3 h₁ (λi s₂ h₂=>?_) λ_ _ x=>x) λ_ _ x=>x)
 obtain⟨hT,h₂⟩:=h₂
 unfold subscriptTail
 refine C0 ?_
 rw[getitemInPython_of_ne hT.not_modules]
 refine C0 (wpAny_specialOf hT hl ?_)
 have fin:wpAny (model prog w) A (subscripted slice false o i) (λr s₃=>wpAny (model prog w) A (letTemporaryGo value o r>>=λ_=>pure r) Q E s₃) E s₂:=by
  rw[hs o i]
  exact wpAny_operating (D3 h₂ (λr s₃ h₃=>C0 (wpAny_letTemporaryGo (K0 h₃))) λ_ _ x=>x)
 first
  |exact K0 (C0 fin)
  |exact C0 (K0 (C0 fin))
  |exact C0 fin
theorem zmu{y:V}{o:Option V}(I:Inv X pins σ H s)(g:DGet H a y o):s.TypeIs (.ref a) "dict":=by
 rcases g with⟨kvs,k,e,_,_⟩|⟨kvs,k,b,e,_,_,_⟩
 ·obtain ⟨_,_,vs,_,dd⟩:=zmC I.hok e
  exact dd.typeIs
 ·obtain ⟨_,_,xs,_,dd⟩:=zlN I.hok e
  exact dd.typeIs
noncomputable def zuJ(td ty:TE):TE:=λσ H Q=>td σ H λx H1=>ty σ H1 λy H2=>∃a v,x= .ref a/\DGet H2 a y (some v)/\Q v H2
noncomputable def zuu(td ty tv:TE):TS:=λD σ H=>tv σ H λv H1=>td σ H1 λx H2=>ty σ H2 λy H3=>∃a H4,x= .ref a/\DPut H3 a y v H4/\D.nx σ H4
section
variable{o i e:Expr}{td ty:TE}
theorem ztE(hu:X.A.units+1<cLine)(ho:PE X o td)(hi:PE X i ty)(hs:zvK i):PE X (.Subscript o i pos) (zuJ td ty):=by
 intro pins s σ H Q I h
 refine ztv F.slot_dict_getitem.lookup hs (thn (ho pins s σ H _ I h) λu s1 zq=>?_)
 obtain⟨x,H1,I1,rx,q1⟩:=zq
 refine thn (hi pins s1 σ H1 _ I1 q1) λiv s2 zq1=>?_
 obtain⟨y,H2,I2,ry,a,v,ex,g,q2⟩:=zq1
 subst ex
 obtain rfl:u=Value.ref a:=rx
 exact⟨zmu I2 g,zpu hu I2 g ry λw' s3 I3 rw'=>⟨v,H2,I3,rw',q2⟩⟩
theorem zug(hu:X.A.units+1<cLine)(ho:PE X o td)(hi:PE X i ty)(hv:PE X value tv)(hs:swapsWith value (some (.Subscript o i pos')) pos.line X.env=pure false):
 PS X (.Assign [.Subscript o i pos'] value pos) (zuu td ty tv):=by
 intro pins s σ H D I h
 refine wpAny_Assign_Subscript (thn (hv pins s σ H _ I h) λr s1 zq=>?_) hs
 obtain⟨v,H1,I1,rv,q1⟩:=zq
 refine thn (ho pins s1 σ H1 _ I1 q1) λu s2 zq1=>?_
 obtain⟨x,H2,I2,rx,q2⟩:=zq1
 refine thn (hi pins s2 σ H2 _ I2 q2) λiv s3 zq2=>?_
 obtain⟨y,H3,I3,ry,a,H4,ex,g,q3⟩:=zq2
 subst ex
 obtain rfl:u=Value.ref a:=rx
 exact zpN hu I3 g ry rv λs4 I4=>⟨σ,H4,I4,q3⟩
end
theorem zlp(h:Heap)(hb:sysModules<h.objs.size):ObjOk P w H (h.push {cls:= .type "dict",data:= .dict #[]}) h.objs.size (.dK []):=
 ⟨Z1 _,beq_eq_false_iff_ne.mpr (Ne.symm (V1 hb)),[], .nil,Heap.DictOf.new h⟩
theorem zrt(h:Heap)(hb:sysModules<h.objs.size):ObjOk P w H (h.push {cls:= .type "dict",data:= .dict #[]}) h.objs.size (.dT []):=
 ⟨Z1 _,beq_eq_false_iff_ne.mpr (Ne.symm (V1 hb)),[], .nil,_, #[],0,Q0 _ rfl,⟨rfl,rfl,rfl⟩,rfl,rfl,List.nodup_nil⟩
noncomputable def zmZ:TE:=λ_ H Q=>∀p,H p=none->Q (.ref p) (upd H p (.dK []))
noncomputable def zrC:TE:=λ_ H Q=>∀p,H p=none->Q (.ref p) (upd H p (.dT []))
theorem zqZ:PE X (.Dict [] [] pos) zmZ:=λpins s σ H Q I h=>
 wpAny_Dict_empty ⟨.ref s.heap.objs.size,_,I.laid (a:=s.heap.objs.size) (o:= .dK []) (t':=s.toks) (λ_ _ q=>G0 _ q) (S0 _) (zlp s.heap I.big),rfl,h _ (I.hok.fresh (S0 _))⟩
theorem zrY:PE X (.Dict [] [] pos) zrC:=λpins s σ H Q I h=>
 wpAny_Dict_empty ⟨.ref s.heap.objs.size,_,I.laid (a:=s.heap.objs.size) (o:= .dT []) (t':=s.toks) (λ_ _ q=>G0 _ q) (S0 _) (zrt s.heap I.big),rfl,h _ (I.hok.fresh (S0 _))⟩
def zq0:List (TE×TE)->St->Hp->(List (V×V)->Hp->Prop)->Prop
 |[],_,H,Q=>Q [] H
 |(tk,tv)::r,σ,H,Q=>tk σ H λx H1=>tv σ H1 λy H2=>zq0 r σ H2 λps H3=>Q ((x,y)::ps) H3
abbrev VV:List (V×V)->List (Value×Value)->Prop:=Paired λp q=>RelV p.1 q.1/\RelV p.2 q.2
def PPs(X:Cx)(pos:Pos)(keys:List (Option Expr))(values:List Expr)(trs:List (TE×TE)):Prop:=
 ∀(pins:List (Addr×Obj)) (s:Shared) (σ:St) (H:Hp) (Q:List (V×V)->Hp->Prop),Inv X pins σ H s->zq0 trs σ H Q->
  wpAny (model X.prog X.w) X.A (evalPairs (pairTrees keys values X.env pos)) (λvs s'=>∃ps H',Inv X pins σ H' s'/\VV ps vs/\Q ps H') X.xe s
structure M1(X:Cx)(o:Expr)(m:Str)(apos:Pos)(e:Expr)(cpos:Pos):Prop where
 base:attributeBase o m X.env (eval o X.env)=eval o X.env
 few:((backTo cpos (starEach [e] X.env)).all (λx=>!x.1)&&(backToKw cpos (keywordEach [] X.env)).all (λx=>x.1.isSome)
  &&decide (([e]:List Expr).length+([]:List Keyword).length+(if([]:List Keyword).isEmpty then 0 else 1)<30))=true
 line:(apos.endLine==cpos.line)=true
 trees:backTo cpos (starEach [e] X.env)=[(false,eval e X.env)]
structure M2(X:Cx)(o:Expr)(m:Str)(apos:Pos)(e f:Expr)(cpos:Pos):Prop where
 base:attributeBase o m X.env (eval o X.env)=eval o X.env
 few:((backTo cpos (starEach [e,f] X.env)).all (λx=>!x.1)&&(backToKw cpos (keywordEach [] X.env)).all (λx=>x.1.isSome)
  &&decide (([e,f]:List Expr).length+([]:List Keyword).length+(if([]:List Keyword).isEmpty then 0 else 1)<30))=true
 line:(apos.endLine==cpos.line)=true
 trees:backTo cpos (starEach [e,f] X.env)=[(false,eval e X.env),(false,eval f X.env)]
variable{base:Heap}
def IsD(H:Hp)(a:Addr):Prop:=(∃kvs,Rd H a (.dK kvs))\/∃kvs,Rd H a (.dT kvs)
theorem zu6(I:Inv X pins σ H s)(d:IsD H a):
 s.TypeIs (.ref a) "dict"/\(∀b,Value.ref a= .ref b->∃ob,s.heap.get? b=some ob/\ob.dict=none)/\(a==sysModules)=false:=by
 rcases d with⟨kvs,e⟩|⟨kvs,e⟩
 ·obtain ⟨_,hd,vs,_,dd⟩:=zmC I.hok e
  refine⟨dd.typeIs,λb q=>?_,hd⟩
  cases q
  obtain⟨ob,_,_,h1,h2,_⟩:=dd
  exact⟨ob,h1,h2.2.1⟩
 ·obtain ⟨_,hd,xs,_,dd⟩:=zlN I.hok e
  refine⟨dd.typeIs,λb q=>?_,hd⟩
  cases q
  obtain⟨ob,_,_,h1,h2,_⟩:=dd
  exact⟨ob,h1,h2.2.1⟩
section
variable{y d:V}{r:Value}{o:Option V}
theorem zuY(hu:A.units+1<cLine)(I:Inv X pins σ H s)(g:DGet H a y o)(ry:RelV y u)(rd:RelV d r)(h:∀w' s',Inv X pins σ H s'->RelV (o.getD d) w'->Q w' s'):
 wpAny (model X.prog X.w) A (call (.builtin "dict.get") [.ref a,u,r]) Q E s:=by
 rcases g with⟨kvs,k,e,ey,l⟩|⟨kvs,k,b,e,ey,eb,l⟩
 ·subst ey
  obtain⟨z,hd,vs,rel,dd⟩:=zmC I.hok e
  refine call_meetsIn F.slot_dict_get dd.typeIs F.entry_dict_get (F.args_dict_get_3 _ _ _) (meets_dict_get_default (zak X.prog X.w) a (zlS ry) hd r) ⟨_,dd.mapOf,h _ _ (I.tok _) ?_⟩
  rw[l]
  exact(rel.val k).getD rd
 ·subst ey
  cases(show u=Value.ref b from ry)
  obtain⟨z,hd,xs,rel,dd⟩:=zlN I.hok e
  refine call_meetsIn F.slot_dict_get dd.typeIs F.entry_dict_get (F.args_dict_get_3 _ _ _) (meetsH_dict_get_default (tupleKind (zak X.prog X.w)) a b hd r) ⟨tupleKind_room_in1 hu,k,xs,zkj I.hok eb,dd,h _ _ (I.tok _) ?_⟩
  rw[l]
  exact(rel.val k).getD rd
end
noncomputable def zqH(td ty tx:TE):TE:=λσ H Q=>td σ H λx H1=>∃a,x= .ref a/\IsD H1 a/\ty σ H1 λy H2=>tx σ H2 λz H3=>∃o,DGet H3 a y o/\Q (o.getD z) H3
section
variable{o e f:Expr}{td ty:TE}
theorem zqm(hu:X.A.units+1<cLine)(ho:PE X o td)(he:PE X e ty)(hf:PE X f tx)(m:M2 X o "get" apos e f cpos):PE X (.Call (.Attribute o "get" apos) [e,f] [] cpos) (zqH td ty tx):=by
 intro pins s σ H Q I h
 refine wpAny_Call_method m.base m.few m.line F.plainAttrs_dict F.slot_dict_get F.type_dict_get (thn (ho pins s σ H _ I h) λu s1 zq=>?_)
 obtain⟨x,H1,I1,rx,a,ex,d,q1⟩:=zq
 subst ex
 obtain rfl:u=Value.ref a:=rx
 obtain⟨t1,t2,_⟩:=zu6 I1 d
 refine⟨t1,t2,?_⟩
 rw[m.trees]
 refine Calls.callWith_builtin rfl (Calls.evalArgs_plain (Calls.spliced_cons (thn (he pins s1 σ H1 _ I1 q1) λiv s2 ⟨y,H2,I2,ry,q2⟩=>
  Calls.spliced_cons (thn (hf pins s2 σ H2 _ I2 q2) λfv s3 ⟨z,H3,I3,rz,ov,g,q3⟩=>Calls.spliced_nil ?_))))
 exact zuY hu I3 g ry rz λw' s4 I4 rw'=>⟨_,H3,I4,rw',q3⟩
end
section
variable{y:V}
end
theorem zkd:OpR X (compareOp .LtE) (λx y H Q=>∃i j,x= .str i/\y= .str j/\Q (.bl (!decide (j.cps.toList<i.cps.toList))) H):=by
 intro pins s σ H x y v u Q I rx ry h
 obtain⟨i,j,rfl,rfl,q⟩:=h
 obtain⟨t,rfl⟩:=rx
 obtain⟨t',rfl⟩:=ry
 exact P.le_str (zQ I q rfl)
theorem zko:∀{bs:List Bool} {us:List Value} {i:Nat} {v:Value},Vals (bs.map V.bl) us->us[i]?=some v->∃b,bs[i]?=some b/\v= .bool b
 |[],_,_,_, .nil,e=>by simp at e
 |b::bs,_,0,v, .cons r _,e=>by
  simp at e
  subst e
  exact⟨b,rfl,r⟩
 |b::bs,_,i+1,v, .cons _ t,e=>by
  obtain⟨c,h1,h2⟩:=zko (i:=i) t (by simpa using e)
  exact⟨c,by simpa using h1,h2⟩
noncomputable def atB(bs:List Bool)(j:Nat):Bool:=match bs[j]? with|some b=>b|none=>true
theorem zkU(bs:List Bool):(List.range bs.length).all (atB bs)=bs.all id:=by
 refine Eq.trans ?_ (PyProof.Rows.all_rangeD bs (id:Bool->Bool))
 congr 1
 funext j
 unfold atB
 cases bs[j]?<;>rfl
theorem zdT(hc:X.calm=true):CallR X (.builtin "all") (λxs H Q=>∃(p:Addr) (bs:List Bool),xs=[.ref p]/\SqL X.K H p (bs.map V.bl)/\Q (.bl (bs.all id)) H):=by
 intro pins s σ H xs us Q I r h
 obtain⟨p,bs,rfl,hq,q⟩:=h
 obtain⟨u,rfl,ru⟩:=zdM r
 cases ru
 obtain⟨its,rv,pl,hz⟩:=I.list hq
 have hp:p≠s.heap.objs.size:=V1 pl.lt
 refine call_all_walk (wpAny_pyIter_list pl.isList ?_)
 refine⟨s.heap.objs.size,_,_,_,_,_,atB bs,rfl,Walks.list (A:=X.A.in1) (show X.A.in1.handled=none from I.ok.hd hc) _ p hp its.toArray,⟨⟨_,Q0 _ rfl,rfl,rfl⟩,?_⟩,?_,λh' tk hk=>?_⟩
 ·obtain ⟨o,n,e,c,_,d⟩:=pl
  exact⟨o,G0 _ e,c,n,d⟩
 ·intro i v s' Q' E' hP hQ
  obtain⟨b,h1,rfl⟩:=zko (i:=i) (v:=v) rv (by simpa using hP)
  refine K3 ?_
  have e:atB bs i=b:=by unfold atB;rw[h1]
  rw[e] at hQ
  exact hQ
 ·have hl:its.toArray.size=bs.length:=by
   have:=rv.length
   simp at this
   simp[this]
  rw[hl,zkU]
  refine⟨.bl (bs.all id),H,I.kept λb o e=>hk b o ?_ (G0 _ e),rfl,q⟩
  intro z
  have:b=s.heap.objs.size:=by simpa using z
  exact absurd (Y0 e) (by rw[this];exact Nat.lt_irrefl _)
theorem zbU:∀{ys:List Str} {us:List Value},Vals (ys.map V.str) us->StrsAre us ys
 |[],_, .nil=>by first|exact .nil|trivial
 |y::ys,_, .cons r t=>by
  obtain⟨k,rfl⟩:=r
  first
   |exact .cons _ _ (zbU t)
   |exact .cons (zbU t)
   |exact⟨⟨k,rfl⟩,zbU t⟩
noncomputable def ziF(z:Str)(n:Nat):Str:=⟨(List.replicate n z.cps).foldl (·++·) #[]⟩
theorem zm0:OpR X (binaryOp .Mult) (λx y H Q=>∃z n,x= .str z/\y= .int n/\1<n/\n<=1000/\0<z.length/\z.length<=1000/\Q (.str (ziF z n.toNat)) H):=by
 intro pins s σ H x y v u Q I rx ry h
 obtain⟨z,n,rfl,rfl,h1,h2,h3,h4,q⟩:=h
 obtain⟨t,rfl⟩:=rx
 obtain⟨t',rfl⟩:=ry
 have e1:¬n<1:=()
 have e2:(n==1||z.length==0)=false:=by
  have a:(n==1)=false:=beq_eq_false_iff_ne.mpr ()
  have b:(z.length==0)=false:=beq_eq_false_iff_ne.mpr ()
  rw[a,b];rfl
 have hz:z.length*n.toNat<=1000*1000:=Nat.mul_le_mul h4 ()
 refine P.mul_str ?_ (λ_ _=>?_) (λ_ _=>?_) ?_
 ·have a:decide (n< -(2^63:Int))=false:=U0 ()
  have b:decide (n≥2^63)=false:=U0 ()
  rw[a,b];rfl
 ·have hd:(1000:Int)<=(2^63 -1)/n:=by
   apply Int.le_ediv_of_mul_le ()
   lia
  lia
 ·have hb:z.length*n.toNat<=sizeLine:=Y1 hz ⋯
  unfold Builtin.Str.tooLong
  exact U0 ()
 ·rw[N0 e1,e2]
  simp only[P3,if_false]
  refine⟨?_,⟨.str _,H,I.tok _,⟨_,rfl⟩,q⟩⟩
  have key:∀(k:Nat) (acc:Array Nat),((List.replicate k z.cps).foldl (·++·) acc).size=acc.size+k*z.cps.size:=by
   intro k
   induction k with
   |zero=>intro acc;simp
   |succ k ih=>intro acc;rw[V2,List.foldl_cons,ih,Array.size_append,Nat.succ_mul];lia
  have hk:=key n.toNat #[]
  have hz':n.toNat *z.cps.size<=1000*1000:=Nat.mul_le_mul () h4
  have hsl:1000*1000<=sizeLine:=⋯
  show((List.replicate n.toNat z.cps).foldl (·++·) #[]).size<=sizeLine
  rw[hk]
  simp only[Array.size_empty]
  lia
theorem zcW:CallR X (.builtin "isinstance") (λxs H Q=>∃x T t b,xs=[x, .ty T]/\TyOf X.K H x t/\W.kitOne X.K t (.type T)=some b/\Q (.bl b) H):=by
 intro pins s σ H xs us Q I r h
 obtain⟨x,T,t,b,rfl,ht,hk,q⟩:=h
 obtain⟨u,w',rfl,ru,rw'⟩:=zj7 r
 cases rw'
 exact zpF I ru ht hk λtk=>⟨.bl b,H,I.tok _,rfl,q⟩
noncomputable def Its(x:Str):It:=⟨λi _=>i<x.length,λi H y H'=>H'=H/\∃c,x.cps[i]?=some c/\y= .str ⟨#[c]⟩,λi _=>x.length<=i⟩
theorem zp5(x:Str)(t:Tok)(it:Addr):Turn P w K tg (Its x) [it] it (λi h=>h.IsStrIter it "str_ascii_iterator" x t i) where
 mem:=`Z3
 obj:=λi h st b hb=>by
  have e:b=it:=by simpa using hb
  subst e
  obtain⟨o,e,c,d⟩:=st
  exact⟨o,e,λv z=>by rw[d] at z;cases z⟩
 keep:=λi h h' st k=>by
  obtain⟨o,e,r⟩:=st
  exact⟨o,k it `Z3 o e,r⟩
 item:=by
  intro X hP hw hK hc i pins s σ H E I hf st hg
  subst hP hw hK
  have hi:i<x.cps.size:=hg
  obtain⟨f0,f1,f2,f3,f4,f5⟩:=hf it `Z3
  refine wpAny_pyNext_ascii_item st (c:=x.cps[i]) (by simp[hi]) λh' st' sb=>?_
  have I1:Inv X pins σ H {s with heap:=h',toks:=s.toks+1}:=I.turned (t':=s.toks+1) (λb o hb e=>(sb.2 b hb).trans e) f0 f1 f3 f4 f5
  obtain⟨o,e,c,d⟩:=id st'
  exact⟨_,rfl,zjO (s:={s with heap:=h',toks:=s.toks+1}) e c d ⋯ ⟨.str ⟨#[x.cps[i]]⟩,H,I1,⟨_,rfl⟩,⟨rfl,x.cps[i],by simp[hi],rfl⟩,st',λb hb=>(hf b hb).1⟩⟩
 done:=by
   intro X hP hw hK hc i pins s σ H E I hf st hg
   subst hP hw hK
   have hi:x.cps.size<=i:=hg
   obtain⟨f0,f1,f2,f3,f4,f5⟩:=hf it `Z3
   exact wpAny_pyNext_ascii_end (I.ok.hd hc) st (by simp[hi]) λh' eb=>⟨rfl,I.turned (t':=s.toks) (λb o hb e=>eb b o hb e) f0 f1 f3 f4 f5⟩
 self:=λ_ _ _ _ _ st h=>wpAny_pyIter_striter_ascii st h
theorem zpL(x:Str)(t:Tok)(it:Addr):Turn P w K tg (Its x) [it] it (λi h=>h.IsStrIter it "str_iterator" x t i) where
 mem:=`Z3
 obj:=λi h st b hb=>by
  have e:b=it:=by simpa using hb
  subst e
  obtain⟨o,e,c,d⟩:=st
  exact⟨o,e,λv z=>by rw[d] at z;cases z⟩
 keep:=λi h h' st k=>by
  obtain⟨o,e,r⟩:=st
  exact⟨o,k it `Z3 o e,r⟩
 item:=by
  intro X hP hw hK hc i pins s σ H E I hf st hg
  subst hP hw hK
  have hi:i<x.cps.size:=hg
  obtain⟨f0,f1,f2,f3,f4,f5⟩:=hf it `Z3
  refine wpAny_pyNext_wide_item st (c:=x.cps[i]) (by simp[hi]) λh' st' sb=>?_
  have I1:Inv X pins σ H {s with heap:=h',toks:=s.toks+1}:=I.turned (t':=s.toks+1) (λb o hb e=>(sb.2 b hb).trans e) f0 f1 f3 f4 f5
  obtain⟨o,e,c,d⟩:=id st'
  exact⟨_,rfl,zjO (s:={s with heap:=h',toks:=s.toks+1}) e c d ⋯ ⟨.str ⟨#[x.cps[i]]⟩,H,I1,⟨_,rfl⟩,⟨rfl,x.cps[i],by simp[hi],rfl⟩,st',λb hb=>(hf b hb).1⟩⟩
 done:=by
   intro X hP hw hK hc i pins s σ H E I hf st hg
   subst hP hw hK
   have hi:x.cps.size<=i:=hg
   obtain⟨f0,f1,f2,f3,f4,f5⟩:=hf it `Z3
   exact wpAny_pyNext_wide_end (I.ok.hd hc) st (by simp[hi]) λh' eb=>⟨rfl,I.turned (t':=s.toks) (λb o hb e=>eb b o hb e) f0 f1 f3 f4 f5⟩
 self:=λ_ _ _ _ _ st h=>wpAny_pyIter_striter_wide st h
noncomputable def zwM(tl:TE):TI:=λσ H R=>tl σ H λy H1=>∃x,y= .str x/\R (Its x) H1
theorem zvZ{l:Expr}(hl:PE X l tl):PI X tg l (zwM tl):=by
 intro pins s σ H R I h
 refine thn (hl pins s σ H _ I h) λv s1 zq=>?_
 obtain⟨y,H1,I1,r1,q1⟩:=zq
 obtain⟨x,rfl,q⟩:=q1
 obtain⟨t,rfl⟩:=r1
 cases ha:x.cps.all (·<128)
 ·refine wpAny_pyIter_wide ha ⟨s1.heap.objs.size,[s1.heap.objs.size],_,_,H1,rfl,I1.kept (t':=s1.toks) λb o e=>G0 _ e,zpL x t _,⟨_,Q0 _ rfl,rfl,rfl⟩,λb hb=>?_,q⟩
  have e:b=s1.heap.objs.size:=by simpa using hb
  subst e
  exact I1.fpOk (S0 _) (I1.hok.fresh (S0 _))
 ·refine wpAny_pyIter_ascii ha ⟨s1.heap.objs.size,[s1.heap.objs.size],_,_,H1,rfl,I1.kept (t':=s1.toks) λb o e=>G0 _ e,zp5 x t _,⟨_,Q0 _ rfl,rfl,rfl⟩,λb hb=>?_,q⟩
  have e:b=s1.heap.objs.size:=by simpa using hb
  subst e
  exact I1.fpOk (S0 _) (I1.hok.fresh (S0 _))
theorem za0:bootBuiltins "len"=some (.builtin "len"):=`Y3
theorem zh2:bootBuiltins "all"=some (.builtin "all"):=`Y3
theorem zvI:bootBuiltins "any"=some (.builtin "any"):=`Y3
theorem zV:bootBuiltins "isinstance"=some (.builtin "isinstance"):=`Y3
theorem zqF:bootBuiltins "max"=some (.builtin "max"):=`Y3
theorem zgz:bootBuiltins "min"=some (.builtin "min"):=`Y3
theorem zcU:bootBuiltins "sorted"=some (.builtin "sorted"):=`Y3
theorem zgG:bootBuiltins "int"=some (.type "int"):=`Y3
theorem zrA:bootBuiltins "str"=some (.type "str"):=`Y3
theorem zaK:bootBuiltins "tuple"=some (.type "tuple"):=`Y3
theorem ztH:bootBuiltins "list"=some (.type "list"):=`Y3
theorem zow:bootBuiltins "bool"=some (.type "bool"):=`Y3
theorem few{xs:List α}(h:Nat.ble xs.length 1000=true):xs.length<=sizeLine:=P2 (zp (J1 h))
noncomputable def zgs:Expr->Option V
 | .Constant (.str x) _ _=>some (.str x)
 | .Constant (.int i) _ _=>some (.int i)
 | .Constant (.bool b) _ _=>some (.bl b)
 | .Constant .none _ _=>some .non
 |_=>none
theorem zsB{e:Expr}(h:zgs e=some v):PE X e (tC v)/\∀es,starEach (e::es) X.env=(false,eval e X.env)::starEach es X.env:=by
 cases e with
 |Constant c j pos=>
  cases c with
  |str x=>cases h;exact⟨zrx,λ_=>rfl⟩
  |int x=>cases h;exact⟨zrF,λ_=>rfl⟩
  |bool x=>cases h;exact⟨zuA,λ_=>rfl⟩
  |none=>cases h;exact⟨zrS,λ_=>rfl⟩
  |_=>cases h
 |_=>cases h
noncomputable def zw5(vs:List V):TA:=λ_ H Q=>Q vs H
theorem zf5:∀{es:List Expr} {vs:List V},es.mapM zgs=some vs->PA X es (zw5 vs)
 |[],vs,h=>by
  have e:vs=[]:=by simpa using h.symm
  subst e
  exact zrX
 |e::es,vs,h=>by
  rw[List.mapM_cons] at h
  cases h1:zgs e with
  |none=>rw[h1] at h;cases h
  |some v=>
   rw[h1] at h
   cases h2:es.mapM zgs with
   |none=>rw[h2] at h;cases h
   |some us=>
    rw[h2] at h
    have e1:v::us=vs:=U1 h
    subst e1
    obtain⟨p,st⟩:=zsB (X:=X) h1
    have q:=zoY p (zf5 (es:=es) h2) (st es)
    exact q
noncomputable def zuo(vs:List V):TE:=λ_ H Q=>vs.length<=sizeLine/\∀p,H p=none->Q (.ref p) (upd H p (.lst vs))
theorem ztM(vs:List V)(h:es.mapM zgs=some vs):PE X (.List es pos) (zuo vs):=zqN (zf5 h)
structure Wk(J:It)(n:Nat)(P:Nat->V->Prop)(ok:Hp->Prop):Prop where
 stop:∀i H,ok H->n<=i->J.stop i H
 go:∀i H,ok H->i<n->J.go i H
 yld:∀i H x H',ok H->i<n->J.yld i H x H'->H'=H/\P i x
theorem zhw:Wk (Itl K a) xs.length (λi x=>xs[i]?=some x) (λH=>SqL K H a xs) where
 stop:=λi H h l=>⟨xs,h,l⟩
 go:=λi H h l=>⟨xs,xs[i],h,by simp[l]⟩
 yld:=λi H x H' h l y=>⟨y.1,y.2 xs h⟩
theorem zbk:Wk (Itt K a) xs.length (λi x=>xs[i]?=some x) (λH=>SqT K H a xs) where
 stop:=λi H h l=>⟨xs,h,l⟩
 go:=λi H h l=>⟨xs,xs[i],h,by simp[l]⟩
 yld:=λi H x H' h l y=>⟨y.1,y.2 xs h⟩
theorem zdZ{lo:Int}{n:Nat}:Wk (Itr lo n) n (λi x=>x= .int (lo+i)) (λ_=>True) where
 stop:=λi H h l=>l
 go:=λi H h l=>l
 yld:=λi H x H' h l y=>y
theorem zvm:Wk (Its x) x.length (λi y=>∃c,x.cps[i]?=some c/\y= .str ⟨#[c]⟩) (λ_=>True) where
 stop:=λi H h l=>l
 go:=λi H h l=>l
 yld:=λi H x H' h l y=>y
theorem zcx{n:Nat}{P:Nat->V->Prop}{ok:Hp->Prop}{g:TG}{src:List (Option Nat)}{Q:VK}(wk:Wk J n P ok)(Pv:Addr->Nat->List V->St->Hp->Prop)
 (h0:∀l,H1 l=none->Pv l 0 [] (zfA src σ) (upd H1 l (.lst []))) (hok:∀l i ys σ H,H1 l=none->Pv l i ys σ H->ok H)
 (hs:∀l i x ys σ H,H1 l=none->i<n->P i x->Pv l i ys σ H->H l=some (.lst ys)->g x σ H λσ2 H3=>tc σ2 H3 λb H4=>
   if b=true then te σ2 H4 λy H5=>H5 l=some (.lst ys)/\ys.length<sizeLine/\Pv l (i+1) (ys ++ [y]) σ2 (upd H5 l (.lst (ys ++ [y])))else H4 l=some (.lst ys)/\Pv l (i+1) ys σ2 H4)
 (hd:∀l ys σ H,H1 l=none->Pv l n ys σ H->H l=some (.lst ys)->Q (.ref l) H):
 ze0 g tc te src σ Q J H1:=by
 intro l hl
 refine⟨λi m ys σ H=>m=n -i/\i<=n/\Pv l i ys σ H,⟨n,`Z3,Z1 _,h0 l hl⟩,?_⟩
 rintro i m ys σ' H' ⟨rfl,hi,p⟩ hl'
 by_cases hlt:i<n
 ·refine .inr ⟨wk.go i H' (hok l i ys σ' H' hl p) hlt,Pv l (i+1),λzs σ2 H2 q=>⟨n -(i+1),(),rfl,hlt,q⟩,λx H2 y=>?_⟩
  obtain⟨rfl,px⟩:=wk.yld i H' x H2 (hok l i ys σ' H' hl p) hlt y
  exact hs l i x ys σ' _ hl hlt px p hl'
 ·have e:i=n:=()
  subst e
  exact .inl ⟨wk.stop _ _ (hok l _ ys σ' H' hl p) (S0 _),hd l ys σ' H' hl p hl'⟩
theorem zbe{n:Nat}{P:Nat->V->Prop}{ok:Hp->Prop}{g:TG}{D:Ends}(wk:Wk J n P ok)(Pv:Nat->St->Hp->Prop)(h0:Pv 0 σ H)(hok:∀i σ H,Pv i σ H->ok H)
 (hs:∀i x σ H,i<n->P i x->Pv i σ H->g x σ H λσ2 H2=>tb {D with nx:=Pv (i+1),ct:=Pv (i+1),bk:=D.nx} σ2 H2) (hd:∀σ H,Pv n σ H->D.nx σ H):
 zux g tb D σ J H:=by
 refine⟨λi m σ H=>m=n -i/\i<=n/\Pv i σ H,⟨n,`Z3,Z1 _,h0⟩,?_⟩
 rintro i m σ H ⟨rfl,hi,p⟩
 by_cases hlt:i<n
 ·refine .inr ⟨wk.go i H (hok i σ H p) hlt,Pv (i+1),λσ' H' q=>⟨n -(i+1),(),rfl,hlt,q⟩,λx H' y=>?_⟩
  obtain⟨rfl,px⟩:=wk.yld i H x H' (hok i σ H p) hlt y
  exact hs i x σ _ hlt px p
 ·have e:i=n:=()
  subst e
  exact .inl ⟨wk.stop _ _ (hok _ σ H p) (S0 _),hd σ H p⟩
structure QE(X:Cx)(e:Expr)(t:TE):Prop where o:PE X e t
structure QT(X:Cx)(e:Expr)(t:TT):Prop where o:PT X e t
structure QW(X:Cx)(e:Expr)(t:TT):Prop where o:PW X e t
structure QA(X:Cx)(es:List Expr)(t:TA):Prop where o:PA X es t
structure QS(X:Cx)(s:Stmt)(t:TS):Prop where o:PS X s t
structure QB(X:Cx)(s:List Stmt)(t:TS):Prop where o:PSs X s t
structure QI(X:Cx)(tg iter:Expr)(t:TI):Prop where o:PI X tg iter t
structure QG(X:Cx)(tg:Expr)(t:TG):Prop where o:PG X tg t
structure QGs(X:Cx)(tg:List Expr)(t:TGs):Prop where o:PGs X tg t
structure QF(X:Cx)(ifs:List Expr)(t:TT):Prop where o:PIf X ifs t
structure QO(X:Cx)(e:Option Expr)(t:TO):Prop where o:PO X e t
structure QPs(X:Cx)(pos:Pos)(keys:List (Option Expr))(values:List Expr)(trs:List (TE×TE)):Prop where o:PPs X pos keys values trs
section
variable{a b c e o i:Expr}{ta tb tc to:TE}{t u:TA}{p:Pos}{q q':TT}
theorem qv(i:Nat)(hN:autoParam (X.N[i]?=some x) u4)(hv:Vis X.env.scope x:=by exact Or.inl rfl)(hd:autoParam ((x==("__debug__":Str))=false) v5)
 (hcd:autoParam ((x==("__classdict__":Str))=false) v5):QE X (.Name x pos) (zdQ i):=⟨zrL hN hv hd hcd⟩
theorem qc(i:Nat)(hN:autoParam (X.N[i]?=some x) u4)(hv:autoParam (X.env.scope.names.lookup x=some .cell) u4)(hd:autoParam ((x==("__debug__":Str))=false) v5)
 (hcd:autoParam ((x==("__classdict__":Str))=false) v5):QE X (.Name x pos) (zdQ i):=⟨zrL hN (.inr (.inl hv)) hd hcd⟩
theorem zg{k:Int}:QE X (.Constant (.int k) j pos) (tC (.int k)):=⟨zrF⟩
theorem zu{k:Str}:QE X (.Constant (.str k) j pos) (tC (.str k)):=⟨zrx⟩
theorem zgc{k:Bool}:QE X (.Constant (.bool k) j pos) (tC (.bl k)):=⟨zuA⟩
theorem zcj:QE X (.Constant .none j pos) (tC .non):=⟨zrS⟩
theorem zaF{u:Value}(hm:X.mg x=some u)(r:RelV v u)(hg:autoParam (Gl X x) u4)(hd:autoParam ((x==("__debug__":Str))=false) v5):QE X (.Name x pos) (tC v):=⟨zta hg hm r hd⟩
theorem zl1{T:String}(hm:X.mg x=none)(hv:bootBuiltins x=some (.type T))(hg:autoParam (Gl X x) u4)(hn:autoParam (x≠"__name__") v5)(hd:autoParam ((x==("__debug__":Str))=false) v5):QE X (.Name x pos) (tC (.ty T)):=⟨ztR hg hm hv rfl hn hd⟩
theorem zF{op:Operator}{r:R2}(ho:OpR X (binaryOp op) r)(ha:QE X a ta)(hb:QE X b tb):QE X (.BinOp a op b pos) (tOp r ta tb):=⟨zws ho ha.o hb.o⟩
theorem zr1{op:UnaryOp}{r:V->Hp->VK->Prop}(ho:UnR X (unaryOp op) r)(ha:QE X a ta):QE X (.UnaryOp op a pos) (tUn r ta):=⟨zwP ho ha.o⟩
theorem zaY{r:R2}(ho:OpR X (compareOp op) r)(ha:QE X a ta)(hb:QE X b tb)(hm:autoParam (behindInMarks op b=false) u4):QE X (.Compare a [op] [b] pos) (tOp r ta tb):=⟨ztr ho ha.o hb.o hm⟩
theorem zK{r:R2}(ho:OpR X (compareOp op) r)(ha:QE X a ta)(hb:QE X b tb)(hm:autoParam (behindInMarks op b=false) u4):QT X (.Compare a [op] [b] pos) (zon (tOp r ta tb)):=⟨zti ho ha.o hb.o hm⟩
theorem zhI{r:R2}(ho:OpR X (compareOp op) r)(ho':OpR X (compareOp op') r')(ha:QE X a ta)(hb:QE X b tb)(hc:QE X c tc)
 (hm:autoParam (lastMarks [op,op'] [b,c]=false) y6):QE X (.Compare a [op,op'] [b,c] pos) (zkJ r r' ta tb tc):=⟨zrP ho ho' ha.o hb.o hc.o hm⟩
theorem zsI{r:R2}(ho:OpR X (compareOp op) r)(ho':OpR X (compareOp op') r')(ha:QE X a ta)(hb:QE X b tb)(hc:QE X c tc)
 (hm:autoParam (lastMarks [op,op'] [b,c]=false) y6):QT X (.Compare a [op,op'] [b,c] pos) (zon (zkJ r r' ta tb tc)):=⟨zrW ho ho' ha.o hb.o hc.o hm⟩
theorem zbv{op:BoolOp}(h:QE X a ta):QE X (.BoolOp op [a] pos) ta:=⟨zvP h.o⟩
theorem zbf(ha:QE X a ta)(hb:QE X (.BoolOp .And (b::rest) pos) tb):QE X (.BoolOp .And (a::b::rest) pos) (zuF ta tb):=⟨zvn ha.o hb.o⟩
theorem zxk(ha:QE X a ta)(hb:QE X (.BoolOp .Or (b::rest) pos) tb):QE X (.BoolOp .Or (a::b::rest) pos) (zwn ta tb):=⟨zwK ha.o hb.o⟩
theorem zma(ha:QE X a ta):QE X (.UnaryOp .Not a pos) (zum ta):=⟨zuZ ha.o⟩
theorem zvb(hc:QT X c q)(ha:QE X a ta)(hb:QE X b tb):QE X (.IfExp c a b pos) (tIf q ta tb):=⟨zqX hc.o ha.o hb.o⟩
theorem zvi(ha:QT X a q):QW X (.BoolOp .And [a] pos) q:=⟨zub ha.o⟩
theorem zhd(ha:QT X a q):QW X (.BoolOp .Or [a] pos) q:=⟨zu4 ha.o⟩
theorem zv7(ha:QT X a q)(hb:QW X (.BoolOp .And (b::rest) pos) q'):QW X (.BoolOp .And (a::b::rest) pos) (zwr q q'):=⟨zvz ha.o hb.o⟩
theorem zmd(ha:QT X a q)(hb:QW X (.BoolOp .Or (b::rest) pos) q'):QW X (.BoolOp .Or (a::b::rest) pos) (tOr q q'):=⟨zwX ha.o hb.o⟩
theorem t_w(h:QW X a q):QT X a q:=⟨h.o.pt⟩
theorem zcd(ha:QT X a q):QT X (.UnaryOp .Not a pos) (zww q):=⟨zuK ha.o⟩
theorem zbM(h:QE X e te)(he:autoParam (∀whole,isTrue e X.env whole=(do let v ←whole;standAt e.pos;holding [v] (truthy v))) t6):QT X e (tB te):=⟨zvr h.o he⟩
theorem ztt(h:QE X e te)(he:autoParam (∀whole,isTrue e X.env whole=(do let v ←whole;standAt e.pos;holding [v] (truthy v))) t6):QT X e (λσ H Q=>te σ H λx H'=>∃k,zvl X.K x H' k/\Q k H'):=⟨zql h.o he⟩
theorem zb:QA X [] zgP:=⟨zrX⟩
theorem za(ha:QE X e te)(hr:QA X es t)(hs:autoParam (starEach (e::es) X.env=(false,eval e X.env)::starEach es X.env) u4):QA X (e::es) (zbL te t):=⟨zoY ha.o hr.o hs⟩
theorem zn{k:Nat}(h:QA X es t):QE X (.Tuple es k pos) (zmQ t):=⟨zvh h.o⟩
theorem zaR(h:QA X es t):QE X (.List es pos) (znG t):=⟨zqN h.o⟩
theorem zix(vs:List V)(h:es.mapM zgs=some vs):QE X (.List es pos) (zuo vs):=⟨ztM vs h⟩
theorem zh{k:Nat}{ps:List Str}{ds:List Value}{E:XK}(F:FnOk X.prog X.w X.K X.mg X.base CX k f fd ps sp)(hr:Room k X.A)(hm:X.mg x=some (.ref f))(hk:W.keepIn X.K (.ref f)=true)(hb:Binds X.K fd ps ds)(hd:Vals dvs ds)(hx:zcn CX X E)
 (ha:QA X (e::es) t) (hg:autoParam (Gl X x) u4) (hdb:autoParam ((x==("__debug__":Str))=false) v5) (he:autoParam (starEach (e::es) X.env=(false,eval e X.env)::starEach es X.env) u4) (hpl:autoParam ((backTo pos (starEach es X.env)).any (·.1)=false) u4):
 QE X (.Call (.Name x p) (e::es) [] pos) (zqD sp dvs E t):=⟨ztV F hr hg hm hk hb hd hx ha.o hdb he hpl⟩
theorem zv{id:String}{r:List V->Hp->VK->Prop}(hc:CallR X (.builtin id) r)(hm:X.mg x=none)(hv:bootBuiltins x=some (.builtin id))(ha:QA X (e::es) t)(hg:autoParam (Gl X x) u4)(hn:autoParam (x≠"__name__") v5)(hdb:autoParam ((x==("__debug__":Str))=false) v5)
 (he:autoParam (starEach (e::es) X.env=(false,eval e X.env)::starEach es X.env) u4) (hpl:autoParam ((backTo pos (starEach es X.env)).any (·.1)=false) u4):QE X (.Call (.Name x p) (e::es) [] pos) (tCB r t):=⟨zrg hc hg hm hv ha.o hn hdb he hpl⟩
theorem zaj{T:String}{r:List V->Hp->VK->Prop}(hc:CallR X (.type T) r)(hm:X.mg x=none)(hv:bootBuiltins x=some (.type T))(ha:QA X (e::es) t)(hg:autoParam (Gl X x) u4)(hn:autoParam (x≠"__name__") v5)(hdb:autoParam ((x==("__debug__":Str))=false) v5)
 (he:autoParam (starEach (e::es) X.env=(false,eval e X.env)::starEach es X.env) u4) (hpl:autoParam ((backTo pos (starEach es X.env)).any (·.1)=false) u4):QE X (.Call (.Name x p) (e::es) [] pos) (tCB r t):=⟨zp8 hc hg hm hv ha.o hn hdb he hpl⟩
theorem zM{r:R2}(hr:IxR X r)(ha:QE X a ta)(hb:QE X b tb)(hs:autoParam (zoy b) u7):QE X (.Subscript a b pos) (tOp r ta tb):=⟨zwH hr ha.o hb.o hs⟩
theorem zgw:QO X none zge:=⟨zts⟩
theorem zgX(h:QE X e te):QO X (some e) (zj8 te):=⟨zsO h.o⟩
theorem zqd{r:V->Option Int->Option Int->Hp->VK->Prop}{lo hi:Option Expr}{tl th:TO}(hr:SlR X r)(he:QE X e te)(hl:QO X lo tl)(hu:QO X hi th):QE X (.Subscript e (.Slice lo hi none p) pos) (tSl r te tl th):=⟨zrn hr he.o hl.o hu.o⟩
theorem zgO{T id:String}{r:V->List V->Hp->VK->Prop}(pa:PlainAttrs T)(slot:Slot T name id)(hty:typeOf (.builtin id)=pure (.type "method_descriptor"))(hm:MtR X id r)(ho:QE X o to)(ha:QA X (e::es) t)
 (hbase:autoParam (attributeBase o name X.env (eval o X.env)=eval o X.env) u4)
 (hfew:autoParam (((backTo cpos (starEach (e::es) X.env)).all (λx=>!x.1)&&(backToKw cpos (keywordEach [] X.env)).all (λx=>x.1.isSome)
   &&decide ((e::es).length+([]:List Keyword).length+(if([]:List Keyword).isEmpty then 0 else 1)<30))=true) u4)
 (hline:autoParam ((apos.endLine==cpos.line)=true) u4) (hs:autoParam (starEach (e::es) X.env=(false,eval e X.env)::starEach es X.env) u4) (hplain:autoParam ((backTo cpos (starEach es X.env)).any (·.1)=false) u4):
 QE X (.Call (.Attribute o name apos) (e::es) [] cpos) (tBM X.K T r to t):=⟨zwc pa slot hty hm ho.o ha.o hbase hfew hline hs hplain⟩
theorem zkw(h:QE X e te):QI X tg e (zur X.K te):=⟨ztJ h.o⟩
theorem zcX(h:QE X e te):QI X tg e (zwp X.K te):=⟨zvy h.o⟩
theorem zwY(h:QE X e te):QI X tg e (zwM te):=⟨zvZ h.o⟩
theorem zfw(hm:X.mg "range"=none)(ha:QA X [a] t)(hg:autoParam (Gl X "range") u4)(hs:autoParam (starEach [a] X.env=[(false,eval a X.env)]) u4):QI X tg (.Call (.Name "range" p) [a] [] pos) (zut t):=⟨zpq hg hm ha.o hs⟩
theorem zqM(hm:X.mg "range"=none)(ha:QA X [a,b] t)(hg:autoParam (Gl X "range") u4)(hs:autoParam (starEach [a,b] X.env=[(false,eval a X.env),(false,eval b X.env)]) u4)(hs2:autoParam (starEach [b] X.env=[(false,eval b X.env)]) u4):QI X tg (.Call (.Name "range" p) [a,b] [] pos) (zuH t):=⟨zpR hg hm ha.o hs hs2⟩
theorem zo(k:Nat)(hN:X.N.Nodup)(hi:autoParam (X.N[k]?=some x) u4)(hx:autoParam (X.env.scope.names.lookup x=some .local) u4):QG X (.Name x pos) (zbH k):=⟨zof hN hi (.inl hx) (.inr hx)⟩
theorem zaA:QGs X [] zwu:=⟨ztx⟩
theorem zt{tg:TG}(h1:QG X e tg)(h2:QGs X es tgs)(hs:autoParam ((assignEach (e::es) X.env).map (·.2)=assign e X.env::(assignEach es X.env).map (·.2)) u4):QGs X (e::es) (zuD tg tgs):=⟨zqV h1.o h2.o hs⟩
theorem zcv(n:Nat){k:Nat}(hc:X.calm=true)(h:QGs X es tgs)(hn:autoParam ((assignEach es X.env).length=n) u4)(hst:autoParam ((assignEach es X.env).findIdx? (·.1)=none) u4):QG X (.Tuple es k pos) (zvC X.K n tgs):=⟨zvc hc h.o hn hst⟩
theorem zdj:QF X [] zp1:=⟨zt3⟩
theorem zob(h:QT X c q):QF X [c] q:=⟨zs1 h.o⟩
theorem zO:QB X [] zuG:=⟨zsX⟩
theorem zf{st:Stmt}(h1:QS X st sa)(h2:QB X sts sb):QB X (st::sts) (zpn sa sb):=⟨zlw h1.o h2.o⟩
theorem zi{st:Stmt}(h1:QS X st sa):QB X [st] sa:=⟨ztj h1.o⟩
theorem zae{A B:List Stmt}(hc:QT X c q)(ha:QB X A sa)(hb:QB X B sb):QS X (.If c A B pos) (zwS q sa sb):=⟨zwx hc.o ha.o hb.o⟩
theorem zr(h:QE X e te):QS X (.Return (some e) pos) (zvX te):=⟨zuO h.o⟩
theorem zaZ(he:QE X e te)(hs:autoParam (swapsWith e none pos.line X.env=pure false) u4):QS X (.Expr e pos) (zus te):=⟨zto he.o hs⟩
theorem zsv:QS X (.Continue pos) zuv:=⟨zmh⟩
theorem zx(k:Nat)(hN:X.N.Nodup)(he:QE X e te)(hi:autoParam (X.N[k]?=some x) u4)(hx:autoParam (X.env.scope.names.lookup x=some .local) u4)(hs:autoParam (swapsWith e (some (.Name x pos')) pos.line X.env=pure false) u4):
 QS X (.Assign [.Name x pos'] e pos) (zja te (zbH k)):=⟨zsj hN hi (.inl hx) he.o hs (.inr hx)⟩
theorem zh8(k:Nat)(hN:X.N.Nodup)(he:QE X e te)(hi:autoParam (X.N[k]?=some x) u4)(hx:autoParam (X.env.scope.names.lookup x=some .cell) u4)(hf:autoParam (X.fn x=true) u4)(hs:autoParam (swapsWith e (some (.Name x pos')) pos.line X.env=pure false) u4):
 QS X (.Assign [.Name x pos'] e pos) (zja te (zbH k)):=⟨zsj hN hi (.inr hx) he.o hs (.inl hf)⟩
theorem zcZ{g:TG}(hp:PassesOwn (model X.prog X.w) X.A X.env X.xe)(hc:X.calm=true)(hi:QI X tg iter wi)(hg:QG X tg g)(hb:QB X body sa)
 (hs:autoParam (∀x,foldedSetIterable iter X.env x=pure x) t6):QS X (.For tg iter body [] pos) (zup wi g sa):=⟨ztA hp hc hi.o hg.o hb.o hs⟩
end
section
variable{src:List (Option Nat)}{g:TG}
theorem zcp(ok:CompOk X.N osc N' src scope)(hsc:X.env.scope=osc)(hc:X.calm=true)(hi:QI X tg iter wi)
 (hg:∀cl C s₀ H₀ fp,QG (zH X N' scope cl C s₀ H₀ fp) tg g) (ht:∀cl C s₀ H₀ fp,QF (zH X N' scope cl C s₀ H₀ fp) ifs tc) (he:∀cl C s₀ H₀ fp,QE (zH X N' scope cl C s₀ H₀ fp) elt te)
 (hs:autoParam (∀x,foldedSetIterable iter X.env x=pure x) t6):QE X (.ListComp elt [⟨tg,iter,ifs,0⟩] scope pos) (zoG wi g tc te src):=
 ⟨zuh ok hsc hc hi.o (λcl C s₀ H₀ fp=>(hg cl C s₀ H₀ fp).o) (λcl C s₀ H₀ fp=>(ht cl C s₀ H₀ fp).o) (λcl C s₀ H₀ fp=>(he cl C s₀ H₀ fp).o) hs⟩
end
theorem Fun.okQ{mg:Str->Option Value}{st:Stmt}{ps:List Str}{k:Nat}(F:Fun K x qual st f fd)(S:FnScope N ps (zd st))(len:∀vs H Q E,sp vs H Q E->vs.length=ps.length)
 (hbody:∀(cdv:Value) (A:Around) (outer:List Env) (s:Shared) (H:Hp) (vs:List V) (Q:VK) (E:XK),Room k (A.deeper (envOfC qual (zd st) s.heap.objs.size f cdv))->sp vs H Q E->
   ∃t,QB (zjs CX0 P w K mg base N qual (zd st) f cdv A outer s H E).nox (zaa st) t/\t {nx:=λ_ H'=>Q .non H',rt:=Q} (zev N vs) H):FnOk P w K mg base CX0 (k+1) f fd ps sp:=
 F.ok S len λcdv A outer s H vs Q E hr h=>let ⟨t,a,b⟩:=hbody cdv A outer s H vs Q E hr h;⟨t,a.o,b⟩
theorem zvW{h:Heap}{m:Str->Option Value}(hn:h.Ns a m):∃o,h.get? a=some o/\∀v,o.data≠ .cell v:=
 let⟨o,es,ep,e,d,_⟩:=hn;⟨o,e,λv z=>by rw[d] at z;cases z⟩
theorem ztZ{h:Heap}{m:Str->Option Value}{o:Obj}(hn:h.Ns a m)(e:h.get? a=some o)(e':h'.get? a=some o):h'.Ns a m:=by
 obtain⟨o',es,ep,e1,r⟩:=hn
 rw[e] at e1
 cases e1
 exact⟨o,es,ep,e',r⟩
section
variable{src:List (Option Nat)}{g:TG}{k:Nat}
theorem znq(ok:CompOk X.N osc N' src scope)(hsc:X.env.scope=osc)(hc:X.calm=true)(hi:PI X tg iter wi)
 (hg:∀cl C s₀ H₀ fp,PG (zH X N' scope cl C s₀ H₀ fp) tg g) (ht:∀cl C s₀ H₀ fp,PIf (zH X N' scope cl C s₀ H₀ fp) ifs tc) (he:∀cl C s₀ H₀ fp,PE (zH X N' scope cl C s₀ H₀ fp) elt te)
 (hN:X.N.Nodup) (hk:X.N[k]?=some y) (hx:X.env.scope.names.lookup y=some .local) (hsw:swapsWith (.ListComp elt [⟨tg,iter,ifs,0⟩] scope pos) (some (.Name y py)) spos.line X.env=pure true)
 (hs:autoParam (∀x,foldedSetIterable iter X.env x=pure x) t6):PS X (.Assign [.Name y py] (.ListComp elt [⟨tg,iter,ifs,0⟩] scope pos) spos) (zja (zoG wi g tc te src) (zbH k)):=by
 intro pins s σ H D I h
 obtain⟨cl,hcl,c1,c2⟩:=zfv (scope:=scope) (env:=X.env) λy hy hyf=>I.ok.has y.1 (by
  have z:=ok.frees y hy hyf
  rw[←hsc] at z
  exact z)
 rw[exec_Assign_Name_used _ _ _ _ hsw]
 refine C0 (wpAny_standAt (C0 ?_))
 show wpAny _ X.A (do let _ ←comprehension (.ListComp elt [⟨tg,iter,ifs,0⟩] scope pos) scope X.env _ (newList []) false (eval iter X.env) (some (assign (.Name y py) X.env))) _ _ s
 refine C0 (D3 (wpAny_comprehension_free (use:=some (assign (.Name y py) X.env)) (Q:=λ_ s'=>∃σ' H',Inv X pins σ' H' s'/\D.nx σ' H') rfl hs hcl ok.kind ok.loc
  (thn (hi pins s σ H _ I h) λv s1 h1=>thn h1 λitv s2 h2=>?_)) (λ_ s' hq=>K0 (K0 hq)) λ_ _ e=>e)
 obtain⟨it,fp,tn,J,H2,e,I2,T,st2,f2,q2⟩:=h2
 subst e
 have hlt2:∀b∈fp,b<s2.heap.objs.size:=λb hb=>by
  obtain⟨o,e,_⟩:=T.obj _ _ st2 b hb
  exact Y0 e
 refine K2 ?_
 have hl:H2 s2.heap.objs.size=none:=I2.hok.fresh (S0 _)
 have I3:Inv X pins σ (upd H2 s2.heap.objs.size (.lst [])) {s2 with heap:=s2.heap.push {cls:= .type "list",dict:=none,data:= .seq ([]:List Value).toArray}}:=
  I2.laid (t':=s2.toks) (λb u e=>G0 _ e) (S0 _) ⟨Z1 _,[],0, .nil,Q0 _ rfl⟩
 obtain⟨W,⟨m0,w0⟩,turn⟩:=q2 _ hl
 generalize hl2:s2.heap.objs.size=l at *
 generalize hs3:({s2 with heap:=s2.heap.push {cls:= .type "list",dict:=none,data:= .seq ([]:List Value).toArray}}:Shared)=s3 at *
 have f3:∀b∈fp,zfL X pins (upd H2 l (.lst [])) b:=λb hb=>⟨by rw[ze (V1 (hlt2 b hb))];exact(f2 b hb).1,(f2 b hb).2⟩
 have k3:∀b o,s2.heap.get? b=some o->s3.heap.get? b=some o:=λb o e=>by rw[←hs3];exact G0 _ e
 have hlt3:∀b∈fp,b<s3.heap.objs.size:=λb hb=>by
  obtain⟨o,e,_⟩:=T.obj _ _ st2 b hb
  exact Y0 (k3 b o e)
 refine wpAny_newFunctionEnv ok.nocell (by intro y hy;simp at hy) (λh₁ hns₁ hsb₁=>?_) ok.kind
 have k4:∀b o,s3.heap.get? b=some o->h₁.get? b=some o:=λb o e=>(hsb₁.2 b (V1 (Y0 e))).trans (G0 _ e)
 have J0:=zfD (tk:=s3.toks+([]:List (Str×Value)).length) I3 f3 hlt3 ok hsc c1 c2 hns₁ k4
 have st4:tn 0 h₁:=T.keep _ _ _ st2 λb hb o e=>k4 b o (k3 b o e)
 generalize hC:s3.heap.objs.size=C at *
 have stat:∀{H':Hp},(∀b∈fp,H' b=none)->∀b∈fp,zfL (zH X N' scope cl C s3 (upd H2 l (.lst [])) fp) [] H' b:=λ{H'} hn b hb=>
  ⟨hn b hb,(J0.ok.exf b hb).1,J0.ok.exfs b hb, .inl hb,(J0.ok.exf b hb).2,λp hp=>absurd (show p∈([]:List (Addr×Obj))from hp) `Z3⟩
 have loop:codeAny (model X.prog X.w) X.A (.compLoop (.ListComp elt [⟨tg,iter,ifs,0⟩] scope pos) 0 (.ref it) (.ref l) (compEnvC scope cl C X.env))
  (compPost (model X.prog X.w) X.A X.xe (some (assign (.Name y py) X.env)) (λ_ s'=>∃σ' H',Inv X pins σ' H' s'/\D.nx σ' H') (.ref l) C) {s3 with heap:=h₁,toks:=s3.toks+([]:List (Str×Value)).length}:=by
  refine zgj (λn s'=>∃i ys σ' H',Inv (zH X N' scope cl C s3 (upd H2 l (.lst [])) fp) [] σ' H' s'/\tn i s'.heap/\(∀b∈fp,H' b=none)/\H' l=some (.lst ys)/\W i n ys σ' H') ?_ m0
   ⟨0,[],_,_,J0,st4,λb hb=>(f3 b hb).1,zc,w0⟩
  rintro n s5 ⟨i,ys,σ5,H5,I5,st5,fr5,hl5,w5⟩
  rcases turn i n ys σ5 H5 w5 hl5 with⟨stop,qn⟩|⟨go,N,hN,step⟩
  ·refine thn (T.done (zH X N' scope cl C s3 (upd H2 l (.lst [])) fp) rfl rfl rfl hc i [] s5 σ5 H5 (λ_ _=>False) I5 (stat fr5) st5 stop) λr s6 ⟨hr,I6⟩=>?_
   subst hr
   obtain⟨m,hn,_⟩:=I6.loc
   have hCs:s3.heap.objs.size<=C:=by rw[←hC];exact S0 _
   have I7:Inv X pins σ H5 s6:=zfC (h':=s6.heap) I3 f3 hCs I6 ⟨rfl,λ_ _=>rfl⟩
   have fC:zfL X pins H5 C:=I3.fpOk hCs I6.free
   obtain⟨oC,eC,dC⟩:∃o,s6.heap.get? C=some o/\∀v,o.data≠ .cell v:=by
    obtain⟨o,e,d⟩:=zvW hn
    exact⟨o,e,d⟩
   have I8:=I7.pinned (fp:=[C]) (λb hb=>by rw[C2.mp hb];exact fC) (λb hb=>by rw[C2.mp hb];exact⟨oC,eC,dC⟩)
   refine wpAny_assign_Name (zda (v:= .ref l) I8 hN hk (.inl hx) rfl (λs9 I9=>?_) (.inr hx))
   have p9:=(I9.pin (C,oC) (O1 _ (O1 _ (zaD (C2.mpr rfl) eC)))).1
   refine⟨m,ztZ hn eC p9,λh' hsb=>⟨_,H5,?_,qn⟩⟩
   obtain⟨f0,f1,f2,f3',f4,f5⟩:=fC
   exact I9.unpinned.turned (t':=s9.toks) (λb o hb e=>(hsb.2 b hb).trans e) f0 f1 f3' f4 f5
  ·refine thn (T.item (zH X N' scope cl C s3 (upd H2 l (.lst [])) fp) rfl rfl rfl hc i [] s5 σ5 H5 (λ_ _=>False) I5 (stat fr5) st5 go) λr s6 ⟨u,hr,h6⟩=>?_
   subst hr
   refine thn h6 λ_ s7 zq=>?_
   obtain⟨x,H7,I7,r7,y7,st7,fr7⟩:=zq
   have I7':=I7.pinned (stat fr7) (T.obj _ _ st7)
   refine thn (hg cl C s3 _ fp _ s7 σ5 H7 x u _ I7' r7 (step x H7 y7)) λ_ s8 zq=>?_
   obtain⟨σ8,H8,I8,q8⟩:=zq
   refine thn (ht cl C s3 _ fp _ s8 σ8 H8 _ I8 q8) λb s9 zq=>?_
   obtain⟨H9,I9,q9⟩:=zq
   have back:∀{s':Shared} {H':Hp},Inv (zH X N' scope cl C s3 (upd H2 l (.lst [])) fp) ([]++zfQ fp s7.heap) σ8 H' s'->tn (i+1) s'.heap/\∀b∈fp,H' b=none:=λ{s' H'} I'=>by
    refine⟨T.keep _ _ _ st7 λb hb o e=>(I'.pin (b,o) (O1 _ (O1 _ (zaD hb e)))).1,λb hb=>?_⟩
    obtain⟨o,e,d⟩:=T.obj _ _ st7 b hb
    exact(I'.pin (b,o) (O1 _ (O1 _ (zaD hb e)))).2.1
   cases b with
   |false=>
    obtain⟨hl9,n9⟩:=q9
    obtain⟨m',hm,w9⟩:=hN _ _ _ n9
    obtain⟨t9,fr9⟩:=back I9
    exact⟨m',hm,i+1,ys,σ8,H9,I9.unpinned,t9,fr9,hl9,w9⟩
   |true=>
    refine thn (he cl C s3 _ fp _ s9 σ8 H9 _ I9 q9) λxv s10 zq=>?_
    obtain⟨y,H10,I10,r10,hl10,hz,n10⟩:=zq
    obtain⟨m',hm,w10⟩:=hN _ _ _ n10
    refine thn (zbQ (X:=zH X N' scope cl C s3 (upd H2 l (.lst [])) fp) _ s10 σ8 H10 (.ref l) [y] (.ref l) [xv] (λv H'=>H'=upd H10 l (.lst (ys ++ [y]))) I10 rfl (.cons r10 .nil) ⟨l,ys,y,rfl,rfl,hl10,hz,rfl⟩) λ_ s11 ⟨_,H11,I11,_,e11⟩=>?_
    subst e11
    obtain⟨t11,fr11⟩:=back I11
    exact⟨m',hm,i+1,ys ++ [y],σ8,_,I11.unpinned,t11,fr11,zc,w10⟩
 exact codeAny_compStart_list loop (T.self _ 0 _ _ _ st4 loop)
theorem zgI(k:Nat)(ok:CompOk X.N osc N' src scope)(hsc:X.env.scope=osc)(hc:X.calm=true)(hN:X.N.Nodup)(hi:QI X tg iter wi)
 (hg:∀cl C s₀ H₀ fp,QG (zH X N' scope cl C s₀ H₀ fp) tg g) (ht:∀cl C s₀ H₀ fp,QF (zH X N' scope cl C s₀ H₀ fp) ifs tc) (he:∀cl C s₀ H₀ fp,QE (zH X N' scope cl C s₀ H₀ fp) elt te)
 (hk:autoParam (X.N[k]?=some y) u4) (hx:autoParam (X.env.scope.names.lookup y=some .local) u4) (hsw:autoParam (swapsWith (.ListComp elt [⟨tg,iter,ifs,0⟩] scope pos) (some (.Name y py)) spos.line X.env=pure true) u4)
 (hs:autoParam (∀x,foldedSetIterable iter X.env x=pure x) t6):QS X (.Assign [.Name y py] (.ListComp elt [⟨tg,iter,ifs,0⟩] scope pos) spos) (zja (zoG wi g tc te src) (zbH k)):=
 ⟨znq ok hsc hc hi.o (λcl C s₀ H₀ fp=>(hg cl C s₀ H₀ fp).o) (λcl C s₀ H₀ fp=>(ht cl C s₀ H₀ fp).o) (λcl C s₀ H₀ fp=>(he cl C s₀ H₀ fp).o) hN hk hx hsw hs⟩
end
section
variable{e o i:Expr}{to:TE}{g:TG}{t:ztl}
theorem zcg(he:QE X e te)(hg:QG X tg g)(hs:autoParam (swapsWithSole [tg] e pos.line X.env=pure false) u4)(hw:autoParam (swappedStores [tg] e X.env=pure none) u4)
 (h1:autoParam ((assignEach [tg] X.env).map (·.2)=[assign tg X.env]) u4):QS X (.Assign [tg] e pos) (zja te g):=⟨zv3 he.o hg.o hs hw h1⟩
theorem zmc(ho:QE X o to)(hi:QE X i ti)(hs:zuP X t)(ha:autoParam (∀v,assign (.Subscript o i pos) X.env v=(do
 let ov ←holding [v] (eval o X.env)
 let iv ←holding [v,ov] (eval i X.env)
 standAt pos
 holding [v,ov,iv] (setItem ov iv v)
 release [v,ov,iv] [])) t6):QG X (.Subscript o i pos) (zwU to ti t):=⟨zuQ ho.o hi.o hs ha⟩
theorem zo1(k:Nat)(hN:X.N.Nodup)(hi:autoParam (X.N[k]?=some x) u4)(hx:autoParam (X.env.scope.names.lookup x=some .cell) u4)(hf:autoParam (X.fn x=true) u4):QG X (.Name x pos) (zbH k):=⟨zof hN hi (.inr hx) (.inl hf)⟩
end
theorem zkv(bs:List Bool):(List.range bs.length).any (λj=>match bs[j]? with|some b=>b|none=>false)=bs.any id:=by
 rw[B3,List.any_eq_true,List.any_eq_true]
 constructor
 ·rintro ⟨j,hj,h⟩
  have hj':j<bs.length:=List.mem_range.mp hj
  refine⟨bs[j],List.getElem_mem hj',?_⟩
  simpa[hj'] using h
 ·rintro ⟨b,hb,h⟩
  obtain⟨j,hj,e⟩:=F2 hb
  exact⟨j,List.mem_range.mpr hj,by simp[hj,e];simpa using h⟩
noncomputable def atA(bs:List Bool)(j:Nat):Bool:=match bs[j]? with|some b=>b|none=>false
theorem zpX(hc:X.calm=true):CallR X (.builtin "any") (λxs H Q=>∃(p:Addr) (bs:List Bool),xs=[.ref p]/\SqL X.K H p (bs.map V.bl)/\Q (.bl (bs.any id)) H):=by
 intro pins s σ H xs us Q I r h
 obtain⟨p,bs,rfl,hq,q⟩:=h
 obtain⟨u,rfl,ru⟩:=zdM r
 cases ru
 obtain⟨its,rv,pl,hz⟩:=I.list hq
 have hp:p≠s.heap.objs.size:=V1 pl.lt
 refine call_any_walk (wpAny_pyIter_list pl.isList ?_)
 refine⟨s.heap.objs.size,_,_,_,_,_,atA bs,rfl,Walks.list (A:=X.A.in1) (show X.A.in1.handled=none from I.ok.hd hc) _ p hp its.toArray,⟨⟨_,Q0 _ rfl,rfl,rfl⟩,?_⟩,?_,λh' tk hk=>?_⟩
 ·obtain ⟨o,n,e,c,_,d⟩:=pl
  exact⟨o,G0 _ e,c,n,d⟩
 ·intro i v s' Q' E' hP hQ
  obtain⟨b,h1,rfl⟩:=zko (i:=i) (v:=v) rv (by simpa using hP)
  refine K3 ?_
  have e:atA bs i=b:=by unfold atA;rw[h1]
  rw[e] at hQ
  exact hQ
 ·have hl:its.toArray.size=bs.length:=by
   have:=rv.length
   simp at this
   simp[this]
  have hq':(List.range its.toArray.size).any (atA bs)=bs.any id:=by rw[hl];exact zkv bs
  rw[hq']
  refine⟨.bl (bs.any id),H,I.kept λb o e=>hk b o ?_ (G0 _ e),rfl,q⟩
  intro z
  have:b=s.heap.objs.size:=by simpa using z
  exact absurd (Y0 e) (by rw[this];exact Nat.lt_irrefl _)
noncomputable def zxd(t u:TS):TS:=λD σ H=>∃R:St->Hp->Prop,t {D with nx:=R} σ H/\∀σ' H',R σ' H'->u D σ' H'
theorem zhS{st:Stmt}(h1:QS X st sa)(h2:QB X sts sb):QB X (st::sts) (zxd sa sb):=by
 refine⟨λpins s σ H D I h=>?_⟩
 obtain⟨R,ha,hb⟩:=h
 have h3:PSs X sts (λD' σ' H'=>D'=D/\R σ' H'):=λpins s σ' H' D' I h=>by
  obtain⟨rfl,hR⟩:=h
  exact h2.o pins s σ' H' D' I (hb σ' H' hR)
 have e:(λσ' H'=>D=D/\R σ' H')=R:=by
  funext σ' H'
  simp
 refine zlw h1.o h3 pins s σ H D I ?_
 show sa {D with nx:=λσ' H'=>D=D/\R σ' H'} σ H
 rw[e]
 exact ha
theorem zsc(z:Str):ziF z 1=z:=by
 unfold ziF
 simp
theorem zmg:OpR X (binaryOp .Mult) (λx y H Q=>∃z n,x= .str z/\y= .int n/\1<=n/\n<=1000/\0<z.length/\z.length<=1000/\Q (.str (ziF z n.toNat)) H):=by
 intro pins s σ H x y v u Q I rx ry h
 obtain⟨z,n,rfl,rfl,h1,h2,h3,h4,q⟩:=h
 by_cases h:1<n
 ·exact zm0 pins s σ H _ _ v u Q I rx ry ⟨z,n,rfl,rfl,h,h2,h3,h4,q⟩
 ·have e:n=1:=()
  subst e
  obtain⟨t,rfl⟩:=rx
  obtain⟨t',rfl⟩:=ry
  refine P.mul_str ⋯ (λ_ z=>by simp at z) (λ_ z=>by simp at z) ?_
  simp only[show¬(1:Int)<1 by decide,if_false,beq_self_eq_true,Bool.true_or,if_true]
  refine⟨.str _,H,I,⟨_,rfl⟩,?_⟩
  have e:ziF z (1:Int).toNat=z:=zsc z
  rw[e] at q
  exact q
theorem z8:CallR X (.builtin "len") (λxs H Q=>(∃p ys,xs=[.ref p]/\(SqL X.K H p ys\/SqT X.K H p ys)/\Q (.int ys.length) H)\/∃z,xs=[.str z]/\z.length<=sizeLine/\Q (.int z.length) H):=zkH.or zkf
theorem zir(n:Nat){k:Nat}(hK:X.K=K)(hc:X.calm=true)(h:QGs X es tgs)(hn:autoParam ((assignEach es X.env).length=n) u4)(hst:autoParam ((assignEach es X.env).findIdx? (·.1)=none) u4):QG X (.Tuple es k pos) (zvC K n tgs):=by subst hK;exact zcv n hc h hn hst
noncomputable def zaG(c:Nat):Bool:=decide (97<=c)&&decide (c<=122)
noncomputable def zr2:List Str:=["if","and","not","never"]
noncomputable def zm(x:Str):Bool:=decide (1<=x.length)&&decide (x.length<=8)&&x.cps.toList.all zaG&&!(zr2.any λy=>decide (y=x))
def Hand(H:Hp)(a:Addr)(n:Int):Prop:=∃x m t:Int,H a=some (.lst [.int x, .int m, .int t])/\0<=m/\m<2^63/\0<=t/\t<=n
def Keep(a:Addr)(H H':Hp):Prop:=∀b o,b≠a->H b=some o->H' b=some o
theorem Keep.refl(a:Addr)(H:Hp):Keep a H H:=λ_ _ _ h=>h
theorem Keep.trans(x:Keep a H H1)(y:Keep a H1 H2):Keep a H H2:=λb o n h=>y b o n (x b o n h)
theorem Keep.upd(a:Addr)(H:Hp)(o:HO):Keep a H (L2.upd H a o):=λb u n h=>by rw[ze n];exact h
theorem Keep.new{p:Addr}{o:HO}(h:H p=none):Keep a H (L2.upd H p o):=λb u n e=>by rw[ze (zj e h)];exact e
theorem Keep.of(h:Same H H'):Keep a H H':=λb o _ e=>h b o e
theorem Hand.ne{p:Addr}{n:Int}(h:Hand H a n)(e:H p=none):p≠a:=by
 obtain⟨x,m,t,h,_⟩:=h
 exact λz=>by rw[z,h] at e;cases e
theorem Hand.new{p:Addr}{n:Int}{o:HO}(h:Hand H a n)(e:H p=none):Hand (upd H p o) a n:=by
 have ne:=h.ne e
 obtain⟨x,m,t,h,r⟩:=h
 exact⟨x,m,t,by rw[ze (Ne.symm ne)];exact h,r⟩
theorem Hand.same{n:Int}(h:Hand H a n)(s:Same H H'):Hand H' a n:=by
 obtain⟨x,m,t,h,r⟩:=h
 exact⟨x,m,t,s _ _ h,r⟩
theorem Hand.mono{n:Int}(h:Hand H a n)(l:n<=n'):Hand H a n':=by
 obtain⟨x,m,t,h,h1,h2,h3,h4⟩:=h
 exact⟨x,m,t,h,h1,h2,h3,()⟩
theorem Keep.sqL{b:Addr}(k:Keep a H H')(n:b≠a)(h:SqL K H b xs):SqL K H' b xs:=by
 rcases h with(h|⟨o,h⟩)|h
 ·exact .inl (.inl (k _ _ n h))
 ·exact .inl (.inr ⟨o,k _ _ n h⟩)
 ·exact .inr h
theorem Hand.updNe{p:Addr}{n:Int}{o:HO}(h:Hand H a n)(e:p≠a):Hand (upd H p o) a n:=by
 obtain⟨x,m,t,h,r⟩:=h
 exact⟨x,m,t,by rw[ze (Ne.symm e)];exact h,r⟩
theorem Keep.updNew{p:Addr}{o:HO}(k:Keep a H H')(e:H p=none):Keep a H (L2.upd H' p o):=λb u n h=>by
 rw[ze (zj h e)]
 exact k b u n h
noncomputable def zch:Str:="abcdefghijklmnopqrstuvwxyz"
noncomputable def one(c:Nat):Str:=⟨#[c]⟩
theorem Same.new{p:Addr}{o:HO}(h:H p=none):Same H (upd H p o):=λb u e=>by rw[ze (zj e h)];exact e
structure At(K:W.Frag)(mg:Str->Option Value)(x:Str)(st:Stmt)(ps:List Str)(f:Addr)(fd:FuncData):Prop where
 fn:Fun K x x st f fd
 b:Binds K fd ps []
 mg:mg x=some (.ref f)
 kp:W.keepIn K (.ref f)=true
theorem zga{xs:List α}{d:Int}(h0:0<=d)(h1:d<xs.length):∃v,atI xs d=some v/\v∈xs:=by
 obtain⟨k,rfl⟩:∃k:Nat,d=(k:Int):=⟨d.toNat,()⟩
 have hk:k<xs.length:=()
 exact⟨xs[k],zZ (by simp[hk]),List.getElem_mem hk⟩
theorem at0{x:α}{xs:List α}:atI (x::xs) 0=some x:=zZ (j:=0) rfl
theorem at1{x y:α}{xs:List α}:atI (x::y::xs) 1=some y:=zZ (j:=1) rfl
theorem tru{b:Bool}(h:¬b=true):b=false:=by simpa using h
inductive D where
 |non|bl (b:Bool)|int (i:Int)|str (x:Str)|tup (ds:List D)|oth
variable{d:D}{ds lks hds cs rs:List D}{Pd:Nat->D->Prop}
inductive Rep(H:Hp):V->D->Prop where
 |non:Rep H .non .non
 |bl (b:Bool):Rep H (.bl b) (.bl b)
 |int (i:Int):Rep H (.int i) (.int i)
 |str (x:Str) (h:x.length<=1000):Rep H (.str x) (.str x)
 |tup {p:Addr} {vs:List V} {ds:List D} (h:H p=some (.tup vs)) (l:vs.length=ds.length) (b:ds.length<=1000) (r:∀(i:Nat) (v:V) (d:D),vs[i]?=some v->ds[i]?=some d->Rep H v d):Rep H (.ref p) (.tup ds)
 |lst {p:Addr} {vs:List V} (h:H p=some (.lst vs)):Rep H (.ref p) .oth
 |dK {p:Addr} {kvs:List (Key×V)} (h:H p=some (.dK kvs)):Rep H (.ref p) .oth
structure Mono(H H':Hp):Prop where
 tup:∀p xs,H p=some (.tup xs)->H' p=some (.tup xs)
 lst:∀p xs,H p=some (.lst xs)->∃ys,H' p=some (.lst ys)
 dK:∀p xs,H p=some (.dK xs)->∃ys,H' p=some (.dK ys)
theorem Mono.trans(a:Mono H H1)(b:Mono H1 H2):Mono H H2:=⟨λp xs h=>b.tup p xs (a.tup p xs h),λp xs h=>let ⟨ys,e⟩:=a.lst p xs h;b.lst p ys e,λp xs h=>let ⟨ys,e⟩:=a.dK p xs h;b.dK p ys e⟩
theorem Mono.of(s:Same H H'):Mono H H':=⟨λp xs h=>s _ _ h,λp xs h=>⟨xs,s _ _ h⟩,λp xs h=>⟨xs,s _ _ h⟩⟩
theorem Mono.new{p:Addr}{o:HO}(h:H p=none):Mono H (upd H p o):= .of (Same.new h)
theorem Mono.lset{p:Addr}(h:H p=some (.lst xs)):Mono H (upd H p (.lst ys)):=by
 refine⟨λq zs e=>?_,λq zs e=>?_,λq zs e=>?_⟩
 ·by_cases hq:q=p
  ·subst hq;rw[h] at e;cases e
  ·rw[ze hq];exact e
 ·by_cases hq:q=p
  ·subst hq;exact⟨ys,zc⟩
  ·rw[ze hq];exact⟨zs,e⟩
 ·by_cases hq:q=p
  ·subst hq;rw[h] at e;cases e
  ·rw[ze hq];exact⟨zs,e⟩
theorem Mono.keep{n m:Int}(k:Keep a H H')(h:Hand H a n)(h':Hand H' a m):Mono H H':=by
 obtain⟨x,y,z,h,_⟩:=h
 obtain⟨x',y',z',h',_⟩:=h'
 refine⟨λq zs e=>?_,λq zs e=>?_,λq zs e=>?_⟩
 ·exact k q _ (λhq=>by subst hq;rw[h] at e;cases e) e
 ·by_cases hq:q=a
  ·subst hq;exact⟨_,h'⟩
  ·exact ⟨zs,k q _ hq e⟩
 ·exact ⟨zs,k q _ (λhq=>by subst hq;rw[h] at e;cases e) e⟩
theorem Rep.mono(h:Rep H v d)(m:Mono H H'):Rep H' v d:=by
 induction h with
 |non=>exact .non
 |bl b=>exact .bl b
 |int i=>exact .int i
 |str x h=>exact .str x h
 |tup h l b _ ih=>exact .tup (m.tup _ _ h) l b ih
 |lst h=>obtain ⟨ys,e⟩:=m.lst _ _ h;exact .lst e
 |dK h=>obtain ⟨ys,e⟩:=m.dK _ _ h;exact .dK e
theorem Rep.same(h:Rep H v d)(s:Same H H'):Rep H' v d:=h.mono (.of s)
def RepL(H:Hp)(vs:List V)(ds:List D):Prop:=vs.length=ds.length/\∀(i:Nat) (v:V) (d:D),vs[i]?=some v->ds[i]?=some d->Rep H v d
theorem RepL.nil:RepL H [] []:=⟨rfl,λi v d e=>by simp at e⟩
theorem RepL.cons{H:Hp}{v:V}{d:D}{vs:List V}{ds:List D}(h:Rep H v d)(r:RepL H vs ds):RepL H (v::vs) (d::ds):=by
 refine⟨by simp[r.1],λi w e h1 h2=>?_⟩
 cases i with
 |zero=>simp at h1 h2;subst h1;subst h2;exact h
 |succ i=>exact r.2 i w e (by simpa using h1) (by simpa using h2)
theorem RepL.head(r:RepL H (v::vs) (d::ds)):Rep H v d/\RepL H vs ds:=
 ⟨r.2 0 v d rfl rfl,by have:=r.1;simp at this;exact this,λi w e h1 h2=>r.2 (i+1) w e (by simpa using h1) (by simpa using h2)⟩
theorem RepL.mono(r:RepL H vs ds)(m:Mono H H'):RepL H' vs ds:=⟨r.1,λi v d h1 h2=>(r.2 i v d h1 h2).mono m⟩
theorem RepL.append{es:List D}(r:RepL H vs ds)(q:RepL H us es):RepL H (vs ++us) (ds ++es):=by
 refine⟨by rw[b0,b0,r.1,q.1],λi v d h1 h2=>?_⟩
 by_cases hi:i<vs.length
 ·rw[C3 hi] at h1
  rw[C3 (by rw[←r.1];exact hi)] at h2
  exact r.2 i v d h1 h2
 ·rw[W2 ()] at h1
  rw[W2 (by rw[←r.1];lia),←r.1] at h2
  exact q.2 _ v d h1 h2
theorem RepL.take(r:RepL H vs ds)(n:Nat):RepL H (vs.take n) (ds.take n):=by
 refine⟨by rw[P1,P1,r.1],λi v d h1 h2=>?_⟩
 rw[List.getElem?_take] at h1 h2
 split at h1
 ·rename_i h;rw[R0 h] at h2;exact r.2 i v d h1 h2
 ·cases h1
theorem RepL.drop(r:RepL H vs ds)(n:Nat):RepL H (vs.drop n) (ds.drop n):=by
 refine⟨by rw[List.length_drop,List.length_drop,r.1],λi v d h1 h2=>?_⟩
 rw[List.getElem?_drop] at h1 h2
 exact r.2 _ v d h1 h2
theorem RepL.get(r:RepL H vs ds)(h:vs[i]?=some v):∃d,ds[i]?=some d/\Rep H v d:=by
 have hi:i<vs.length:=by
  rcases D2 i vs.length with q|q
  ·exact q
  ·rw[W0 q] at h;cases h
 have hd:i<ds.length:=by rw[←r.1];exact hi
 exact⟨ds[i],by simp[hd],r.2 i v _ h (by simp[hd])⟩
theorem Rep.mkL{p:Addr}(h:H p=some (.tup vs))(b:ds.length<=1000)(r:RepL H vs ds):Rep H (.ref p) (.tup ds):= .tup h r.1 b r.2
theorem Rep.ofT(h:Rep H v (.tup ds)):∃p vs,v= .ref p/\H p=some (.tup vs)/\RepL H vs ds/\ds.length<=1000:=by
 cases h with
 |tup h l b r=>exact ⟨_,_,rfl,h,⟨l,r⟩,b⟩
theorem Rep.of1(h:Rep H v (.tup [d])):∃p x,v= .ref p/\H p=some (.tup [x])/\Rep H x d:=by
 obtain⟨p,vs,rfl,hp,r,_⟩:=h.ofT
 match vs,r with
 |[x],r=>exact ⟨p,x,rfl,hp,r.head.1⟩
 |[],r=>exact absurd r.1 `Z3
 |_::_::_,r=>exact absurd r.1 `Z3
theorem Rep.of2{e:D}(h:Rep H v (.tup [d,e])):∃p x y,v= .ref p/\H p=some (.tup [x,y])/\Rep H x d/\Rep H y e:=by
 obtain⟨p,vs,rfl,hp,r,_⟩:=h.ofT
 match vs,r with
 |[x,y],r=>exact ⟨p,x,y,rfl,hp,r.head.1,r.head.2.head.1⟩
 |[],r=>exact absurd r.1 `Z3
 |[_],r=>exact absurd r.1 `Z3
 |_::_::_::_,r=>exact absurd r.1 `Z3
theorem Rep.mk1{p:Addr}{x:V}(h:H p=some (.tup [x]))(a:Rep H x d):Rep H (.ref p) (.tup [d]):= .mkL h `Z3 (.cons a .nil)
theorem Rep.mk2{p:Addr}{x y:V}{e:D}(h:H p=some (.tup [x,y]))(a:Rep H x d)(b:Rep H y e):Rep H (.ref p) (.tup [d,e]):= .mkL h `Z3 (.cons a (.cons b .nil))
noncomputable def zuN:D->Bool| .tup _=>true|_=>false
noncomputable def zu1:D->Bool| .int _=>true| .bl _=>true|_=>false
noncomputable def zwg:D->Bool| .bl _=>true|_=>false
noncomputable def zvB:D->Bool| .str _=>true|_=>false
theorem Rep.isi(h:Rep H v d):∃t,TyOf K H v t/\W.kitOne K t (.type "tuple")=some (zuN d)/\W.kitOne K t (.type "int")=some (zu1 d)/\W.kitOne K t (.type "bool")=some (zwg d)/\W.kitOne K t (.type "str")=some (zvB d):=by
 cases h with
 |non=>exact ⟨_, .non,rfl,rfl,rfl,rfl⟩
 |bl b=>exact ⟨_, .bl b,rfl,rfl,rfl,rfl⟩
 |int i=>exact ⟨_, .int i,rfl,rfl,rfl,rfl⟩
 |str x _=>exact ⟨_, .str x,rfl,rfl,rfl,rfl⟩
 |tup h _ _ _=>exact ⟨_, .tup h,rfl,rfl,rfl,rfl⟩
 |lst h=>exact ⟨_, .lst h,rfl,rfl,rfl,rfl⟩
 |dK h=>exact ⟨_, .dK h,rfl,rfl,rfl,rfl⟩
noncomputable def zrR:D->Bool| .int _=>true|_=>false
noncomputable def zc5(d:D)(lo hi:Int):Bool:=match d with| .int i=>decide (lo<=i)&&decide (i<=hi)|_=>false
noncomputable def zao(d:D)(lo hi:Int):Bool:=match d with| .tup ds=>decide (lo<=(ds.length:Int))&&decide ((ds.length:Int)<=hi)|_=>false
noncomputable def zbI:D->Bool| .tup (.str _::_)=>true|_=>false
noncomputable def zL(d:D)(n:Int):Bool:=zao d n n&&zbI d
noncomputable def zaO:D->Bool| .str x=>zm x|_=>false
noncomputable def zbA:List Str:=["by","from","to","mark"]
noncomputable def zE:D->Bool
 | .tup [.str w,x]=>if w="long"then zc5 x 0 99 else(zbA.any λy=>decide (y=w))&&zaO x
 |_=>false
noncomputable def zD(d:D):Bool:=match d with
 | .tup [.str w,x]=>if w="not"then zE x else zE d
 |_=>false
noncomputable def zad:D->Bool| .tup ds=>decide (ds.length<=4)&&ds.all zD|_=>false
noncomputable def zeV:D->Bool| .tup [.str w,_]=>decide (w="to")|_=>false
noncomputable def zc1:D->Bool| .tup [.str w,x]=>if w="not"then zeV x else decide (w="to")|_=>false
noncomputable def za6:D->Bool| .non=>true|d=>zc5 d (-999) 999
noncomputable def zd3:D->Bool| .tup ds=>ds.any zc1|_=>false
noncomputable def zC:D->Bool| .tup [c,x]=>zad c&&za6 x&&!zd3 c|_=>false
noncomputable def za1:D->Bool
 | .tup [.str w]=>decide (w="keep")
 | .tup [.str w,x]=>(decide (w="put")||decide (w="strike"))&&zaO x
 |_=>false
noncomputable def zal:D->Bool| .tup [c,x]=>zad c&&za1 x|_=>false
theorem zxe(c:Nat):decide (({cps:= #[c]}:Str).cps.toList<(Str.ofString "a").cps.toList)=decide (c<97):=by
 have e:(Str.ofString "a").cps.toList=[97]:=`Y3
 rw[e]
 show decide ([c]< [97])=_
 by_cases h:c<97
 ·rw[P0 h]
  exact P0 (List.cons_lt_cons_iff.mpr (.inl h))
 ·rw[U0 h]
  refine U0 λz=>?_
  rcases List.cons_lt_cons_iff.mp z with q|⟨_,q⟩
  ·exact h q
  ·exact absurd q `Z3
theorem zxl(c:Nat):decide ((Str.ofString "z").cps.toList<({cps:= #[c]}:Str).cps.toList)=decide (122<c):=by
 have e:(Str.ofString "z").cps.toList=[122]:=`Y3
 rw[e]
 show decide ([122]< [c])=_
 by_cases h:122<c
 ·rw[P0 h]
  exact P0 (List.cons_lt_cons_iff.mpr (.inl h))
 ·rw[U0 h]
  refine U0 λz=>?_
  rcases List.cons_lt_cons_iff.mp z with q|⟨_,q⟩
  ·exact h q
  ·exact absurd q `Z3
theorem zcV{w:Str}{x:D}:zE (.tup [.str w,x])=if w="long"then zc5 x 0 99 else(zbA.any λy=>decide (y=w))&&zaO x:=rfl
theorem zdW{w:Str}{x:D}:zD (.tup [.str w,x])=if w="not"then zE x else zE (.tup [.str w,x]):=rfl
theorem zeO:zad (.tup ds)=(decide (ds.length<=4)&&ds.all zD):=rfl
theorem zdP{c x:D}:zC (.tup [c,x])=(zad c&&za6 x&&!zd3 c):=rfl
theorem zkx{c x:D}:zal (.tup [c,x])=(zad c&&za1 x):=rfl
theorem zmS{w:Str}{x:D}:za1 (.tup [.str w,x])=((decide (w="put")||decide (w="strike"))&&zaO x):=rfl
theorem zdS:zaO (.str x)=zm x:=rfl
theorem zav:decide (V.str x=V.str y)=decide (x=y):=by
 by_cases h:x=y
 ·subst h;rw[P0 rfl,P0 rfl]
 ·rw[U0 h,U0 λz=>h (V.str.inj z)]
theorem zvp(h:zao d 2 2=true):∃a b,d= .tup [a,b]:=by
 cases d with
 |tup ds=>
  have hl:ds.length=2:=by
   simp[zao] at h
   lia
  match ds,hl with
  |[a,b],_=>exact ⟨a,b,rfl⟩
 |_=>cases h
theorem zlk(h:zL d 2=true):∃x e,d= .tup [.str x,e]:=by
 unfold zL at h
 rw[X0] at h
 obtain⟨a,b,rfl⟩:=zvp h.1
 cases a with
 |str x=>exact ⟨x,b,rfl⟩
 |_=>exact absurd h.2 (by simp[zbI])
theorem zt7(h:zL d 1=true):∃x,d= .tup [.str x]:=by
 unfold zL at h
 rw[X0] at h
 cases d with
 |tup ds=>
  have hl:ds.length=1:=by
   have:=h.1
   simp[zao] at this
   lia
  match ds,hl with
  |[.str x],_=>exact ⟨x,rfl⟩
  |[.non],_=>exact absurd h.2 (by simp[zbI])
  |[.bl _],_=>exact absurd h.2 (by simp[zbI])
  |[.int _],_=>exact absurd h.2 (by simp[zbI])
  |[.tup _],_=>exact absurd h.2 (by simp[zbI])
  |[.oth],_=>exact absurd h.2 (by simp[zbI])
 |_=>cases h.1
theorem zbb(d:D)(h:zE d=true):∃x e,d= .tup [.str x,e]:=by
 unfold zE at h
 split at h
 ·exact ⟨_,_,rfl⟩
 ·cases h
theorem ze6(d:D)(h:zD d=true):∃x e,d= .tup [.str x,e]:=by
 unfold zD at h
 split at h
 ·exact ⟨_,_,rfl⟩
 ·cases h
theorem zjI{e:D}:zL (.tup [.str x,e]) 2=true:=rfl
theorem zmi(h:zL d 2=false):zE d=false:=by
 cases hp:zE d with
 |false=>rfl
 |true=>
  obtain⟨x,e,rfl⟩:=zbb d hp
  rw[zjI] at h;cases h
theorem zul(h:zL d 2=false):zD d=false:=by
 cases hp:zD d with
 |false=>rfl
 |true=>
  obtain⟨x,e,rfl⟩:=ze6 d hp
  rw[zjI] at h;cases h
theorem zjV:(zbA.any λy=>decide (y=x))=(if false=true then !inV (.str x) [.str "by", .str "from", .str "to", .str "mark"] else inV (.str x) [.str "by", .str "from", .str "to", .str "mark"]):=by
 show _=inV (.str x) (zbA.map V.str)
 unfold inV
 rw[List.any_map]
 rfl
theorem zu2:inV (V.str x) [V.str "put",V.str "strike"]=(decide (x="put")||decide (x="strike")):=by
 have:inV (V.str x) [V.str "put",V.str "strike"]=(decide (("put":Str)=x)||(decide (("strike":Str)=x)||false)):=rfl
 rw[this,Bool.or_false]
 congr 1<;>(rw[B3,J2,J2];exact eq_comm)
theorem zdR{e:D}:zE (.tup [.str "not",e])=false:=by
 have h1:¬("not":Str)="long":=`Y3
 have h2:(zbA.any λy=>decide (y=("not":Str)))=false:=`Y3
 rw[zcV,N0 h1,h2];rfl
theorem zpJ(h:zao d 2 2=false):zC d=false:=by
 unfold zC
 split
 ·simp[zao] at h
 ·rfl
theorem ztK(h:zao d 2 2=false):zal d=false:=by
 unfold zal
 split
 ·simp[zao] at h
 ·rfl
theorem zv0(h1:zL d 1=false)(h2:zL d 2=false):za1 d=false:=by
 unfold za1
 split
 ·cases h1
 ·cases h2
 ·rfl
theorem zfU{ds:List α}{g:α->Bool}:(ds.map g).all id=ds.all g:=by rw[List.all_map];rfl
noncomputable def zaL(g:D->Bool):Sp:=λvs H Q _=>∃v d,vs=[v]/\Rep H v d/\∀H',Same H H'->Q (.bl (g d)) H'
theorem zl9{n:Nat}:zde xs none (some (n:Int))=xs.take n:=by
 unfold zde
 have e1:sIx xs.length 0 none=0:=rfl
 have e2:sIx xs.length xs.length (some (n:Int))=min n xs.length:=by
  unfold sIx
  have h:¬(n:Int)<0:=()
  simp only[N0 h,Int.toNat_natCast]
 rw[e1,e2,List.drop_zero,Nat.sub_zero,List.take_eq_take_iff]
 lia
theorem znf{N:Nat}{m c:Int}{src:List (Option Nat)}{Q:VK}(hs:zfA src σ=none::σr)(hH:Hand H a m)(hN:N<=900)(hc:0<=c)
 (he:∀(i:Nat) (H1:Hp) (Q1:VK),i<N->Hand H1 a (m+c*i)->Keep a H H1->(∀v d H2,Rep H2 v d->Pd i d->Hand H2 a (m+c*i+c)->Keep a H1 H2->Q1 v H2)->te (some (.int (i:Int))::σr) H1 Q1)
 (q:∀l vs ds H',H l=none->H' l=some (.lst vs)->RepL H' vs ds->ds.length=N->(∀i d,ds[i]?=some d->Pd i d)->Hand H' a (m+c*N)->Keep a H H'->Q (.ref l) H'):ze0 (zbH 0) zp1 te src σ Q (Itr 0 N) H:=by
 refine zcx zdZ (λl i ys σ' H'=>(∃o,σ'=o::σr)/\(∃ds:List D,RepL H' ys ds/\ds.length=i/\∀j d,ds[j]?=some d->Pd j d)/\Hand H' a (m+c*i)/\Keep a H H') ?_ (λ_ _ _ _ _ _ _=>trivial) ?_ ?_
 ·exact λl hl=>⟨⟨_,hs⟩,⟨[],RepL.nil,rfl,λj d z=>by simp at z⟩,(hH.new hl).mono `Z3,Keep.new hl⟩
 ·rintro l i y ys σ' H1 hl hi rfl ⟨⟨o,rfl⟩,⟨ds,hr,hl2,hp⟩,hH1,k1⟩ hl'
  have nl:=hH.ne hl
  rw[Int.zero_add]
  refine he i H1 _ hi hH1 k1 λv d H2 rv pd hH2 k2=>?_
  have hl2':H2 l=some (.lst ys):=k2 _ _ nl hl'
  have m2:Mono H1 H2:=Mono.keep k2 hH1 hH2
  have m3:Mono H2 (upd H2 l (.lst (ys ++ [v]))):=Mono.lset hl2'
  refine⟨hl2',?_,⟨_,rfl⟩,⟨ds ++ [d],((hr.mono m2).append (.cons rv .nil)).mono m3,?_,?_⟩,(hH2.updNe nl).mono ?_,(k1.trans k2).updNew hl⟩
  ·have:=hr.1
   exact zp ()
  ·rw[b0,hl2];rfl
  ·intro j e he
   by_cases hj:j<ds.length
   ·rw[C3 hj] at he
    exact hp j e he
   ·rw[W2 ()] at he
    have hj2:j=ds.length:=by
     rcases D2 ds.length j with z|z
     ·rw[W0 (by simp;lia)] at he;cases he
     ·lia
    subst hj2
    simp at he
    subst he
    rw[hl2];exact pd
  ·rw[show((i+1:Nat):Int)=(i:Int)+1 by lia,Int.mul_add,Int.mul_one]
   lia
 ·rintro l ys σ' H1 hl ⟨⟨o,rfl⟩,⟨ds,hr,hl2,hp⟩,hH1,k1⟩ hl'
  exact q l ys ds H1 hl hl' hr hl2 hp hH1 k1
theorem zdm{g:D->Bool}{ok:Hp->Prop}{src:List (Option Nat)}{Q:VK}(wk:Wk J vs.length (λi x=>vs[i]?=some x) ok)(hok:∀H',Same H H'->ok H')(r:RepL H vs ds)(hl:ds.length<=1000)(e:zfA src σ=[none])
 (he:∀(x:V) (d:D) (H1:Hp) (Q1:VK),Same H H1->Rep H1 x d->d∈ds->(∀H2,Same H1 H2->Q1 (.bl (g d)) H2)->te [some x] H1 Q1)
 (q:∀l H',Same H H'->H l=none->H' l=some (.lst ((ds.map g).map V.bl))->Q (.ref l) H'):ze0 (zbH 0) zp1 te src σ Q J H:=by
 refine zcx wk (λl i ys σ' H'=>(∃o,σ'=[o])/\ys=((ds.take i).map g).map V.bl/\Same H H') ?_ ?_ ?_ ?_
 ·exact λl h'=>⟨⟨none,e⟩,rfl,Same.new h'⟩
 ·exact λl i ys σ' H' _ p=>hok H' p.2.2
 ·rintro l i y ys σ' H1 h' hi hy ⟨⟨o,rfl⟩,rfl,s1⟩ hl'
  obtain⟨d,hd,rd⟩:=r.get hy
  refine he y d H1 _ s1 (rd.same s1) (Z0 hd) λH2 s2=>?_
  refine⟨s2 _ _ hl',?_,⟨_,rfl⟩,?_,?_⟩
  ·rw[D0,D0,P1]
   exact zp ()
  ·rw[N3,hd]
   simp
  ·exact λc o e=>by
    rw[ze (zj e h')]
    exact s2 _ _ (s1 _ _ e)
 ·rintro l ys σ' H1 h' ⟨⟨o,rfl⟩,rfl,s1⟩ hl'
  rw[r.1,List.take_length] at hl'
  exact q l H1 s1 h' hl'
section
open Sem (wp)
open MeetsSeq MeetsSeq2 MeetsSeq3 Builtin
theorem zgA:fillsNumberSlot (.type "tuple") "mul"=pure false:=
 PySem.fillsNumberSlot_seq (id:="tuple.__mul__") (r:=some (.builtin "tuple.__rmul__")) F.slot_tuple_mul.lookup `Y3 F.slot_tuple_rmul.lookup `Y3
theorem zkk:seqRepeat? (.type "tuple")=pure (some (.builtin "tuple.__mul__")):=by
 unfold seqRepeat?
 rw[PySem.seqSlot_of (T:="tuple") (name:="__mul__") (id:="tuple.__mul__") F.slot_tuple_mul.lookup `Y3,PySem.seqSlot_of (T:="tuple") (name:="__rmul__") (id:="tuple.__rmul__") F.slot_tuple_rmul.lookup `Y3]
 rfl
theorem zea(a:Int)(t:Tok)(l:Addr)(items:Array Value)(n:Nat)(dd:Option Addr)(sl:Array (Option Value)):
 Meets (Builtin.«int.__rmul__» ⟨[.int a t, .ref l],[]⟩) (λ_ R s=>s.heap.get? l=some {cls:= .type "tuple",dict:=dd,data:= .seq items n,slots:=sl}/\R (.ok (.ret Value.notImplemented)) s):=
 .of_wp λprog w A R s h=>by obtain⟨hp,g,d,tk,os⟩:=s;obtain⟨hl,h⟩:=h;wp_walk;exact⟨_,rfl,h⟩
theorem zh3(l:Addr)(items:Array Value)(n:Nat)(x:Int)(u:Tok)(dd:Option Addr)(sl:Array (Option Value))(hc0:¬(decide (x< -2^63)||decide (x≥2^63))=true)(h1:¬(items.isEmpty||x==1)=true)(h2:¬(decide (x<=0)||items.isEmpty)=true)
 (hc1:¬(items.size:Int)*x>(2^63 -1)/8) (hc2:¬Tuple.tupleTooMany ((items.size:Int)*x)=true) (hc3:((List.replicate x.toNat items).foldl (·++·) #[]).size<=sizeLine):
 Meets (Builtin.«tuple.__mul__» ⟨[.ref l, .int x u],[]⟩) (λ_ R s=>s.heap.get? l=some {cls:= .type "tuple",dict:=dd,data:= .seq items n,slots:=sl}/\R (.ok (.ret (Value.ref s.heap.objs.size))) {s with heap:=s.heap.push {cls:=Value.type "tuple",data:= .seq ((List.replicate x.toNat items).foldl (·++·) #[])}}):=
 .of_wp λprog w A R s h=>by
  obtain⟨hp,g,d,tk,os⟩:=s;obtain⟨hl,h⟩:=h;have f1:=AutoSeq1.idx_int;have f2:=AutoSeq1.sub_tuple_tuple
  wp_walk using wpAny_loadPart' hl
  rw[N0 hc0]
  wp_walk using wpAny_loadPart' hl
  rw[N0 hc1]
  wp_walk using wpAny_loadPart' hl
  exact⟨_,rfl,h⟩
noncomputable def zoF(K:W.Frag):R2:=λx y H Q=>∃a k xs,x= .ref a/\y= .int k/\SqT K H a xs/\xs≠ []/\2<=k/\k<=1000/\xs.length<=1000/\∀p,H p=none->Q (.ref p) (upd H p (.tup (List.replicate k.toNat xs).flatten))
theorem zhB:OpR X (binaryOp .Mult) (zoF X.K):=by
 intro pins s σ H x y v u Q I rx ry h
 obtain⟨a,k,xs,rfl,rfl,ha,hx,k2,k1000,hz,q⟩:=h
 cases rx
 obtain⟨t,rfl⟩:=ry
 obtain⟨its,r,p1,_⟩:=I.tuple ha
 have hl:=r.length
 have hne:its≠ []:=λz=>hx (r.nil_iff.mp z)
 obtain⟨⟨cls,dd,data,sl⟩,ho,hc,n,hd⟩:=id p1
 simp only at hc hd
 subst hc hd
 have he:its.toArray.isEmpty=false:=by simpa using hne
 have f0:∀m:Nat,List.foldl (λx1 x2=>x1 ++x2) #[] (List.replicate m its.toArray)=(List.replicate m its).flatten.toArray:=λm=>by
  have:=zgr its m []
  rw[List.nil_append] at this
  exact this
 have hs:(List.replicate k.toNat its).flatten.length=k.toNat *its.length:=zkg its k.toNat
 have hk:k.toNat *its.length<=1000*1000:=Nat.mul_le_mul () ()
 have hS:1000*1000<=sizeLine:=⋯
 have hki:(its.toArray.size:Int)*k<=1000*1000:=by
  rw[E1]
  exact Int.mul_le_mul () k1000 () ()
 refine wpAny_binaryOp_repeat_ref (T:="tuple") (U:="int") ⋯ ⟨_,ho,rfl⟩ (λs'=>typeIs_int s' k t) zgA F.fills_int_mul F.slot_int_rmul zkk F.slot_int_index.lookup
  (call_meets F.slot_int_rmul (typeIs_int s k t) F.entry_int_rmul (F.args_int_rmul_2 _ _) (zea k t a its.toArray n dd sl)
    ⟨ho,rfl,⟨_,ho,rfl⟩,call_meets F.slot_tuple_mul ⟨_,ho,rfl⟩ F.entry_tuple_mul (F.args_tuple_mul_2 _ _) (zh3 a its.toArray n k t dd sl ?_ ?_ ?_ ?_ ?_ ?_) ⟨ho,?_⟩⟩)
 ·rw[U0 (),U0 ()];decide
 ·rw[he,beq_eq_false_iff_ne.mpr (by lia:k≠1)];decide
 ·rw[he,U0 ()];decide
 ·have:(1000*1000:Int)<=(2^63 -1)/8:=⋯
  lia
 ·unfold Tuple.tupleTooMany
  have:(1000*1000:Int)<=(sizeLine:Int):=by exact_mod_cast hS
  rw[U0 ()];decide
 ·rw[f0,E1,hs];lia
 ·rw[f0]
  refine⟨.ref s.heap.objs.size,_,I.laid (t':=s.toks) (o:= .tup (List.replicate k.toNat xs).flatten) (λb ob q=>G0 _ q) (S0 _) ?_,rfl,q _ (I.hok.fresh (S0 _))⟩
  exact⟨by rw[zkg,hl];lia,_,r.rep k.toNat,IsTup.new _ _,NoDict.new rfl (Q0 _ rfl)⟩
end
theorem zm3:QE X (.Dict [] [] pos) zmZ:=⟨zqZ⟩
def Dsp(te:TE)(σ:St)(H:Hp)(d:D):Prop:=∀(H1:Hp) (Q:VK),Same H H1->(∀v H2,Same H1 H2->Rep H2 v d->Q v H2)->te σ H1 Q
def znb(ta:TA)(σ:St)(H:Hp)(ds:List D):Prop:=∀(H1:Hp) (Q:List V->Hp->Prop),Same H H1->(∀vs H2,Same H1 H2->RepL H2 vs ds->Q vs H2)->ta σ H1 Q
def zsE(te:TE)(σ:St)(H:Hp)(ds:List D):Prop:=∀(H1:Hp) (Q:VK),Same H H1->(∀l vs H2,Same H1 H2->H2 l=some (.lst vs)->RepL H2 vs ds->Q (.ref l) H2)->te σ H1 Q
section
variable{es:List D}
theorem zej(h:x.length<=1000):Dsp (tC (.str x)) σ H (.str x):=λH1 Q s q=>q _ H1 (Same.refl _) (.str x h)
theorem ztU{i:Int}:Dsp (tC (.int i)) σ H (.int i):=λH1 Q s q=>q _ H1 (Same.refl _) (.int i)
theorem zvq{b:Bool}:Dsp (tC (.bl b)) σ H (.bl b):=λH1 Q s q=>q _ H1 (Same.refl _) (.bl b)
theorem zt9:Dsp (tC .non) σ H .non:=λH1 Q s q=>q _ H1 (Same.refl _) .non
theorem ztz{i:Int}:Dsp (tUn (rU λi=> .int (-i)) (tC (.int i))) σ H (.int (-i)):=λH1 Q s q=>⟨i,rfl,q _ H1 (Same.refl _) (.int (-i))⟩
theorem zdy(h:σ[i]?=some (some v))(r:Rep H v d):Dsp (zdQ i) σ H d:=λH1 Q s q=>⟨v,h,q v H1 (Same.refl _) (r.same s)⟩
theorem zaJ:znb zgP σ H []:=λH1 Q s q=>q [] H1 (Same.refl _) RepL.nil
theorem zB(h:Dsp te σ H d)(r:znb ta σ H ds):znb (zbL te ta) σ H (d::ds):=λH1 Q s q=>
 h H1 _ s λv H2 s2 rv=>r H2 _ (s.trans s2) λvs H3 s3 rs=>q (v::vs) H3 (s2.trans s3) (.cons (rv.same s3) rs)
theorem zbW(h:znb ta σ H ds)(hl:ds.length<=1000):Dsp (zmQ ta) σ H (.tup ds):=λH1 Q s q=>
 h H1 _ s λvs H2 s2 rs=>⟨P2 (zp (by rw[rs.1];exact hl)),λp hp=>q _ _ (s2.trans (Same.new hp)) (.mkL zc hl (rs.mono (.new hp)))⟩
theorem zls(h:znb ta σ H ds)(hl:ds.length<=1000):zsE (znG ta) σ H ds:=λH1 Q s q=>
 h H1 _ s λvs H2 s2 rs=>⟨P2 (zp (by rw[rs.1];exact hl)),λp hp=>q p vs _ (s2.trans (Same.new hp)) zc (rs.mono (.new hp))⟩
theorem RepL.rep(r:RepL H vs ds)(n:Nat):RepL H (List.replicate n vs).flatten (List.replicate n ds).flatten:=by
 induction n with
 |zero=>exact RepL.nil
 |succ n ih=>rw[V2,V2,List.flatten_cons,List.flatten_cons];exact r.append ih
theorem zoz{k:Int}(h:Dsp te σ H (.tup ds))(hn:ds≠ [])(k2:2<=k)(kb:k<=1000)(hl:(List.replicate k.toNat ds).flatten.length<=1000)(hd:ds.length<=1000):Dsp (tOp (zoF K) te (tC (.int k))) σ H (.tup (List.replicate k.toNat ds).flatten):=λH1 Q s q=>
 h H1 _ s λv H2 s2 rv=>by
  obtain⟨p,vs,rfl,hp,r,_⟩:=rv.ofT
  refine⟨p,k,vs,rfl,rfl, .inl (.inl hp),λz=>hn ?_,k2,kb,by rw[r.1];exact hd,λp2 hp2=>q _ _ (s2.trans (Same.new hp2)) (.mkL zc hl ((r.rep _).mono (.new hp2)))⟩
  have:=r.1
  rw[z] at this
  exact List.eq_nil_of_length_eq_zero this.symm
def zvF(te:TE)(σ:St)(H:Hp):Prop:=∀(H1:Hp) (Q:VK),Same H H1->(∀v H2,Same H1 H2->Q v H2)->te σ H1 Q
def zui(ta:TA)(σ:St)(H:Hp)(m:Nat):Prop:=∀(H1:Hp) (Q:List V->Hp->Prop),Same H H1->(∀vs H2,Same H1 H2->vs.length<=m->Q vs H2)->ta σ H1 Q
theorem v_c:zvF (tC v) σ H:=λH1 Q s q=>q _ H1 (Same.refl _)
theorem zwk(h:σ[i]?=some (some v)):zvF (zdQ i) σ H:=λH1 Q s q=>⟨v,h,q v H1 (Same.refl _)⟩
theorem zwF{m:Nat}:zui zgP σ H m:=λH1 Q s q=>q [] H1 (Same.refl _) (Z1 _)
theorem zvt{m:Nat}(h:zvF te σ H)(r:zui ta σ H m):zui (zbL te ta) σ H (m+1):=λH1 Q s q=>
 h H1 _ s λv H2 s2=>r H2 _ (s.trans s2) λvs H3 s3 hl=>q (v::vs) H3 (s2.trans s3) (Nat.succ_le_succ hl)
theorem zsF(h:zui ta σ H 1000):Dsp (znG ta) σ H .oth:=λH1 Q s q=>
 h H1 _ s λvs H2 s2 hl=>⟨P2 (zp hl),λp hp=>q _ _ (s2.trans (Same.new hp)) (.lst zc)⟩
theorem zro:Dsp zmZ σ H .oth:=λH1 Q s q=>λp hp=>q _ _ (Same.new hp) (.dK zc)
end
section
variable{tr:TA}{k:Nat}
theorem zuB(h:Dsp te σ H d)(q:∀v H2,Same H H2->Rep H2 v d->tb De (σ.set k (some v)) H2):zpn (zja te (zbH k)) tb De σ H:=h H _ (Same.refl H) q
theorem zvJ{Q:List V->Hp->Prop}(h:zsE te σ H ds)(q:∀l vs H2,Same H H2->H2 l=some (.lst vs)->RepL H2 vs ds->tr σ H2 λxs H3=>Q (.ref l::xs) H3):zbL te tr σ H Q:=h H _ (Same.refl H) q
end
theorem znN{p:α->Prop}:∀d∈([]:List α),p d:=λ_ z=>nomatch z
theorem zni{n:Int}(h:Hand H a n)(e:H l=some (.lst vs))(r:RepL H vs ds)(h3:ds.length≠3):l≠a:=λz=>by
 obtain⟨x,m,t,hh,_⟩:=h
 rw[z,hh] at e
 cases e
 exact h3 r.1.symm
section
open PySem.W
section
variable{N:Nat}{lt:Nat->Nat->Bool}
def OkT(N:Nat)(lt:Nat->Nat->Bool){α:Type}:KasT α->(α->Prop)->Prop
 | .ret a,P=>P a
 | .ask i j k,P=>i<N/\j<N/\OkT N lt (k (lt i j)) P
theorem OkT.mono{P Q:α->Prop}(h:∀a,P a->Q a):∀{t:KasT α},OkT N lt t P->OkT N lt t Q
 | .ret a,q=>h a q
 | .ask i j k,⟨h1,h2,q⟩=>⟨h1,h2,OkT.mono h q⟩
theorem OkT.bind{f:α->KasT β}{P:β->Prop}:∀{t:KasT α},OkT N lt t (λa=>OkT N lt (f a) P)->OkT N lt (t.bind f) P
 | .ret a,q=>q
 | .ask i j k,⟨h1,h2,q⟩=>⟨h1,h2,OkT.bind q⟩
theorem OkT.wp{cmp:Nat->Nat->(Bool->Shared->Prop)->Shared->Prop}{I:Shared->Prop}(hc:∀i j (C:Bool->Shared->Prop) s,i<N->j<N->I s->(∀s',I s'->C (lt i j) s')->cmp i j C s){P:α->Prop}{Q:α->Shared->Prop}(hq:∀a s,P a->I s->Q a s):
 ∀{t:KasT α} {s:Shared},I s->OkT N lt t P->t.kasWp cmp Q s
 | .ret a,s,hs,q=>hq a s q hs
 | .ask i j k,s,hs,⟨h1,h2,q⟩=>hc i j _ s h1 h2 hs λs' hs'=>OkT.wp hc hq hs' q
noncomputable abbrev gd(p:Array Nat)(i:Nat):Nat:=p.getD i 0
structure Strict(N:Nat)(lt:Nat->Nat->Bool):Prop where
 tot:∀i j,i<N->j<N->i≠j->lt i j=false->lt j i=true
 tr:∀i j k,i<N->j<N->k<N->lt i j=true->lt j k=true->lt i k=true
 asy:∀i j,i<N->j<N->lt i j=true->lt j i=false
def PermN(N:Nat)(p:Array Nat):Prop:=p.toList.Perm (List.range N)
theorem PermN.size{p:Array Nat}(h:PermN N p):p.size=N:=by
 have:=h.length_eq
 simpa using this
theorem gd_get{p:Array Nat}(h:i<p.size):gd p i=p[i]:=by simp[gd,Array.getD,h]
theorem zlg{p q:Array Nat}(h:p[i]?=q[j]?):gd p i=gd q j:=by
 simp only[gd,Array.getD_eq_getD_getElem?,h]
theorem PermN.bd{p:Array Nat}(h:PermN N p)(hi:i<N):gd p i<N:=by
 have hs:=h.size
 rw[gd_get ()]
 have:p[i]∈p.toList:=`Z3
 exact List.mem_range.mp (h.mem_iff.mp this)
theorem PermN.inj{p:Array Nat}(h:PermN N p)(hi:i<N)(hj:j<N)(hij:i≠j):gd p i≠gd p j:=by
 have hs:=h.size
 have nd:p.toList.Nodup:=h.nodup_iff.mpr List.nodup_range
 rw[gd_get (),gd_get ()]
 intro z
 exact hij ((List.getElem_inj (i:=i) (j:=j) (h₀:=by simp;lia) (h₁:=by simp;lia) nd).mp (by simpa using z))
def Sor(lt:Nat->Nat->Bool)(p:Array Nat)(m:Nat):Prop:=∀i j,i<j->j<m->lt (gd p i) (gd p j)=true
def Des(lt:Nat->Nat->Bool)(p:Array Nat)(m:Nat):Prop:=∀i j,i<j->j<m->lt (gd p j) (gd p i)=true
theorem Sor.snoc{p:Array Nat}{n:Nat}(S:Strict N lt)(hp:PermN N p)(h:Sor lt p n)(h1:1<=n)(hn:n<N)(e:lt (gd p (n -1)) (gd p n)=true):Sor lt p (n+1):=by
 intro i j hij hj
 by_cases hjn:j<n
 ·exact h i j hij hjn
 ·have ej:j=n:=()
  subst ej
  by_cases hi:i=j -1
  ·subst hi;exact e
  ·exact S.tr _ _ _ (hp.bd ()) (hp.bd ()) (hp.bd hn) (h i (j -1) () ()) e
theorem Des.snoc{p:Array Nat}{n:Nat}(S:Strict N lt)(hp:PermN N p)(h:Des lt p n)(h1:1<=n)(hn:n<N)(e:lt (gd p n) (gd p (n -1))=true):Des lt p (n+1):=by
 intro i j hij hj
 by_cases hjn:j<n
 ·exact h i j hij hjn
 ·have ej:j=n:=()
  subst ej
  by_cases hi:i=j -1
  ·subst hi;exact e
  ·exact S.tr _ _ _ (hp.bd hn) (hp.bd ()) (hp.bd ()) e (h i (j -1) () ())
theorem zns{p:Array Nat}(S:Strict N lt)(hp:PermN N p):∀f n,1<=n->n+f<=N->Sor lt p n->OkT N lt (kas_asc p f n) (λm=>n<=m/\m<=n+f/\Sor lt p m/\(m<n+f->lt (gd p m) (gd p (m -1))=true))
 |0,n,_,_,hs=>⟨S0 _,S0 _,hs,λh=>()⟩
 |f+1,n,h1,hn,hs=>by
  refine⟨hp.bd (),hp.bd (),?_⟩
  cases hc:lt (gd p n) (gd p (n -1))with
  |true=>
   show OkT N lt (if true=true then _ else _) _
   rw[R0 rfl]
   exact⟨S0 _,(),hs,λ_=>hc⟩
  |false=>
   show OkT N lt (if false=true then _ else _) _
   rw[N0 ⋯]
   refine OkT.mono (λm hm=>⟨(),(),hm.2.2.1,λh=>hm.2.2.2 ()⟩) (zns S hp f (n+1) () () (hs.snoc S hp h1 () (S.tot _ _ (hp.bd ()) (hp.bd ()) (hp.inj () () ()) hc)))
theorem zoJ{p:Array Nat}(S:Strict N lt)(hp:PermN N p):∀f n,1<=n->n+f<=N->Des lt p n->OkT N lt (kas_desc f p n 0) (λr=>r.1=p/\n<=r.2.1/\r.2.1<=n+f/\Des lt p r.2.1/\r.2.2=0)
 |0,n,_,_,hs=>⟨rfl,S0 _,S0 _,hs,rfl⟩
 |f+1,n,h1,hn,hs=>by
  refine⟨hp.bd (),hp.bd (),?_⟩
  cases hc:lt (gd p n) (gd p (n -1))with
  |true=>
   show OkT N lt (if true=true then(if 0>0 then _ else _)else _) _
   rw[R0 rfl,N0 ⋯]
   exact OkT.mono (λm hm=>⟨hm.1,(),(),hm.2.2.2⟩) (zoJ S hp f (n+1) () () (hs.snoc S hp h1 () hc))
  |false=>
   show OkT N lt (if false=true then _ else _) _
   rw[N0 ⋯]
   refine⟨hp.bd (),hp.bd (),?_⟩
   have hd:lt (gd p (n -1)) (gd p n)=true:=S.tot _ _ (hp.bd ()) (hp.bd ()) (hp.inj () () ()) hc
   show OkT N lt (if lt (gd p (n -1)) (gd p n)=true then _ else _) _
   rw[R0 hd]
   exact⟨rfl,S0 _,by show n<=n+(f+1);lia,hs,rfl⟩
theorem zlB{p:Array Nat}(hp:PermN N p)(n:Nat):PermN N (kas_rev p 0 n):=(Array.perm_iff_toList_perm.mp (mirror_perm p 0 n _)).trans hp
theorem ztf{p:Array Nat}{n:Nat}(hp:PermN N p)(hn:n<=N)(h:Des lt p n):Sor lt (kas_rev p 0 n) n:=by
 have hs:=hp.size
 have e:∀k,k<n->gd (kas_rev p 0 n) k=gd p (n -1 -k):=λk hk=>by
  refine zlg ?_
  show(mirror p 0 n ((n -0)/2))[k]?=_
  rw[getElem?_mirror_all (),R0 ⟨Z1 _,hk⟩,Nat.zero_add]
 intro i j hij hj
 rw[e i (),e j hj]
 exact h (n -1 -j) (n -1 -i) () ()
def zqQ(N:Nat)(lt:Nat->Nat->Bool)(r:Nat×Array Nat):Prop:=PermN N r.2/\Sor lt r.2 r.1/\1<=r.1/\r.1<=N
theorem zqx{p:Array Nat}{n:Nat}(S:Strict N lt)(hp:PermN N p)(h1:1<=n)(hn:n<=N)(h:Des lt p n):OkT N lt (kas_tail3 n N p) (zqQ N lt):=by
 refine OkT.bind (OkT.mono (λm hm=>?_) (zns S (zlB hp n) (N -n) n h1 () (ztf hp hn h)))
 exact⟨zlB hp n,hm.2.2.1,by have:=hm.1;lia,by have:=hm.2.1;lia⟩
theorem zqR{p:Array Nat}(S:Strict N lt)(hp:PermN N p)(h1:1<=N):OkT N lt (kas_count N p) (zqQ N lt):=by
 refine OkT.bind (OkT.mono (λn hn=>?_) (zns S hp (N -1) 1 (S0 _) () (λi j hij hj=>())))
 obtain⟨n1,n2,hs,hl⟩:=hn
 by_cases hN:(n==N)=true
 ·rw[R0 hN]
  exact⟨hp,hs,n1,()⟩
 ·have hne:n≠N:=by simpa using hN
  rw[N0 hN]
  by_cases h2:n>1
  ·rw[R0 h2]
   refine⟨hp.bd (),hp.bd (),?_⟩
   show OkT N lt (if lt (gd p 0) (gd p (n -1))=true then _ else _) _
   rw[R0 (hs 0 (n -1) () ())]
   exact⟨hp,hs,n1,()⟩
  ·rw[N0 h2]
   have e1:n=1:=()
   subst e1
   have hd:Des lt p 2:=λi j hij hj=>by
    have ei:i=0:=()
    have ej:j=1:=()
    subst ei ej
    exact hl ()
   refine OkT.bind (OkT.mono (λr hr=>?_) (zoJ S hp (N -(1+1)) (1+1) () () hd))
   obtain⟨e1,r1,r2,r3,r4⟩:=hr
   rw[N0 (),e1]
   exact zqx S hp () () r3
theorem ziN{p:Array Nat}{k:Nat}(S:Strict N lt)(hp:PermN N p)(hs:Sor lt p k)(hk:k<N):∀f l r,l<=r->r<=k->r -l<=f->(∀i,i<l->lt (gd p i) (gd p k)=true)->(∀i,r<=i->i<k->lt (gd p k) (gd p i)=true)->
 OkT N lt (kas_place p k f l r) (λm=>m<=k/\(∀i,i<m->lt (gd p i) (gd p k)=true)/\∀i,m<=i->i<k->lt (gd p k) (gd p i)=true)
 |0,l,r,h1,h2,h3,ha,hb=>⟨(),ha,λi hi=>hb i ()⟩
 |f+1,l,r,h1,h2,h3,ha,hb=>by
  by_cases hlr:l≥r
  ·show OkT N lt (if l≥r then _ else _) _
   rw[R0 hlr]
   exact⟨(),ha,λi hi=>hb i ()⟩
  ·show OkT N lt (if l≥r then _ else _) _
   rw[N0 hlr]
   refine⟨hp.bd hk,hp.bd (),?_⟩
   cases hc:lt (gd p k) (gd p ((l+r)/2))with
   |true=>
    show OkT N lt (if true=true then _ else _) _
    rw[R0 rfl]
    refine ziN S hp hs hk f l ((l+r)/2) () () () ha λi hi hik=>?_
    by_cases e:i=(l+r)/2
    ·subst e;exact hc
    ·exact S.tr _ _ _ (hp.bd hk) (hp.bd ()) (hp.bd ()) hc (hs ((l+r)/2) i () hik)
   |false=>
    show OkT N lt (if false=true then _ else _) _
    rw[N0 ⋯]
    have hm:lt (gd p ((l+r)/2)) (gd p k)=true:=S.tot _ _ (hp.bd hk) (hp.bd ()) (hp.inj hk () ()) hc
    refine ziN S hp hs hk f ((l+r)/2+1) r () h2 () (λi hi=>?_) hb
    by_cases e:i=(l+r)/2
    ·subst e;exact hm
    ·exact S.tr _ _ _ (hp.bd ()) (hp.bd ()) (hp.bd hk) (hs i ((l+r)/2) () ()) hm
theorem zn3{p:Array Nat}{k l:Nat}(hp:PermN N p)(hk:k<N)(hl:l<=k)(hs:Sor lt p k)(ha:∀i,i<l->lt (gd p i) (gd p k)=true)(hb:∀i,l<=i->i<k->lt (gd p k) (gd p i)=true):Sor lt (bubble p k (k -l)) (k+1):=by
 have hz:=hp.size
 have g:∀i,(bubble p k (k -l))[i]?=if i=l then p[k]? else if l<i/\i<=k then p[i -1]? else p[i]?:=λi=>by
  rw[getElem?_bubble () (k -l) (),show k -(k -l)=l by lia]
 have g1:gd (bubble p k (k -l)) l=gd p k:=zlg (by rw[g,R0 rfl])
 have g2:∀i,l<i->i<=k->gd (bubble p k (k -l)) i=gd p (i -1):=λi h1 h2=>zlg (by rw[g,N0 (),R0 ⟨h1,h2⟩])
 have g3:∀i,i<l->gd (bubble p k (k -l)) i=gd p i:=λi h1=>zlg (by rw[g,N0 (),N0 ()])
 intro i j hij hj
 rcases Nat.lt_trichotomy i l with hi|hi|hi
 ·rw[g3 i hi]
  rcases Nat.lt_trichotomy j l with h|h|h
  ·rw[g3 j h];exact hs i j hij ()
  ·subst h;rw[g1];exact ha i hi
  ·rw[g2 j h ()];exact hs i (j -1) () ()
 ·subst hi
  rw[g1,g2 j hij ()]
  exact hb (j -1) () ()
 ·rw[g2 i hi (),g2 j () ()]
  exact hs (i -1) (j -1) () ()
theorem zqW(S:Strict N lt):∀f (p:Array Nat) k,PermN N p->Sor lt p k->k+f=N->OkT N lt (kas_bin f p k) (λp'=>PermN N p'/\Sor lt p' N)
 |0,p,k,hp,hs,hk=>⟨hp,by have:k=N:=()
                         rw[←this];exact hs⟩
 |f+1,p,k,hp,hs,hk=>by
  refine OkT.bind (OkT.mono (λl hl=>?_) (ziN S hp hs () k 0 k (Z1 _) (S0 _) () (λi hi=>()) (λi hi hik=>())))
  exact zqW S f _ (k+1) ((Array.perm_iff_toList_perm.mp (bubble_perm p k _)).trans hp) (zn3 hp () hl.1 hs hl.2.1 hl.2.2) ()
theorem sort_ok(S:Strict N lt)(h1:1<=N):OkT N lt (kas_sort N) (λp=>PermN N p/\Sor lt p N):=by
 have h0:PermN N (List.toArray (List.range N)):=by show(List.range N).Perm _;exact List.Perm.refl _
 refine OkT.bind (OkT.mono (λr hr=>?_) (zqR S h0 h1))
 obtain⟨c1,c2,c3,c4⟩:=hr
 by_cases h:r.1<N
 ·rw[R0 h]
  have e:max r.1 1=r.1:=()
  rw[e]
  exact zqW S _ _ _ c1 c2 ()
 ·rw[N0 h]
  have e:r.1=N:=()
  rw[e] at c2
  exact⟨c1,c2⟩
end
def RawD(h:Heap)(d:Addr)(ks:List Value)(ep:Nat):Prop:=∃o es,h.get? d=some o/\o.ExactDict/\o.data= .dict es ep/\es.toList.map (·.key)=ks
theorem RawD.at{h:Heap}{d:Addr}(x:RawD h d ks ep)(e:∀o,h.get? d=some o->h'.get? d=some o):RawD h' d ks ep:=let⟨o,es,ho,r⟩:=x;⟨o,es,e _ ho,r⟩
theorem RawD.ty{d:Addr}(x:RawD s.heap d ks ep):s.TypeIs (.ref d) "dict":=let⟨o,_,ho,hc,_⟩:=x;⟨o,ho,hc.1⟩
theorem RawD.lt{h:Heap}{d:Addr}(x:RawD h d ks ep):d<h.objs.size:=let⟨_,_,ho,_⟩:=x;Y0 ho
section
variable{d:Addr}
theorem zrw{R:Value->Shared->Prop}(nsys:(d==sysModules)=false)(x:RawD s.heap d ks ep)(q:R (.ref s.heap.objs.size) {s with heap:=s.heap.push {cls:= .type "dict_keyiterator",data:= .fields #[.ref d, .int 0 0, .int ks.length 0, .int ep 0]}}):
 wpAny (model prog w) A (pyIter (.ref d)) R E s:=by
 have ty:=x.ty
 obtain⟨o,es,ho,_,hdat,hks⟩:=x
 refine wpAny_pyIter_slot ty F.slot_dict_iter (J3 F.slot_dict_iter ty F.entry_dict_iter ?_ (F.args_dict_iter_1 _))
 unfold Builtin.«dict.__iter__»
 refine C0 (by unfold Builtin.Dict.dictSlotNone;refine C0 (wpAny_notOrdered_dict ty ?_);show wpAny _ _ (pure (Value.ref d)) _ _ s;exact K0 (by
  show wpAny _ _ (Builtin.Dict.showsAll d>>=_) _ _ s
  unfold Builtin.Dict.showsAll
  rw[N0 (λz=>by rw[nsys] at z;cases z)]
  refine C0 (K0 (C0 (wpAny_dictEntries ho hdat (C0 (wpAny_dictEpoch ho hdat ?_)))))
  have sz:es.size=ks.length:=by rw[←hks];simp
  refine C0 (K2 (K0 ⟨_,rfl,"dict_keyiterator",_,⟨_,Q0 _ rfl,rfl⟩,F.slot_dict_keyiterator_next.lookup,?_⟩))
  simpa[rawInt,sz] using q))
theorem zqE{R:Option Value->Shared->Prop}(y:s.heap.IsKeyIter it d i ks.length ep)(x:RawD s.heap d ks ep)(hx:ks[i]?=some key)
 (q:∀h',h'.IsKeyIter it d (i+1) ks.length ep->Heap.SameBut it s.heap h'->R (some key) {s with heap:=h'}):wpAny (model prog w) A (pyNext (.ref it)) R E s:=by
 obtain⟨o,ho,hc,hd⟩:=id y
 obtain⟨od,es,hod,_,hdd,hks⟩:=x
 have sz:es.size=ks.length:=by rw[←hks];simp
 have li:i<ks.length:=by
  rcases D2 i ks.length with h|h
  ·exact h
  ·rw[W0 h] at hx;cases hx
 have li':i<es.size:=()
 have ek:es[i].key=key:=by
  have e1:ks[i]?=some es[i].key:=by rw[←hks];simp[li']
  rw[e1] at hx;exact U1 hx
 unfold pyNext
 refine C0 (wpAny_attempt (wpAny_callSpecial?_slot (name:=Str.ofString "__next__") y.typeIs F.slot_dict_keyiterator_next (J3 F.slot_dict_keyiterator_next y.typeIs F.entry_dict_keyiterator_next ?_ (F.args_dict_keyiterator_next_1 _))))
 refine C0 (K0 (C0 (C0 ?_)))
 first|refine C0 (wpAny_typeNameOfWhole_keyiter y.typeIs (K0 ?_))|refine C0 (wpAny_typeNameOf_keyiter y.typeIs (K0 ?_))
 refine C0 (wpAny_fieldsOf ho hd ?_)
 simp only[(by decide:Builtin.Dict_items.ownsTuple "dict_keyiterator"=false),P3,if_false]
 show wpAny _ _ (if(Value.ref d==Value.none)=true then _ else _) _ _ s
 rw[N0 (λz=>nomatch z)]
 refine C0 (K0 (C0 (wpAny_dictEntries hod hdd ?_)))
 rw[N0 (λz=>by rw[sz] at z;simp at z)]
 refine C0 (K0 (C0 (wpAny_dictEpoch hod hdd ?_)))
 rw[N0 (λz=>by simp at z)]
 refine K0 ?_
 simp only[(by lia:¬((i:Int)<0)),if_false,Int.toNat_natCast,Array.getElem?_eq_getElem li']
 refine C0 ?_
 first|refine C0 (wpAny_typeNameOfWhole_keyiter y.typeIs (K0 ?_))|refine C0 (wpAny_typeNameOf_keyiter y.typeIs (K0 ?_))
 refine C0 (wpAny_isOneOf_keyiter y.typeIs ?_)
 show wpAny _ _ (setField (.ref it) 1 (rawInt ((i:Int)+1))>>=_) _ _ s
 refine C0 (wpAny_setField ho hd `Z3 ?_)
 have y':(s.heap.update it (Obj.mapFields (·.setIfInBounds 1 (rawInt ((i:Int)+1))))).IsKeyIter it d (i+1) ks.length ep:=⟨_,Heap.get?_update_self _ ho (Obj.isFreed_of_fields (Obj.data_mapFields hd _)),(Obj.cls_mapFields ..).trans hc,by rw[Obj.data_mapFields hd];simp[rawInt]⟩
 refine C0 (F3 (C0 (wpAny_isOneOf_keyiter (s:={s with heap:=s.heap.update it (Obj.mapFields (·.setIfInBounds 1 (rawInt ((i:Int)+1))))}) y'.typeIs ?_)))
 show wpAny _ _ (pure es[i].key) _ _ _
 rw[ek]
 exact K0 (K0 ⟨_,rfl,K0 (q _ y' (Heap.SameBut.update ..))⟩)
theorem ztQ{R:Option Value->Shared->Prop}(hh:A.handled=none)(y:s.heap.IsKeyIter it d ks.length ks.length ep)(x:RawD s.heap d ks ep)(q:∀h',Heap.ExtBut it s.heap h'->R none {s with heap:=h'}):wpAny (model prog w) A (pyNext (.ref it)) R E s:=by
 obtain⟨o,ho,hc,hd⟩:=id y
 obtain⟨od,es,hod,_,hdd,hks⟩:=x
 have sz:es.size=ks.length:=by rw[←hks];simp
 unfold pyNext
 refine C0 (wpAny_attempt (wpAny_callSpecial?_slot (name:=Str.ofString "__next__") y.typeIs F.slot_dict_keyiterator_next (J3 F.slot_dict_keyiterator_next y.typeIs F.entry_dict_keyiterator_next ?_ (F.args_dict_keyiterator_next_1 _))))
 refine C0 (K0 (C0 (C0 ?_)))
 first|refine C0 (wpAny_typeNameOfWhole_keyiter y.typeIs (K0 ?_))|refine C0 (wpAny_typeNameOf_keyiter y.typeIs (K0 ?_))
 refine C0 (wpAny_fieldsOf ho hd ?_)
 simp only[(by decide:Builtin.Dict_items.ownsTuple "dict_keyiterator"=false),P3,if_false]
 show wpAny _ _ (if(Value.ref d==Value.none)=true then _ else _) _ _ s
 rw[N0 (λz=>nomatch z)]
 refine C0 (K0 (C0 (wpAny_dictEntries hod hdd ?_)))
 rw[N0 (λz=>by rw[sz] at z;simp at z)]
 refine C0 (K0 (C0 (wpAny_dictEpoch hod hdd ?_)))
 rw[N0 (λz=>by simp at z)]
 refine K0 ?_
 simp only[(by lia:¬((ks.length:Int)<0)),if_false,Int.toNat_natCast,Array.getElem?_eq_none (show es.size<=ks.length by lia)]
 refine C0 ?_
 first|refine C0 (wpAny_typeNameOfWhole_keyiter y.typeIs (K0 ?_))|refine C0 (wpAny_typeNameOf_keyiter y.typeIs (K0 ?_))
 show wpAny _ _ (setField (.ref it) 0 .none>>=_) _ _ s
 refine C0 (wpAny_setField ho hd `Z3 ?_)
 show wpAny _ _ (newExc (.type "StopIteration") []>>=_) _ _ _
 refine C0 (by
  simp only[newExc,newTuple]
  refine C0 (K2 (C0 (m:=firstArgMember _ _) (wpAny_of_eq (a:=Value.none) (by first|rfl|(simp only[firstArgMember];rfl)) (K2 ?_ (by size_fits)))) (by size_fits))
  simp only[raiseNew]
  refine C0 (wpAny_handled ?_)
  rw[show A.in1.handled=none from hh]
  refine C0 (K0 (wpAny_throw ?_));refine C0 (wpAny_isInstance (T:="StopIteration") (b:=true) ⟨_,Q0 _ rfl,rfl⟩ isSubtype_stop ?_)
  exact K0 (q _ (((Heap.SameBut.update ..).extBut.push _).push _)))
theorem zpr(hh:A.handled=none)(hne:d≠it):Walks prog w A it [it,d] [it] ks.length (λi v=>ks[i]?=some v) (λi h=>h.IsKeyIter it d i ks.length ep/\RawD h d ks ep) where
 sub:=λb hb=>by simp at hb;simp[hb]
 frame:=λ_ _ _ st hk=>⟨st.1.at λo e=>hk it `Z3 o e,st.2.at λo e=>hk d `Z3 o e⟩
 item:=λi s Q E hi st hQ=>zqE st.1 st.2 (show ks[i]?=some ks[i] by simp[hi]) λh' y' hs=>hQ _ h' s.toks (by simp[hi]) ⟨y',st.2.at λo e=>hs.extBut d o hne e⟩ λb o hb e=>hs.extBut b o (λh=>hb (by simp[h])) e
 done:=λs Q E st hQ=>ztQ hh st.1 st.2 λh' he=>hQ h' s.toks λb o hb e=>he b o (λh=>hb (by simp[h])) e
 self:=λ_ _ _ _ st hQ=>wpAny_pyIter_keyiter st.1 hQ
theorem zs3(nsys:(d==sysModules)=false):KdlSrc prog w "dict" d d ks.length (λi v=>ks[i]?=some v) (λh=>RawD h d ks ep) where
 type:=λ_ hm=>hm.ty
 there:=λ_ hm=>⟨hm.lt,hm.lt⟩
 keep:=λ_ _ hm hk=>hm.at λo e=>hk d (.inl rfl) o e
 notList:=⋯
 notTuple:=⋯
 hint:=λ_ _ _ _ hm hq=>kdl_hint_dict hm.ty hq
 iter:=λ_ _ hh hm=>⟨_,_,(λ_ _ hq=>zrw nsys hm hq),zpr hh (V1 hm.lt),⟨⟨_,Q0 _ rfl,rfl,rfl⟩,hm.at λo e=>G0 _ e⟩⟩
end
def Kp(a:Addr)(s s1:Shared):Prop:=s1={s with heap:=s1.heap}/\∀b o,b≠a->s.heap.get? b=some o->s1.heap.get? b=some o
theorem zpS{vs:List Value}{n:Nat}{R:PySem.Fin->Shared->Prop}{κ:SortKind}(ho:s.heap.get? a=some (seqObj "list" vs.toArray n))(h64:vs.length<64)
 (hk:2<=vs.length->∀s1:Shared,Kp a s s1->(∀C:SortKind->Shared->Prop,C κ s1->wpAny (model prog w) A (keyKind' vs.toArray) C E s1)/\(kas_sort vs.length).kasWp (kas_ask prog w A κ vs) (λp s'=>s'=s1/\G p) s1)
 (q:∀(out:List Value) (h':Heap) (c:Nat),(vs.length<2/\out=vs\/∃p:Array Nat,p.size=vs.length/\G p/\out=p.toList.map λi=>vs.getD i Value.none)->(∀b o,b≠a->s.heap.get? b=some o->h'.get? b=some o)->
   h'.get? a=some (seqObj "list" out.toArray c)->R (.done (.ret .none)) {s with heap:=h'}):wpAny (model prog w) A (Builtin.«list.sort» ⟨[.ref a],[]⟩) R E s:=by
 have la:a<s.heap.objs.size:=Y0 ho
 have lz:vs.toArray.size=vs.length:=E1 ..
 have u1:=Heap.SameBut.update s.heap a (Obj.mapSeq λ_=>(#[]:Array Value))
 obtain⟨e1,g1⟩:∃e1,(s.heap.update a (Obj.mapSeq λ_=>(#[]:Array Value))).get? a=some (seqObj "list" #[] e1):=⟨_,get?_update_seq ho λ_=> #[]⟩
 rw[list_sort_plain]
 refine C0 (listItems_at ho rfl (C0 (listUpdate_at ho rfl (C0 (seqEpoch_at g1 rfl (C0 (wpAny_newTuple (C0 (wpAny_newList (F3 ?_) (Z1 _))) (by show vs.length<=_;rw[sizeLine_eq];lia))))) (by rw[lz,sizeLine_eq];lia) (Z1 _))))
 generalize hs1:({s with heap:=((s.heap.update a (Obj.mapSeq λ_=>(#[]:Array Value))).push (seqObj "tuple" vs.toArray 0)).push (seqObj "list" #[] 0)}:Shared)=s1
 have kp:∀b o,(s.heap.update a (Obj.mapSeq λ_=>(#[]:Array Value))).get? b=some o->s1.heap.get? b=some o:=λb o e=>by rw[←hs1];exact G0 _ (G0 _ e)
 have k1:Kp a s s1:=⟨by rw[←hs1],λb o nb e=>kp b o ((u1.2 b nb).trans e)⟩
 have g2:s1.heap.get? a=some (seqObj "list" #[] e1):=kp a _ g1
 dsimp only
 have fin:∀(st:SortSt) (out:List Value),(arrOf st).map (·.2)=out.toArray->failedOf st=none->out.length<64->(vs.length<2/\out=vs\/∃p:Array Nat,p.size=vs.length/\G p/\out=p.toList.map λi=>vs.getD i Value.none)->
  wpAny (model prog w) A (do
   let touched:=(←seqEpoch a) !=e1
   Builtin.List.listUpdate (.ref a) λ_=>(arrOf st).map (·.2)
   if let some e:=failedOf st then rule "list.sort.comparison-raised";throw e
   if touched then rule "list.sort.modified";raiseError "ValueError" "list modified during sort"
   ret .none) R E s1:=by
  intro st out ho hf hl hc
  rw[ho]
  have u2:=Heap.SameBut.update s1.heap a (Obj.mapSeq λ_=>out.toArray)
  obtain⟨c2,g3⟩:∃c2,(s1.heap.update a (Obj.mapSeq λ_=>out.toArray)).get? a=some (seqObj "list" out.toArray c2):=⟨_,get?_update_seq g2 λ_=>out.toArray⟩
  refine C0 (seqEpoch_at g2 rfl (C0 (listUpdate_at g2 rfl ?_ (Z1 _) (by show out.toArray.size<=_;rw[E1,sizeLine_eq];lia))))
  rw[hf]
  simp only[bne_self_eq_false,P3,if_false]
  have:=q out _ c2 hc (λb o nb e=>(u2.2 b nb).trans (k1.2 b o nb e)) g3
  rw[k1.1]
  exact K0 this
 by_cases h2:vs.toArray.size<2
 ·rw[R0 h2,R0 h2]
  refine C0 (K0 ?_)
  rw[StateT.run_pure]
  refine C0 (K0 ?_)
  refine fin _ vs ?_ rfl h64 (.inl ⟨(),rfl⟩)
  apply Array.toList_inj.mp
  show((vs.toArray.zip vs.toArray).map (·.2)).toList=_
  rw[Array.toList_map,Array.toList_zip]
  exact List.map_snd_zip (S0 _)
 ·rw[N0 h2,N0 h2]
  obtain⟨hkk,hw⟩:=hk () s1 k1
  refine C0 (hkk _ ?_)
  refine C0 (D3 (kat_run (E:=E) (Q:=λst' s'=>s'=s1/\∃p:Array Nat,p.size=vs.length/\arrOf st'=p.map (kas_item (vs.toArray.zip vs.toArray))/\failedOf st'=none/\G p) rfl () h64 (λp st' s' x1 x2 x3 x4=>⟨x4.1,p,x1,x2,x3,x4.2⟩) hw) ?_ λ_ _ e=>e)
  rintro⟨⟨⟩,st'⟩ s' ⟨rfl,p,hp,har,hf,hG⟩
  refine fin st' (p.toList.map λi=>vs.getD i Value.none) (kat_snds rfl har) hf (by rw[D0,Array.length_toList,hp];exact h64) (.inr ⟨p,hp,hG,rfl⟩)
theorem znA{r d:Addr}{T:String}{n:Nat}{Pn:Nat->Value->Prop}{R:List Value->Shared->Prop}(K:KdlSrc prog w T r d n Pn OK)(hh:A.handled=none)(hok:OK s.heap)(hn:n<=sizeLine)
 (q:∀(h':Heap) (tk:Nat) (acc:Array Value),(∀b o,s.heap.get? b=some o->h'.get? b=some o)->s.heap.objs.size<h'.objs.size->ItemsOf Pn acc n->R acc.toList {s with heap:=h',toks:=tk}):wpAny (model prog w) A (collect (.ref r)) R E s:=by
 have lt:=K.there _ hok
 have g0:(s.heap.push {cls:= .type "list",data:= .seq ([]:List Value).toArray}).get? s.heap.objs.size=some {cls:= .type "list",data:= .seq #[]}:=Q0 _ rfl
 have key:=kdl_extend (A:=A) (s:={s with heap:=s.heap.push {cls:= .type "list",data:= .seq ([]:List Value).toArray}}) (R:=λ(f:Result) (s':Shared)=>∃(h':Heap) (tk:Nat) (acc':Array Value) (c':Nat),f= .ok (.ret (.ref s.heap.objs.size))/\s'={s with heap:=h',toks:=tk}/\(∀b o,s.heap.get? b=some o->h'.get? b=some o)/\h'.get? s.heap.objs.size=some {cls:= .type "list",dict:=none,data:= .seq acc' c',slots:= #[]}/\ItemsOf Pn acc' n)
  K hh (K.keep _ _ hok λb _ o e=>G0 _ e) s.heap.objs.size (Nat.ne_of_gt lt.1) (Nat.ne_of_gt lt.2) (.ref s.heap.objs.size) 0 g0 (λh' tk acc' c' kp gS ia=>⟨h',tk,acc',c',rfl,rfl,λb o e=>kp b o (V1 (Y0 e)) (G0 _ e),gS,ia⟩) hn
 unfold collect
 refine C0 (wpAny_runValue (codeAny_builtin entry_proto_collect' (by
  rw[Around.under_plainId F.plain_proto_collect _]
  show wpAny _ A.in1 (newList []>>=λl=>again (.builtin "list.__iadd__" ⟨[l, .ref r],[]⟩)) _ _ s
  refine C0 (K2 (K0 ⟨plainId_quiet F.plain_list_iadd _,codeAny_builtin entry_list_iadd' (by
   rw[Around.under_plainId F.plain_list_iadd _]
   show wpAny _ A.in1 (Builtin.List.listExtendWith (.ref s.heap.objs.size) (.ref r) (.ref s.heap.objs.size)) _ _ _
   refine D3 key (λfin s' x=>?_) λe s' x=>?_
   ·cases fin with
    |done f=>
     obtain⟨h',tk,acc',c',e,rfl,kp,gS,ia⟩:=x;cases e
     show wpAny _ A (load s.heap.objs.size>>=_) _ _ _
     exact C0 (wpAny_load gS (K0 (q h' tk acc' kp (Y0 gS) ia)))
    |again c₁=>
     refine⟨x.1,codeAny_mono x.2 λf s₂ y=>?_⟩
     obtain⟨h',tk,acc',c',rfl,rfl,kp,gS,ia⟩:=y
     show wpAny _ A (load s.heap.objs.size>>=_) _ _ _
     exact C0 (wpAny_load gS (K0 (q h' tk acc' kp (Y0 gS) ia)))
   ·obtain ⟨_,_,_,_,e',_⟩:=x
    cases e')⟩)))))
theorem znQ{r d:Addr}{T:String}{R:Value->Shared->Prop}{κ:SortKind}(K:KdlSrc prog w T r d ks.length (λi v=>ks[i]?=some v) OK)(hh:A.handled=none)(hok:OK s.heap)(h64:ks.length<64)
 (hk:2<=ks.length->∀s1:Shared,(∀b o,s.heap.get? b=some o->s1.heap.get? b=some o)->(∀C:SortKind->Shared->Prop,C κ s1->wpAny (model prog w) A.in1.in1 (keyKind' ks.toArray) C (λ_ _=>False) s1)/\(kas_sort ks.length).kasWp (kas_ask prog w A.in1.in1 κ ks) (λp s'=>s'=s1/\G p) s1)
 (q:∀(D:Addr) (out:List Value) (h':Heap) (tk c:Nat),(ks.length<2/\out=ks\/∃p:Array Nat,p.size=ks.length/\G p/\out=p.toList.map λi=>ks.getD i Value.none)->(∀b o,s.heap.get? b=some o->h'.get? b=some o)->
   s.heap.objs.size<=D->h'.get? D=some (seqObj "list" out.toArray c)->R (.ref D) {s with heap:=h',toks:=tk}):wpAny (model prog w) A (call (.builtin "sorted") [.ref r]) R E s:=by
 refine Calls.call_function_entry kind_sorted plain_sorted entry_sorted (args_sorted1 _) ?_
 unfold Builtin.«sorted»
 refine C0 (m:=checkCount "sorted" 1 1 _) (K0 (C0 (znA (A:=A.in1) K hh hok (by rw[sizeLine_eq];lia) λh1 tk acc kp gr0 hacc=>?_)))
 have ea:acc.toList=ks:=by
  apply List.ext_getElem?
  intro i
  rcases D2 i ks.length with h|h
  ·have hi:i<acc.size:=by rw[hacc.1];exact h
   rw[Array.getElem?_toList,Array.getElem?_eq_getElem hi]
   exact(hacc.2 i acc[i] (by rw[Array.getElem?_eq_getElem hi])).symm
  ·rw[W0 h,W0 (by rw[Array.length_toList,hacc.1];exact h)]
 rw[ea]
 refine C0 (wpAny_newList ?_ (by rw[sizeLine_eq];lia))
 have hD:(h1.push (seqObj "list" ks.toArray 0)).get? h1.objs.size=some (seqObj "list" ks.toArray 0):=Q0 _ rfl
 have k2:∀b o,s.heap.get? b=some o->(h1.push (seqObj "list" ks.toArray 0)).get? b=some o:=λb o e=>G0 _ (kp b o e)
 have gr:s.heap.objs.size<=h1.objs.size:=P2 gr0
 show wpAny _ _ _ _ _ {s with heap:=h1.push (seqObj "list" ks.toArray 0),toks:=tk}
 refine C0 (F3 (J3 slot_list_sort ⟨_,hD,rfl⟩ entry_list_sort (zpS (G:=G) (κ:=κ) (s:={s with heap:=h1.push (seqObj "list" ks.toArray 0),toks:=tk}) hD h64 (λh2 s1 k1=>?_) λout h' c hc hkp hg=>?_) (args_list_sort _)))
 ·obtain ⟨x1,x2⟩:=hk h2 s1 λb o e=>k1.2 b o (V1 (W1 (Y0 e) gr)) (k2 b o e)
  exact⟨λC hC=>D3 (x1 C hC) (λ_ _ z=>z) λ_ _ z=>z.elim,x2⟩
 ·exact ⟨_,rfl,K0 ⟨_,rfl,q h1.objs.size out h' tk c hc (λb o e=>hkp b o (V1 (W1 (Y0 e) gr)) (k2 b o e)) gr hg⟩⟩
noncomputable abbrev ltS(x y:Str):Bool:=decide (x.cps.toList<y.cps.toList)
noncomputable def ltP(p q:Str×Str):Bool:=if p.1=q.1 then(if p.2=q.2 then false else ltS p.2 q.2)else ltS p.1 q.1
theorem zoq:∀(a b:List Nat),a≠b->¬a<b->b<a
 |[],[],h,_=>absurd rfl h
 |[],b::bs,_,h=>absurd (List.nil_lt_cons b bs) h
 |a::as,[],_,_=>List.nil_lt_cons a as
 |a::as,b::bs,h,hn=>by
  rw[List.cons_lt_cons_iff] at hn⊢
  rcases Nat.lt_trichotomy a b with q|q|q
  ·exact absurd (.inl q) hn
  ·subst q
   exact .inr ⟨rfl,zoq as bs (λz=>h (by rw[z])) (λz=>hn (.inr ⟨rfl,z⟩))⟩
  ·exact .inl q
theorem zn5:∀{a b c:List Nat},a<b->b<c->a<c
 |_,[],_,h,_=>absurd h `Z3
 |_,_::_,[],_,h=>absurd h `Z3
 |[],_::_,c::cs,_,_=>List.nil_lt_cons c cs
 |a::as,b::bs,c::cs,h1,h2=>by
  rw[List.cons_lt_cons_iff] at h1 h2⊢
  rcases h1 with h1|⟨rfl,h1⟩
  ·rcases h2 with h2|⟨rfl,h2⟩
   ·exact .inl ()
   ·exact .inl h1
  ·rcases h2 with h2|⟨rfl,h2⟩
   ·exact .inl h2
   ·exact .inr ⟨rfl,zn5 h1 h2⟩
theorem zkZ:∀(a:List Nat),¬a<a
 |[],h=>absurd h `Z3
 |a::as,h=>by
  rw[List.cons_lt_cons_iff] at h
  rcases h with h|⟨_,h⟩
  ·lia
  ·exact zkZ as h
theorem zt5(h:x.cps.toList=y.cps.toList):x=y:=by
 cases x;cases y
 simp only[Str.mk.injEq]
 exact Array.toList_inj.mp h
theorem zei(h:x≠y)(e:ltS x y=false):ltS y x=true:=P0 (zoq _ _ (λz=>h (zt5 z)) (of_decide_eq_false e))
theorem ziu{z:Str}(h1:ltS x y=true)(h2:ltS y z=true):ltS x z=true:=P0 (zn5 (O0 h1) (O0 h2))
theorem zhz(x:Str):ltS x x=false:=U0 (zkZ _)
theorem zhC(h:ltS x y=true):ltS y x=false:=U0 λz=>zkZ _ (zn5 (O0 h) z)
theorem znn(h:ltS x y=true):x≠y:=λz=>by rw[z,zhz] at h;cases h
theorem ztd{p:Str×Str}(h:p≠q)(e:ltP p q=false):ltP q p=true:=by
 unfold ltP at e⊢
 by_cases h1:p.1=q.1
 ·rw[R0 h1] at e
  rw[R0 h1.symm]
  have h2:p.2≠q.2:=λz=>h (Prod.ext h1 z)
  rw[N0 h2] at e
  rw[N0 (Ne.symm h2)]
  exact zei h2 e
 ·rw[N0 h1] at e
  rw[N0 (Ne.symm h1)]
  exact zei h1 e
theorem zq8{p r:Str×Str}(h1:ltP p q=true)(h2:ltP q r=true):ltP p r=true:=by
 unfold ltP at h1 h2⊢
 by_cases e1:p.1=q.1
 ·rw[R0 e1] at h1
  by_cases e2:q.1=r.1
  ·rw[R0 e2] at h2
   rw[R0 (e1.trans e2)]
   by_cases f1:p.2=q.2
   ·rw[R0 f1] at h1;cases h1
   ·by_cases f2:q.2=r.2
    ·rw[R0 f2] at h2;cases h2
    ·rw[N0 f1] at h1
     rw[N0 f2] at h2
     have:=ziu h1 h2
     rw[N0 (znn this)];exact this
  ·rw[N0 e2] at h2
   rw[N0 (by rw[e1];exact e2),e1];exact h2
 ·rw[N0 e1] at h1
  by_cases e2:q.1=r.1
  ·rw[N0 (by rw[←e2];exact e1),←e2];exact h1
  ·rw[N0 e2] at h2
   have:=ziu h1 h2
   rw[N0 (znn this)];exact this
theorem zk6(p:Str×Str):ltP p p=false:=by unfold ltP;rw[R0 rfl,R0 rfl]
theorem ztY{p:Str×Str}(h:ltP p q=true):ltP q p=false:=by
 cases e:ltP q p with
 |false=>rfl
 |true=>have:=zq8 h e;rw[zk6] at this;cases this
theorem zkP:∀(l:List Str),sortedS l=true->l.Nodup->l.Pairwise (λa b=>ltS a b=true)
 |[],_,_=> .nil
 |[x],_,_=>`Z3
 |x::y::r,h,hn=>by
  have h':(!ltCps y.cps.toList x.cps.toList&&risingS y r)=true:=h
  rw[X0] at h'
  have hr:sortedS (y::r)=true:=h'.2
  have ih:=zkP (y::r) hr (U2.mp hn).2
  have hxy:ltS x y=true:=by
   have h1:ltS y x=false:=by
    have:=h'.1
    rw[ltCps_eq] at this
    simpa using this
   exact zei (λz=>(U2.mp hn).1 (by rw[z];exact N1)) h1
  refine List.pairwise_cons.mpr ⟨λz hz=>?_,ih⟩
  rcases D1.mp hz with rfl|hz
  ·exact hxy
  ·exact ziu hxy ((List.pairwise_cons.mp ih).1 z hz)
theorem zkt:CallR X (.builtin "sorted") (λxs H Q=>∃(p:Addr) (ss:List Str),xs=[.ref p]/\SqL X.K H p (ss.map V.str)/\ss.length<64/\ss.Nodup/\∀(ss':List Str) l,ss'.Perm ss->ss'.Pairwise (λa b=>ltS a b=true)->H l=none->Q (.ref l) (upd H l (.lst (ss'.map V.str)))):=by
 intro pins s σ H xs us Q I r h
 obtain⟨p,ss,rfl,hq,h64,hnd,q⟩:=h
 obtain⟨u,rfl,ru⟩:=zdM r
 cases ru
 obtain⟨its,rv,pl,hz⟩:=I.list hq
 have hS:=zbU rv
 have hl:=rv.length
 rw[D0] at hl
 refine sorted_strs pl.isList hS () λout ss' a1 a2 a3=>?_
 have nl:H (s.heap.objs.size+1)=none:=I.hok.fresh (Nat.le_succ _)
 obtain⟨e,he⟩:=sortedAll_at s.heap its out
 have hn':ss'.Nodup:=a2.nodup_iff.mpr hnd
 refine⟨.ref _,_,I.laid (a:=s.heap.objs.size+1) (o:= .lst (ss'.map V.str)) (t':=s.toks) (λb o hb=>sortedAll_old hb) (Nat.le_succ _) ⟨?_,out.toList,e,?_,?_⟩,rfl,q ss' _ a2 (zkP ss' a3 hn') nl⟩
 ·rw[D0,a2.length_eq];exact P2 (zp ())
 ·have mk:∀{vs:List Value} {zs:List Str},StrsAre vs zs->Vals (zs.map V.str) vs:=by
   intro vs zs h
   induction h with
   |nil=>exact .nil
   |cons x t _ ih=>exact .cons ⟨t,rfl⟩ ih
  exact mk a1
 ·rw[Array.toArray_toList];exact he
def zsV(H:Hp)(vs:List V)(ps:List (Str×Str)):Prop:=vs.length=ps.length/\∀(i:Nat) (v:V) (p:Str×Str),vs[i]?=some v->ps[i]?=some p->∃b,v= .ref b/\H b=some (.tup [.str p.1, .str p.2])
noncomputable def zjr(p:Str×Str):List Key:=[.inr p.1, .inr p.2]
def TupAt(h:Heap)(u:Value)(p:Str×Str):Prop:=∃b o n t1 t2,u= .ref b/\h.get? b=some o/\o.cls= .type "tuple"/\o.data= .seq #[.str p.1 t1, .str p.2 t2] n
theorem TupAt.keeps{h:Heap}{p:Str×Str}(x:TupAt h u p)(k:∀b o,h.get? b=some o->h'.get? b=some o):TupAt h' u p:=let⟨b,o,n,t1,t2,e,g,r⟩:=x;⟨b,o,n,t1,t2,e,k _ _ g,r⟩
theorem zrp{v:Value}{p:Str×Str}{C:Bool->Shared->Prop}(x:TupAt s.heap u p)(y:TupAt s.heap v q)(h:C (ltP p q) s):wpAny (model prog w) A (keyLt' (tuples' true) u v) C E s:=by
 obtain⟨b,o,n,t1,t2,rfl,g,_,d⟩:=x
 obtain⟨b',o',n',t3,t4,rfl,g',_,d'⟩:=y
 refine kat_lt g d g' d' ?_
 show KatLex prog w A true (decide (2<2)) C [(.str p.1 t1, .str q.1 t3),(.str p.2 t2, .str q.2 t4)] 0 s
 unfold ltP at h
 refine kat_cons (wpAny_eqBool_str ?_)
 by_cases e1:p.1=q.1
 ·rw[R0 e1] at h
  rw[P0 e1]
  refine kat_yes (kat_cons (wpAny_eqBool_str ?_))
  by_cases e2:p.2=q.2
  ·rw[R0 e2] at h
   rw[P0 e2]
   exact kat_yes (kat_nil h)
  ·rw[N0 e2] at h
   rw[U0 e2]
   refine kat_no ?_
   show wpAny (model prog w) A (oneLt' false (.str p.2 t2) (.str q.2 t4)) C _ s
   exact kat_one _ _ (lt_str h)
 ·rw[N0 e1] at h
  rw[U0 e1]
  refine kat_no ?_
  show wpAny (model prog w) A (oneLt' true (.str p.1 t1) (.str q.1 t3)) C _ s
  exact oneLt_str h
theorem zoH{h:Heap}:∀{us:List Value} {ps:List (Str×Str)},us.length=ps.length->(∀(i:Nat) (u:Value) (p:Str×Str),us[i]?=some u->ps[i]?=some p->TupAt h u p)->∃fs,KatTups h us fs/\fs.length=us.length/\∀f∈fs,∃x t,f=Value.str x t
 |[],[],_,_=>⟨[],trivial,rfl,λ_ z=>nomatch z⟩
 |[],_::_,z,_=>by simp at z
 |_::_,[],z,_=>by simp at z
 |u::us,p::ps,hl,hx=>by
  obtain⟨fs,h1,h2,h3⟩:=zoH (us:=us) (ps:=ps) (by simpa using hl) λi u p e1 e2=>hx (i+1) u p (by simpa using e1) (by simpa using e2)
  obtain⟨b,o,n,t1,t2,rfl,g,c,d⟩:=hx 0 u p rfl rfl
  refine⟨.str p.1 t1::fs,KatTups.cons g c d rfl h1,by simp[h2],λf hf=>?_⟩
  rcases D1.mp hf with rfl|hf
  ·exact ⟨_,_,rfl⟩
  ·exact h3 f hf
noncomputable def pAt(ps:List (Str×Str))(i:Nat):Str×Str:=ps.getD i (⟨#[]⟩,⟨#[]⟩)
theorem zli(hn:ps.Nodup):Strict ps.length (λi j=>ltP (pAt ps i) (pAt ps j)) where
 tot:=λi j hi hj hij e=>ztd (λz=>hij ((List.getElem_inj hn (h₀:=hi) (h₁:=hj)).mp (by unfold pAt at z;simpa[hi,hj] using z))) e
 tr:=λi j k _ _ _ h1 h2=>zq8 h1 h2
 asy:=λi j _ _ h=>ztY h
theorem zp6{p:Array Nat}(hp:PermN ps.length p)(hs:Sor (λi j=>ltP (pAt ps i) (pAt ps j)) p ps.length):(p.toList.map (pAt ps)).Perm ps/\(p.toList.map (pAt ps)).Pairwise (λa b=>ltP a b=true):=by
 constructor
 ·have h1:=hp.map (pAt ps)
  have h2:(List.range ps.length).map (pAt ps)=ps:=by
   apply List.ext_getElem?
   intro i
   rw[V0]
   rcases D2 i ps.length with h|h
   ·rw[List.getElem?_range h]
    show some (pAt ps i)=_
    unfold pAt
    simp[h]
   ·rw[W0 (by simpa using h),W0 h];rfl
  rwa[h2] at h1
 ·have hz:=hp.size
  rw[List.pairwise_iff_getElem]
  intro i j hi hj hij
  have hi':i<p.size:=by simpa using hi
  have hj':j<p.size:=by simpa using hj
  have h:=hs i j hij ()
  rw[gd_get hi',gd_get hj'] at h
  simpa using h
theorem zen{α β:Type}{R:α->β->Prop}:∀{as:List α} {bs:List β},Paired R as bs->as.length=bs.length/\∀(i:Nat) (a:α) (b:β),as[i]?=some a->bs[i]?=some b->R a b
 |_,_, .nil=>⟨rfl,λi a b e=>by simp at e⟩
 |_,_, .cons h t=>by
  obtain⟨h1,h2⟩:=zen t
  refine⟨by simp[h1],λi a b e1 e2=>?_⟩
  cases i with
  |zero=>simp at e1 e2;subst e1;subst e2;exact h
  |succ i=>exact h2 i a b (by simpa using e1) (by simpa using e2)
theorem zkX(hc:X.calm=true):CallR X (.builtin "sorted") (λxs H Q=>∃(d:Addr) (kvs:List (List Key×V)) (ps:List (Str×Str)),xs=[.ref d]/\H d=some (.dT kvs)/\kvs.map (·.1)=ps.map zjr/\ps.length<64/\
 ∀(ps':List (Str×Str)) (vs:List V) l,ps'.Perm ps->ps'.Pairwise (λa b=>ltP a b=true)->zsV H vs ps'->H l=none->Q (.ref l) (upd H l (.lst vs))):=by
 intro pins s σ H xs us Q I r h
 obtain⟨d,kvs,ps,rfl,hd,hk,h64,q⟩:=h
 obtain⟨u,rfl,ru⟩:=zdM r
 cases ru
 obtain⟨_,nsys,zs,hp,o,es,ep,g,ex,dat,hes,hnd⟩:=(show ObjOk X.prog X.w H s.heap d (.dT kvs)from I.hok d _ hd)
 obtain⟨hl,hget⟩:=zen hp
 have hlk:kvs.length=ps.length:=by have:=E3 List.length hk;simpa using this
 have hnp:ps.Nodup:=by
  have e:zs.map (·.1)=kvs.map (·.1):=by
   apply List.ext_getElem?
   intro i
   rw[V0,V0]
   rcases D2 i kvs.length with h|h
   ·have h':i<zs.length:=()
    have:=(hget i kvs[i] zs[i] (by simp[h]) (by simp[h'])).1
    simp[h,h',this]
   ·rw[W0 h,W0 ()];rfl
  rw[e,hk] at hnd
  exact(List.pairwise_map.mp hnd).imp λh z=>h (by rw[z])
 have kz:(zs.map λq=>Value.ref q.2.1).length=ps.length:=by rw[D0];lia
 have raw:RawD s.heap d (zs.map λq=>Value.ref q.2.1) ep:=⟨o,es,g,ex,dat,by rw[hes,List.map_map];rfl⟩
 have keyA:∀i (h:i<ps.length),∃b,(zs.map λq=>Value.ref q.2.1)[i]?=some (.ref b)/\H b=some (.tup [.str ps[i].1, .str ps[i].2]):=λi h=>by
  have h1:i<kvs.length:=()
  have h2:i<zs.length:=()
  have hr:=hget i kvs[i] zs[i] (by simp[h1]) (by simp[h2])
  refine⟨zs[i].2.1,by simp[h2],?_⟩
  have ek:kvs[i].1=zjr ps[i]:=by
   have e1:(kvs.map (·.1))[i]?=some kvs[i].1:=by simp[h1]
   rw[hk] at e1
   have e2:(ps.map zjr)[i]?=some (zjr ps[i]):=by simp[h]
   rw[e1] at e2
   exact U1 e2
  rw[hr.2.1,ek]
  rfl
 have keyT:∀(i:Nat) (u:Value) (p:Str×Str),(zs.map λq=>Value.ref q.2.1)[i]?=some u->ps[i]?=some p->TupAt s.heap u p:=λi u p e1 e2=>by
  have hi:i<ps.length:=by
   rcases D2 i ps.length with z|z
   ·exact z
   ·rw[W0 z] at e2;cases e2
  obtain⟨b,f1,f2⟩:=keyA i hi
  rw[f1] at e1
  cases e1
  have ep':ps[i]=p:=by simpa[hi] using e2
  rw[ep'] at f2
  obtain⟨_,its,rv,⟨o',g',c',n',d'⟩,_⟩:=(show ObjOk X.prog X.w H s.heap b (.tup [.str p.1, .str p.2])from I.hok b _ f2)
  cases rv with
  |cons r1 rv=>cases rv with
   |cons r2 rv=>cases rv with
    |nil=>
     obtain⟨t1,rfl⟩:=r1
     obtain⟨t2,rfl⟩:=r2
     exact⟨b,o',n',t1,t2,rfl,g',c',d'⟩
 generalize hks:(zs.map λq=>Value.ref q.2.1)=ks at *
 refine znQ (A:=X.A) (G:=λp=>PermN ps.length p/\Sor (λi j=>ltP (pAt ps i) (pAt ps j)) p ps.length) (κ:=tuples' true) (zs3 (ks:=ks) (ep:=ep) nsys) (I.ok.hd hc) raw () (λh2 s1 k1=>?_) (λD out h' tk c ho kp hD gD=>?_)
 ·have keyT1:∀(i:Nat) (u:Value) (p:Str×Str),ks[i]?=some u->ps[i]?=some p->TupAt s1.heap u p:=λi u p e1 e2=>(keyT i u p e1 e2).keeps k1
  obtain⟨fs,ft,fl,fa⟩:=zoH kz keyT1
  refine⟨λC hC=>kat_kind (T:= .type "str") ft () (λf hf=>?_) rfl hC,?_⟩
  ·obtain ⟨x,t,rfl⟩:=fa f hf
   exact Looks.of_pure rfl
  ·rw[kz]
   refine OkT.wp (N:=ps.length) (lt:=λi j=>ltP (pAt ps i) (pAt ps j)) (I:=λs'=>s'=s1) (λi j C s' hi hj e hC=>?_) (λp s' hp e=>⟨e,hp⟩) rfl (sort_ok (zli hnp) ())
   subst e
   have gi:∀i,i<ps.length->TupAt s'.heap (ks.getD i Value.none) (pAt ps i):=λi hi=>by
    have hi':i<ks.length:=()
    refine keyT1 i _ _ ?_ ?_
    ·simp[hi']
    ·unfold pAt;simp[hi]
   exact zrp (gi i hi) (gi j hj) (hC s' rfl)
 ·
  have nD:H D=none:=I.hok.fresh hD
  obtain⟨ps',hperm,hpw,hout⟩:∃ps':List (Str×Str),ps'.Perm ps/\ps'.Pairwise (λa b=>ltP a b=true)/\out.length=ps'.length/\∀(i:Nat) (u:Value) (p:Str×Str),out[i]?=some u->ps'[i]?=some p->∃b,u= .ref b/\H b=some (.tup [.str p.1, .str p.2]):=by
   rcases ho with⟨hlt,rfl⟩|⟨p,hp,⟨hP,hS⟩,rfl⟩
   ·refine ⟨ps, .refl _,?_,kz,λi u p e1 e2=>?_⟩
    ·match ps,(show ps.length<2 by lia)with
     |[],_=>exact .nil
     |[x],_=>exact List.pairwise_singleton _ _
    ·have hi:i<ps.length:=by
      rcases D2 i ps.length with z|z
      ·exact z
      ·rw[W0 z] at e2;cases e2
     obtain⟨b,f1,f2⟩:=keyA i hi
     rw[f1] at e1;cases e1
     have ep':ps[i]=p:=by simpa[hi] using e2
     rw[ep'] at f2
     exact⟨b,rfl,f2⟩
   ·obtain ⟨o1,o2⟩:=zp6 hP hS
    refine⟨p.toList.map (pAt ps),o1,o2,by rw[D0,D0],λi u q e1 e2=>?_⟩
    rw[V0] at e1 e2
    cases hpi:p.toList[i]? with
    |none=>rw[hpi] at e1;cases e1
    |some j=>
     rw[hpi] at e1 e2
     have hj:j<ps.length:=List.mem_range.mp (hP.mem_iff.mp (Z0 hpi))
     obtain⟨b,f1,f2⟩:=keyA j hj
     have hj':j<ks.length:=()
     have eu:ks.getD j Value.none= .ref b:=by
      rw[List.getD_eq_getElem?_getD,f1];rfl
     have e1':some (ks.getD j Value.none)=some u:=e1
     rw[eu] at e1'
     have e2':some (pAt ps j)=some q:=e2
     have eq:pAt ps j=ps[j]:=by unfold pAt;simp[hj]
     rw[eq] at e2'
     cases e1'
     cases e2'
     exact⟨b,rfl,f2⟩
  obtain⟨hol,hog⟩:=hout
  have hall:∀u∈out,∃b,u=Value.ref b:=λu hu=>by
   obtain⟨i,hi,rfl⟩:=F2 hu
   obtain⟨b,e,_⟩:=hog i out[i] (ps'[i]'()) (by simp[hi]) (by simp[show i<ps'.length by lia])
   exact⟨b,e⟩
  obtain⟨vs,rvs⟩:∃vs:List V,Vals vs out/\∀(i:Nat) (b:Addr),out[i]?=some (.ref b)->vs[i]?=some (.ref b):=by
   clear hog hol gD ho
   induction out with
   |nil=>exact ⟨[], .nil,λi b e=>by simp at e⟩
   |cons u out ih=>
    obtain⟨vs,h1,h2⟩:=ih λu hu=>hall u (F1 _ hu)
    obtain⟨b,rfl⟩:=hall u N1
    refine⟨.ref b::vs, .cons rfl h1,λi b' e=>?_⟩
    cases i with
    |zero=>simpa using e
    |succ i=>exact h2 i b' (by simpa using e)
  have lv:vs.length=out.length:=rvs.1.length
  refine⟨.ref D,_,I.laid (a:=D) (o:= .lst vs) (t':=tk) kp hD ⟨by rw[lv,hol,hperm.length_eq];exact P2 (zp ()),out,c,rvs.1,gD⟩,rfl,q ps' vs D hperm hpw ⟨(),λi v p e1 e2=>?_⟩ nD⟩
  have hi:i<out.length:=by
   rcases D2 i out.length with z|z
   ·exact z
   ·rw[W0 ()] at e1;cases e1
  obtain⟨b,f1,f2⟩:=hog i out[i] p (by simp[hi]) e2
  have:=rvs.2 i b (by rw[←f1];simp[hi])
  rw[this] at e1
  cases e1
  exact⟨b,rfl,f2⟩
noncomputable def zl7(a c:Str)(t u:Tok)(i:Nat):Value:=if i=0 then .str a t else .str c u
theorem zkl{a c:Str}{t u:Tok}{v:Value}(h:(#[Value.str a t,Value.str c u])[i]?=some v):(i=0/\v= .str a t)\/(i=1/\v= .str c u):=by
 match i,h with
 |0,h=>exact .inl ⟨rfl,by simpa using h.symm⟩
 |1,h=>exact .inr ⟨rfl,by simpa using h.symm⟩
 |i+2,h=>simp at h
theorem zku{a c:Str}{t u:Tok}{R:Value->Shared->Prop}(hh:A.handled=none)(q:∀h' tk,(∀b o,s.heap.get? b=some o->h'.get? b=some o)->R (if ltS a c=true then .str c u else .str a t) {s with heap:=h',toks:=tk}):
 wpAny (model prog w) A (call (.builtin "max") [.str a t, .str c u]) R E s:=by
 have hT:(s.heap.push {cls:= .type "tuple",data:= .seq #[.str a t, .str c u]}).IsTuple s.heap.objs.size #[.str a t, .str c u]:=⟨_,Q0 _ rfl,rfl,0,rfl⟩
 have z:(s.heap.push {cls:= .type "tuple",data:= .seq #[.str a t, .str c u]}).objs.size=s.heap.objs.size+1:=Heap.size_push ..
 refine call_max_two (wpAny_pyIter_tuple hT ?_)
 refine⟨_,[_,s.heap.objs.size],[_],_,_,_,λi j=>ltS (strOf (zl7 a c t u j)) (strOf (zl7 a c t u i)),rfl,Walks.tuple (A:=A.in1) hh _ s.heap.objs.size (by rw[z];exact V1 (Nat.lt_succ_self _)) #[.str a t, .str c u],⟨⟨_,Q0 _ rfl,rfl,rfl⟩,hT.push _⟩,λb hb=>?_,(by decide:0<2),?_,λv h' tk hP hk=>?_⟩
 ·show b<((s.heap.push _).push _).objs.size
  rw[Heap.size_push,z]
  rcases D1.mp hb with rfl|hb
  ·rw[z];exact Nat.lt_succ_self _
  ·rcases D1.mp hb with rfl|hb
   ·exact Nat.lt_succ_of_lt (Nat.lt_succ_self _)
   ·cases hb
 ·intro i j vi vj s' R' E' hi hj hq
  rcases zkl hi with⟨rfl,rfl⟩|⟨rfl,rfl⟩<;>rcases zkl hj with⟨rfl,rfl⟩|⟨rfl,rfl⟩<;>exact (P.gt_str hq:wpAny (model prog w) A.in1 (compareOp .Gt _ _) R' E' s')
 ·have keep:∀b o,s.heap.get? b=some o->h'.get? b=some o:=λb o e=>hk b o (λhm=>by
   rcases D1.mp hm with e1|hm
   ·have lb:=Y0 e
    rw[e1,z] at lb
    exact absurd lb (Nat.not_lt.mpr (Nat.le_succ _))
   ·cases hm) (G0 _ (G0 _ e))
  have fin:=q h' tk keep
  have eb:argBest (λi j=>ltS (strOf (zl7 a c t u j)) (strOf (zl7 a c t u i))) (2 -1)=if ltS a c=true then 1 else 0:=rfl
  have hP':(#[Value.str a t,Value.str c u])[if ltS a c=true then 1 else 0]?=some v:=hP
  by_cases hc:ltS a c=true
  ·rw[R0 hc] at hP' fin
   have ev:Value.str c u=v:=by simpa using hP'
   rw[←ev];exact fin
  ·rw[N0 hc] at hP' fin
   have ev:Value.str a t=v:=by simpa using hP'
   rw[←ev];exact fin
theorem zk9{a c:Str}{t u:Tok}{R:Value->Shared->Prop}(hh:A.handled=none)(q:∀h' tk,(∀b o,s.heap.get? b=some o->h'.get? b=some o)->R (if ltS c a=true then .str c u else .str a t) {s with heap:=h',toks:=tk}):
 wpAny (model prog w) A (call (.builtin "min") [.str a t, .str c u]) R E s:=by
 have hT:(s.heap.push {cls:= .type "tuple",data:= .seq #[.str a t, .str c u]}).IsTuple s.heap.objs.size #[.str a t, .str c u]:=⟨_,Q0 _ rfl,rfl,0,rfl⟩
 have z:(s.heap.push {cls:= .type "tuple",data:= .seq #[.str a t, .str c u]}).objs.size=s.heap.objs.size+1:=Heap.size_push ..
 refine call_min_two (wpAny_pyIter_tuple hT ?_)
 refine⟨_,[_,s.heap.objs.size],[_],_,_,_,λi j=>ltS (strOf (zl7 a c t u i)) (strOf (zl7 a c t u j)),rfl,Walks.tuple (A:=A.in1) hh _ s.heap.objs.size (by rw[z];exact V1 (Nat.lt_succ_self _)) #[.str a t, .str c u],⟨⟨_,Q0 _ rfl,rfl,rfl⟩,hT.push _⟩,λb hb=>?_,(by decide:0<2),?_,λv h' tk hP hk=>?_⟩
 ·show b<((s.heap.push _).push _).objs.size
  rw[Heap.size_push,z]
  rcases D1.mp hb with rfl|hb
  ·rw[z];exact Nat.lt_succ_self _
  ·rcases D1.mp hb with rfl|hb
   ·exact Nat.lt_succ_of_lt (Nat.lt_succ_self _)
   ·cases hb
 ·intro i j vi vj s' R' E' hi hj hq
  rcases zkl hi with⟨rfl,rfl⟩|⟨rfl,rfl⟩<;>rcases zkl hj with⟨rfl,rfl⟩|⟨rfl,rfl⟩<;>exact (lt_str hq:wpAny (model prog w) A.in1 (compareOp .Lt _ _) R' E' s')
 ·have keep:∀b o,s.heap.get? b=some o->h'.get? b=some o:=λb o e=>hk b o (λhm=>by
   rcases D1.mp hm with e1|hm
   ·have lb:=Y0 e
    rw[e1,z] at lb
    exact absurd lb (Nat.not_lt.mpr (Nat.le_succ _))
   ·cases hm) (G0 _ (G0 _ e))
  have fin:=q h' tk keep
  have eb:argBest (λi j=>ltS (strOf (zl7 a c t u i)) (strOf (zl7 a c t u j))) (2 -1)=if ltS c a=true then 1 else 0:=rfl
  have hP':(#[Value.str a t,Value.str c u])[if ltS c a=true then 1 else 0]?=some v:=hP
  by_cases hc:ltS c a=true
  ·rw[R0 hc] at hP' fin
   have ev:Value.str c u=v:=by simpa using hP'
   rw[←ev];exact fin
  ·rw[N0 hc] at hP' fin
   have ev:Value.str a t=v:=by simpa using hP'
   rw[←ev];exact fin
theorem zh0(hc:X.calm=true):CallR X (.builtin "max") (λxs H Q=>∃a c,xs=[.str a, .str c]/\Q (.str (if ltS a c=true then c else a)) H):=by
 intro pins s σ H xs us Q I r h
 obtain⟨i,j,rfl,q⟩:=h
 obtain⟨u,w',rfl,⟨t,rfl⟩,⟨t',rfl⟩⟩:=zj7 r
 refine zku (I.ok.hd hc) λh' tk k=>⟨_,H,I.kept k,?_,q⟩
 by_cases hj:ltS i j=true
 ·rw[R0 hj,R0 hj];exact⟨_,rfl⟩
 ·rw[N0 hj,N0 hj];exact⟨_,rfl⟩
theorem ziO(hc:X.calm=true):CallR X (.builtin "min") (λxs H Q=>∃a c,xs=[.str a, .str c]/\Q (.str (if ltS c a=true then c else a)) H):=by
 intro pins s σ H xs us Q I r h
 obtain⟨i,j,rfl,q⟩:=h
 obtain⟨u,w',rfl,⟨t,rfl⟩,⟨t',rfl⟩⟩:=zj7 r
 refine zk9 (I.ok.hd hc) λh' tk k=>⟨_,H,I.kept k,?_,q⟩
 by_cases hj:ltS j i=true
 ·rw[R0 hj,R0 hj];exact⟨_,rfl⟩
 ·rw[N0 hj,N0 hj];exact⟨_,rfl⟩
section
open PySem.SeqAt
open PySem.AutoSeq1 (wpAny_loadPart')
open PySem.MeetsSeq PySem.MeetsSeq2 PySem.MeetsSeq3
end
noncomputable def zsD(K:W.Frag):R2:=λx y H Q=>∃a b xs ys,x= .ref a/\y= .ref b/\SqT K H a xs/\SqT K H b ys/\xs.length+ys.length<=sizeLine/\
 (xs=[]->Q (.ref b) H)/\(xs≠ []->ys=[]->Q (.ref a) H)/\(xs≠ []->ys≠ []->∀p,H p=none->Q (.ref p) (upd H p (.tup (xs ++ys))))
theorem zd7:OpR X (binaryOp .Add) (zsD X.K):=by
 intro pins s σ H x y v u Q I rx ry h
 obtain⟨a,b,xs,ys,rfl,rfl,ha,hb,hz,q0,q1,q2⟩:=h
 by_cases hx:xs=[]
 ·cases rx
  cases ry
  obtain⟨its,r1,p1,_⟩:=I.tuple ha
  obtain⟨its2,r2,p2,_⟩:=I.tuple hb
  have e1:its=[]:=r1.nil_iff.mpr hx
  obtain⟨⟨cls,dd,data,sl⟩,ho,hc,n,hd⟩:=id p1
  obtain⟨⟨cls2,dd2,data2,sl2⟩,ho2,hc2,n2,hd2⟩:=id p2
  simp only at hc hd hc2 hd2
  subst hc hd hc2 hd2
  exact concat_meets ⟨_,ho,rfl⟩ ⟨_,ho2,rfl⟩ noFill_tuple_add seq_tuple_add F.slot_tuple_add F.entry_tuple_add (F.args_tuple_add_2 _ _) (tuple_addW0 a b its.toArray its2.toArray n n2 dd dd2 sl sl2 (by simp[e1])) ⟨ho,ho2,⟨.ref b,H,I,rfl,q0 hx⟩⟩
 ·exact zsJ pins s σ H _ _ v u Q I rx ry ⟨a,b,xs,ys,rfl,rfl,ha,hb,hx,hz,q1 hx,q2 hx⟩
section
open PySem.AutoSeq1 (wpAny_loadPart')
end
theorem hu1{k:Nat}(r:Room k A):A.units+1<cLine:=by have:=r.units;lia
section
variable{a b o i:Expr}{pt2:Pos}{kt k2:Nat}{td ty:TE}
theorem zuw(m n:Nat)(hN:X.N.Nodup)(ha:QA X [a,b] ta)(hc:autoParam (X.calm=true) u4)(hi:autoParam (X.N[m]?=some x) u4)(hj:autoParam (X.N[n]?=some y) u4)(hij:autoParam (m≠n) v5)
 (hx:autoParam (X.env.scope.names.lookup x=some .local) u4) (hy:autoParam (X.env.scope.names.lookup y=some .local) u4)
 (hw:autoParam (swappedStores [.Tuple [.Name x px, .Name y py] kt pt] (.Tuple [a,b] k2 pt2) X.env=pure (some [x,y])) u4)
 (hs:autoParam (swapsWithSole [.Tuple [.Name x px, .Name y py] kt pt] (.Tuple [a,b] k2 pt2) pos.line X.env=pure false) u4):
 QS X (.Assign [.Tuple [.Name x px, .Name y py] kt pt] (.Tuple [a,b] k2 pt2) pos) (zwD m n ta):=⟨zvU hc hN hi hj hij hx hy ha.o hw hs⟩
theorem zkO(hu:X.A.units+1<cLine)(ho:QE X o td)(hi:QE X i ty)(hv:QE X value tv)(hs:autoParam (swapsWith value (some (.Subscript o i pos')) pos.line X.env=pure false) u4):
 QS X (.Assign [.Subscript o i pos'] value pos) (zuu td ty tv):=⟨zug hu ho.o hi.o hv.o hs⟩
theorem ztO:QE X (.Dict [] [] pos) zrC:=⟨zrY⟩
end
end
noncomputable def ltD:D->D->Bool
 | .str x, .str y=>ltS x y
 | .tup [.str a, .str b], .tup [.str c, .str d]=>ltP (a,b) (c,d)
 |_,_=>false
noncomputable def isStrD:D->Bool| .str _=>true|_=>false
noncomputable def ztp(ds:List D):Bool:=(List.range (ds.length -1)).all λk=>ltD (ds.getD k .non) (ds.getD (k+1) .non)
noncomputable def areHousesB:D->Bool| .tup ds=>decide (1<=ds.length)&&decide (ds.length<=10)&&ds.all zaO&&ztp ds|_=>false
noncomputable def inD(hs:List Str):D->Bool| .str x=>hs.any λy=>decide (y=x)|_=>false
noncomputable def zR(hs:List Str)(d:D):Bool:=zaO d&&inD hs d
noncomputable def zN:D->Bool| .tup ds=>decide (ds.length<=90)&&ds.all zC|_=>false
noncomputable def z7:D->Bool| .tup ds=>decide (ds.length<=90)&&ds.all zal|_=>false
theorem zpe(z:Str)(n:Nat):(ziF z n).cps.toList=(List.replicate n z.cps.toList).flatten:=by
 unfold ziF
 have key:∀(k:Nat) (acc:Array Nat),((List.replicate k z.cps).foldl (·++·) acc).toList=acc.toList ++(List.replicate k z.cps.toList).flatten:=by
  intro k
  induction k with
  |zero=>intro acc;simp
  |succ k ih=>intro acc;rw[V2,List.foldl_cons,ih,V2,List.flatten_cons,Array.toList_append,List.append_assoc]
 have:=key n #[]
 simpa using this
theorem zdz(c n:Nat):(ziF (one c) n).cps.toList=List.replicate n c:=by
 rw[zpe]
 show(List.replicate n [c]).flatten=_
 induction n with
 |zero=>rfl
 |succ n ih=>rw[V2,List.flatten_cons,ih,V2];rfl
noncomputable def zoa(x:Str):Bool:=x.cps.toList.all λc=>some c==x.cps.toList.head?
theorem zlq(c n:Nat):zoa (ziF (one c) n)=true:=by
 unfold zoa
 rw[zdz]
 cases n with
 |zero=>rfl
 |succ n=>
  rw[N2]
  intro d hd
  rw[List.eq_of_mem_replicate hd]
  simp[V2]
noncomputable def zfn:List Str:=["goal","to","by","houses","tie","like","hand","keep","put","mark","long","from","strike"]
theorem zt2:∀x∈zfn,zm x=true:=`Y3
theorem zpj:∀x∈zfn,zoa x=false:=`Y3
theorem ztm:∀c∈zch.cps.toList,∀k∈List.range 8,zm (ziF (one c) (k+1))=true:=`Y3
theorem zlr:zch.length=26:=`Y3
theorem zin:∀k∈List.range 26,zch.cps.toList[k]?=some (97+k):=`Y3
theorem zot(c:Nat):(one c).length=1:=rfl
noncomputable def zsu:List Nat:=[1,3,5,7,9,11]
theorem zsg:∀f∈List.range 26,∀st∈zsu,((List.range 13).map λk=>(f+st*k)%26).Nodup:=`Y3
noncomputable def nmS(f st k:Nat):Str:=ziF (one (97+(f+st*k)%26)) (1+(k*k+f)%8)
noncomputable def kwS(sp k:Nat):Str:=zfn.getD ((sp+3*k)%13) ""
noncomputable def zby(f st sp j k:Nat):Str:=if k<j then kwS sp k else nmS f st k
theorem zuR:∀sp∈List.range 13,((List.range 4).map λk=>kwS sp k).Nodup:=`Y3
theorem znX(sp k:Nat):kwS sp k∈zfn:=by
 unfold kwS
 have h:(sp+3*k)%13<zfn.length:=Nat.mod_lt _ ⋯
 simp[List.getD,h]
theorem zqv{l:List α}(h:l.Nodup)(hi:i<l.length)(hj:j<l.length)(hij:i≠j):l[i]≠l[j]:=λz=>hij ((List.getElem_inj h).mp z)
theorem zl2{f st sp m:Nat}(hf:f<26)(hst:st∈zsu)(hsp:sp<13)(hj:j<=4)(hm:m<=13):((List.range m).map (zby f st sp j)).Nodup:=by
 have key:∀a b,a<b->b<13->zby f st sp j a≠zby f st sp j b:=by
  intro a b hab hb
  unfold zby
  by_cases h1:a<j
  ·rw[R0 h1]
   by_cases h2:b<j
   ·rw[R0 h2]
    have:=zqv (zuR sp (List.mem_range.mpr hsp)) (i:=a) (j:=b) (by simp;lia) (by simp;lia) ()
    simpa using this
   ·rw[N0 h2]
    intro z
    have e1:=zpj _ (znX sp a)
    rw[z] at e1
    unfold nmS at e1
    rw[zlq] at e1
    cases e1
  ·rw[N0 h1,N0 ()]
   intro z
   have hh:(nmS f st a).cps.toList.head?=(nmS f st b).cps.toList.head?:=by rw[z]
   unfold nmS at hh
   rw[zdz,zdz,Nat.add_comm 1,Nat.add_comm 1,V2,V2] at hh
   simp only[List.head?_cons,Option.some.injEq] at hh
   have:=zqv (zsg f (List.mem_range.mpr hf) st hst) (i:=a) (j:=b) (by simp;lia) (by simp;lia) ()
   simp at this
   lia
 rw[List.nodup_iff_pairwise_ne,List.pairwise_map]
 refine List.Pairwise.imp_of_mem (λ{a b} ha hb hab=>?_) (List.pairwise_lt_range (n:=m))
 exact key a b hab (by have:=List.mem_range.mp hb;lia)
theorem zv8(f st k:Nat):zm (nmS f st k)=true:=by
 unfold nmS
 rw[Nat.add_comm 1]
 have hr:(f+st*k)%26<26:=Nat.mod_lt _ ⋯
 exact ztm _ (Z0 (zin _ (List.mem_range.mpr hr))) _ (List.mem_range.mpr (Nat.mod_lt _ ⋯))
theorem zsZ(f st sp j k:Nat):zm (zby f st sp j k)=true:=by
 unfold zby
 split
 ·exact zt2 _ (znX sp k)
 ·exact zv8 f st k
theorem zrK{f st sp m:Nat}(hj:j<m):((List.range m).map (zby f st sp j)).set j (kwS sp j)=(List.range m).map (zby f st sp (j+1)):=by
 apply List.ext_getElem?
 intro i
 rw[List.getElem?_set]
 by_cases e:j=i
 ·subst e
  rw[R0 rfl,R0 (by simp;exact hj)]
  simp[hj,zby]
 ·rw[N0 e]
  rcases D2 i m with h|h
  ·rw[V0,V0,List.getElem?_range h]
   show some _=some _
   congr 1
   unfold zby
   by_cases h1:i<j
   ·rw[R0 h1,R0 ()]
   ·rw[N0 h1,N0 ()]
  ·rw[W0 (by simpa using h),W0 (by simpa using h)]
theorem ztL{sp k:Nat}:zfn[(sp+3*k)%13]?=some (kwS sp k):=by
 unfold kwS
 have h:(sp+3*k)%13<zfn.length:=Nat.mod_lt _ ⋯
 simp[List.getD,h]
theorem zlW{m:Nat}:zde xs (some (m:Int)) none=xs.drop m:=by
 unfold zde
 have e1:sIx xs.length xs.length none=xs.length:=rfl
 have e2:sIx xs.length 0 (some (m:Int))=min m xs.length:=by
  unfold sIx
  have h:¬(m:Int)<0:=()
  simp only[N0 h,Int.toNat_natCast]
 rw[e1,e2]
 rcases D2 m xs.length with h|h
 ·rw[Nat.min_eq_left (),List.take_of_length_le (by rw[List.length_drop];lia)]
 ·rw[Nat.min_eq_right h,List.drop_of_length_le (S0 _),List.drop_of_length_le h];simp
theorem zhg{N:Nat}{Pw:Nat->V->Prop}{ok:Hp->Prop}{m c:Int}{src:List (Option Nat)}{Q:VK}(wk:Wk J N Pw ok)(hok:∀H',Keep a H H'->ok H')(hs:zfA src σ=none::σr)(hH:Hand H a m)(hN:N<=900)(hc:0<=c)
 (he:∀(i:Nat) (x:V) (H1:Hp) (Q1:VK),i<N->Hand H1 a (m+c*i)->Keep a H H1->(∀v d H2,Rep H2 v d->Pd i d->Hand H2 a (m+c*i+c)->Keep a H1 H2->Q1 v H2)->te (some x::σr) H1 Q1)
 (q:∀l vs ds H',H l=none->H' l=some (.lst vs)->RepL H' vs ds->ds.length=N->(∀i d,ds[i]?=some d->Pd i d)->Hand H' a (m+c*N)->Keep a H H'->Q (.ref l) H'):ze0 (zbH 0) zp1 te src σ Q J H:=by
 refine zcx wk (λl i ys σ' H'=>(∃o,σ'=o::σr)/\(∃ds:List D,RepL H' ys ds/\ds.length=i/\∀j d,ds[j]?=some d->Pd j d)/\Hand H' a (m+c*i)/\Keep a H H') ?_ (λ_ _ _ _ _ _ p=>hok _ p.2.2.2) ?_ ?_
 ·exact λl hl=>⟨⟨_,hs⟩,⟨[],RepL.nil,rfl,λj d z=>by simp at z⟩,(hH.new hl).mono `Z3,Keep.new hl⟩
 ·rintro l i y ys σ' H1 hl hi hy ⟨⟨o,rfl⟩,⟨ds,hr,hl2,hp⟩,hH1,k1⟩ hl'
  have nl:=hH.ne hl
  refine he i y H1 _ hi hH1 k1 λv d H2 rv pd hH2 k2=>?_
  have hl2':H2 l=some (.lst ys):=k2 _ _ nl hl'
  have m2:Mono H1 H2:=Mono.keep k2 hH1 hH2
  have m3:Mono H2 (upd H2 l (.lst (ys ++ [v]))):=Mono.lset hl2'
  refine⟨hl2',?_,⟨_,rfl⟩,⟨ds ++ [d],((hr.mono m2).append (.cons rv .nil)).mono m3,?_,?_⟩,(hH2.updNe nl).mono ?_,(k1.trans k2).updNew hl⟩
  ·have:=hr.1
   exact zp ()
  ·rw[b0,hl2];rfl
  ·intro j e he
   by_cases hj:j<ds.length
   ·rw[C3 hj] at he
    exact hp j e he
   ·rw[W2 ()] at he
    have hj2:j=ds.length:=by
     rcases D2 ds.length j with z|z
     ·rw[W0 (by simp;lia)] at he;cases he
     ·lia
    subst hj2
    simp at he
    subst he
    rw[hl2];exact pd
  ·rw[show((i+1:Nat):Int)=(i:Int)+1 by lia,Int.mul_add,Int.mul_one]
   lia
 ·rintro l ys σ' H1 hl ⟨⟨o,rfl⟩,⟨ds,hr,hl2,hp⟩,hH1,k1⟩ hl'
  exact q l ys ds H1 hl hl' hr hl2 hp hH1 k1
noncomputable def pairD(p:Str×Str):D:= .tup [.str p.1, .str p.2]
structure TownOk(g:Str)(hs:List Str)(ps:List (Str×Str))(lks hds:List D):Prop where
 rise:hs.Pairwise (λa b=>ltS a b=true)
 one:1<=hs.length
 ten:hs.length<=10
 names:∀x∈hs,zm x=true
 goal:g∈hs
 riseP:ps.Pairwise (λa b=>ltP a b=true)
 ties:∀p∈ps,p.1∈hs/\p.2∈hs/\ltS p.1 p.2=true
 ll:lks.length=hs.length
 lh:hds.length=hs.length
 likes:∀d∈lks,zN d=true
 hands:∀d∈hds,z7 d=true
noncomputable def zag(g:Str)(hs:List Str)(ps:List (Str×Str))(lks hds:List D):D:= .tup [.str g, .tup (hs.map D.str), .tup (ps.map pairD), .tup lks, .tup hds]
theorem zqP{hs:List Str}(h:x∈hs)(hn:zm x=true):zR hs (.str x)=true:=by
 show(zm x&&hs.any λy=>decide (y=x))=true
 rw[hn,List.any_eq_true.mpr ⟨x,h,P0 rfl⟩];rfl
section
variable{es:List D}{k:Nat}
theorem zmt(h:Dsp te σ H (.tup ds))(g:Dsp tf σ H (.tup es))(hl:ds.length+es.length<=1000):Dsp (tOp (zsD K) te tf) σ H (.tup (ds ++es)):=λH1 Q s q=>
 h H1 _ s λv H2 s2 rv=>g H2 _ (s.trans s2) λu H3 s3 ru=>by
  obtain⟨p,vs,rfl,hp,r1,_⟩:=rv.ofT
  obtain⟨p',us,rfl,hp',r2,_⟩:=ru.ofT
  have hp3:=s3 _ _ hp
  have r13:=r1.mono (.of s3)
  refine⟨p,p',vs,us,rfl,rfl, .inl (.inl hp3), .inl (.inl hp'),P2 (zp (by rw[r1.1,r2.1];exact hl)),λz=>?_,λ_ z=>?_,λ_ _ p2 hp2=>?_⟩
  ·have e:ds=[]:=by have:=r1.1;rw[z] at this;exact List.eq_nil_of_length_eq_zero this.symm
   subst e
   exact q _ H3 (s2.trans s3) ru
  ·have e:es=[]:=by have:=r2.1;rw[z] at this;exact List.eq_nil_of_length_eq_zero this.symm
   subst e
   have q':=q (.ref p) H3 (s2.trans s3)
   rw[List.append_nil] at q'
   exact q' (rv.same s3)
  ·exact q _ _ ((s2.trans s3).trans (Same.new hp2)) (.mkL zc (by rw[b0];exact hl) ((r13.append r2).mono (.new hp2)))
theorem zwO(h:Dsp te σ H d)(q:∀v H2,Same H H2->Rep H2 v d->De.rt v H2):zvX te De σ H:=h H _ (Same.refl H) q
end
section
variable{es:List D}
theorem zt8{f:D->D}{g:D->Bool}{ok:Hp->Prop}{src:List (Option Nat)}{Q:VK}(wk:Wk J vs.length (λi x=>vs[i]?=some x) ok)(hok:∀H',Same H H'->ok H')(r:RepL H vs ds)(hl:ds.length<=900)(e:zfA src σ=none::σr)
 (hc:∀(x:V) (d:D) (H1:Hp) (Q1:Bool->Hp->Prop),Same H H1->Rep H1 x d->d∈ds->(∀H2,Same H1 H2->Q1 (g d) H2)->tc (some x::σr) H1 Q1)
 (he:∀(x:V) (d:D) (H1:Hp),Same H H1->Rep H1 x d->d∈ds->Dsp te (some x::σr) H1 (f d))
 (q:∀l us H',Same H H'->H l=none->H' l=some (.lst us)->RepL H' us ((ds.filter g).map f)->Q (.ref l) H'):ze0 (zbH 0) tc te src σ Q J H:=by
 refine zcx wk (λl i ys σ' H'=>(∃o,σ'=o::σr)/\RepL H' ys (((ds.take i).filter g).map f)/\Same H H') ?_ ?_ ?_ ?_
 ·exact λl h'=>⟨⟨none,e⟩,RepL.nil,Same.new h'⟩
 ·exact λl i ys σ' H' _ p=>hok H' p.2.2
 ·rintro l i y ys σ' H1 h' hi hy ⟨⟨o,rfl⟩,ry,s1⟩ hl'
  obtain⟨d,hd,rd⟩:=r.get hy
  refine hc y d H1 _ s1 (rd.same s1) (Z0 hd) λH2 s2=>?_
  have tk:((ds.take (i+1)).filter g).map f=((ds.take i).filter g).map f ++([d].filter g).map f:=by
   rw[N3,hd,List.filter_append,List.map_append];rfl
  rw[tk]
  cases hg:g d with
  |false=>
   have e0:([d].filter g).map f=[]:=by simp[hg]
   rw[e0,List.append_nil]
   exact⟨s2 _ _ hl',⟨_,rfl⟩,ry.mono (.of s2),s1.trans s2⟩
  |true=>
   have e0:([d].filter g).map f=[f d]:=by simp[hg]
   rw[e0]
   refine he y d H2 (s1.trans s2) ((rd.same s1).same s2) (Z0 hd) H2 _ (Same.refl _) λv H3 s3 rv=>?_
   refine⟨s3 _ _ (s2 _ _ hl'),?_,⟨_,rfl⟩,?_,?_⟩
   ·have h1:=ry.1
    have h2:=List.length_filter_le g (ds.take i)
    rw[D0] at h1
    rw[P1] at h2
    exact zp ()
   ·exact ((ry.mono (.of (s2.trans s3))).append (.cons rv .nil)).mono (.lset (s3 _ _ (s2 _ _ hl')))
   ·exact λc o e=>by
     rw[ze (zj e h')]
     exact s3 _ _ (s2 _ _ (s1 _ _ e))
 ·rintro l ys σ' H1 h' ⟨⟨o,rfl⟩,ry,s1⟩ hl'
  rw[r.1,List.take_length] at ry
  exact q l ys H1 s1 h' hl' ry
end
theorem zlK{hs:List Str}(h:∀x∈hs,x.length<=1000):RepL H (hs.map V.str) (hs.map D.str):=by
 refine⟨by rw[D0,D0],λi v d hv hd=>?_⟩
 rw[V0] at hv hd
 cases e:hs[i]? with
 |none=>rw[e] at hv;cases hv
 |some x=>
  rw[e] at hv hd
  cases hv
  cases hd
  exact .str x (h x (Z0 e))
theorem zlE{α β:Type}{F:α->List β}{m:Nat}(hF:∀a,(F a).length<=m):∀l:List α,(l.flatMap F).length<=l.length*m
 |[]=>Z1 _
 |a::l=>by
  rw[List.flatMap_cons,b0,L1,Nat.succ_mul]
  have:=zlE hF l
  have:=hF a
  lia
inductive Tr(H:Hp):V->PyData->Prop
 |non:Tr H .non .none
 |bl (b:Bool):Tr H (.bl b) (.bool b)
 |int (i:Int):Tr H (.int i) (.int i)
 |str (x:Str) (h:PyData.strOk x=true):Tr H (.str x) (.str x)
 |tup {p:Addr} {vs:List V} {ds:List PyData} (e:H p=some (.tup vs)) (hl:vs.length=ds.length) (h:∀(i:Nat) (v:V) (d:PyData),vs[i]?=some v->ds[i]?=some d->Tr H v d):Tr H (.ref p) (.tuple ds)
 |lst {p:Addr} {vs:List V} {ds:List PyData} (e:H p=some (.lst vs)) (hl:vs.length=ds.length) (h:∀(i:Nat) (v:V) (d:PyData),vs[i]?=some v->ds[i]?=some d->Tr H v d):Tr H (.ref p) (.list ds)
theorem zdk{h:Heap}:∀{vs:List V} {us:List Value} {ds:List PyData},Vals vs us->vs.length=ds.length->(∀(i:Nat) (v:V) (d:PyData),vs[i]?=some v->ds[i]?=some d->∀u,RelV v u->∃as,Reads h u d as)->∃bs,ReadsAll h us ds bs
 |_,_,[], .nil,_,_=>⟨_, .nil⟩
 |v::vs,u::us,d::ds, .cons r t,hl,hh=>by
  obtain⟨as,ha⟩:=hh 0 v d rfl rfl u r
  obtain⟨bs,hb⟩:=zdk t (by simpa using hl) λi v' d' h1 h2=>hh (i+1) v' d' h1 h2
  exact⟨_, .cons ha hb⟩
 |[],_,d::ds, .nil,hl,_=>by simp at hl
 |v::vs,u::us,[], .cons r t,hl,_=>by simp at hl
theorem Tr.reads(I:Inv X pins σ H s){x:V}{d:PyData}(t:Tr H x d):∀v,RelV x v->∃as,Reads s.heap v d as:=by
 induction t with
 |non=>intro v r;cases r;exact⟨_, .none⟩
 |bl b=>intro v r;cases r;exact⟨_, .bool b⟩
 |int i=>intro v r;obtain⟨t,rfl⟩:=r;exact⟨_, .int i t⟩
 |str x h=>intro v r;obtain⟨t,rfl⟩:=r;exact⟨_, .str x t⟩
 |tup e hl h ih=>
  intro v r
  cases r
  obtain⟨its,rv,⟨o,ho,hc,n,hd⟩,_⟩:=I.tuple (SqT.of e)
  obtain⟨bs,hb⟩:=zdk (h:=s.heap) rv hl ih
  exact⟨_, .tuple ho hc hd (by simpa using hb)⟩
 |lst e hl h ih=>
  intro v r
  cases r
  obtain⟨its,n,rv,ho,_⟩:=I.lst e
  obtain⟨bs,hb⟩:=zdk (h:=s.heap) rv hl ih
  exact⟨_, .list ho rfl rfl (by simpa using hb)⟩
theorem ze5:∀{vs:List V} {ds:List PyData},vs.length=ds.length->(∀(i:Nat) (v:V) (d:PyData),vs[i]?=some v->ds[i]?=some d->d.canLay0=true)->PyData.canLayAll0 ds=true
 |_,[],_,_=>rfl
 |v::vs,d::ds,hl,hh=>by
  rw[PyData.canLayAll0,hh 0 v d rfl rfl,ze5 (vs:=vs) (ds:=ds) (by simpa using hl) λi v' d' h1 h2=>hh (i+1) v' d' h1 h2];rfl
 |[],d::ds,hl,_=>by simp at hl
theorem Tr.can{x:V}{d:PyData}(t:Tr H x d):d.canLay0=true:=by
 induction t with
 |non=>rfl
 |bl b=>rfl
 |int i=>rfl
 |str x h=>simp only[PyData.canLay0];exact h
 |tup e hl h ih=>rw[PyData.canLay0];exact ze5 hl ih
 |lst e hl h ih=>rw[PyData.canLay0];exact ze5 hl ih
theorem zwe{k:Nat}(r:Room k A):A.units+64<cLine:=by have:=r.un;lia
section
variable{e:Expr}{p1 p2:Pos}{tk:Tok}
end
theorem getItem_tuple_whole{t sl:Addr}{hi:Option Int}(ht:IsTup s.heap t items)(hs:s.heap.IsSliceOf sl vl vu .none)(pl:IsPart vl lo)(pu:IsPart vu hi)
 (h1:sIx items.size 0 lo=0) (h2:sIx items.size items.size hi=items.size)
 (h:Q (.ref t) s):wpAny (model prog w) A (getItem (.ref t) (.ref sl)) Q E s:=by
 obtain⟨os,hos,hcs,hds⟩:=id hs
 have hTs:s.TypeIs (.ref sl) "slice":=⟨os,hos,hcs⟩
 unfold getItem
 try with_reducible refine F3 ?_
 first|refine C0 (K0 ?_)|skip
 refine C0 (wpAny_sequenceKey ht.typeIs ⋯ ?_)
 refine C0 (wpAny_callSpecial?_slot (name:=Str.ofString "__getitem__") ht.typeIs PyProof.Rows.slot_tuple_getitem
  (J3 PyProof.Rows.slot_tuple_getitem ht.typeIs entry_tuple_getitem ?_ (args_tuple_getitem _ _)))
 show wpAny _ _ (Builtin.Tuple.tupleItemsOf (.ref t)>>=_) _ _ s
 refine C0 (tupleItemsOf_ ht ?_)
 refine C0 (wpAny_typeOf hTs ?_)
 rw[R0 ⋯]
 refine C0 (zdO hs pl pu ?_)
 rw[h1,h2]
 show wpAny _ _ (if(((0:Nat):Int)==0&&(1:Int)==1&&(items.size -0)==items.size)=true then _ else _) _ _ s
 rw[R0 `Z3]
 unfold Builtin.Tuple.tupleIsExact
 refine C0 (C0 (wpAny_typeOf ht.typeIs (K0 ?_)))
 rw[R0 ⋯]
 refine C0 (wpAny_rule ?_)
 exact K0 ⟨_,rfl,K0 h⟩
def zsA(K:W.Frag):V->Option Int->Option Int->Hp->VK->Prop:=λx lo hi H Q=>∃a xs,x= .ref a/\SqT K H a xs/\
 (zde xs lo hi=xs->Q (.ref a) H)/\∀p,H p=none->Q (.ref p) (upd H p (.tup (zde xs lo hi)))
theorem zhJ:SlR X (zsA X.K):=by
 intro pins s σ H x v vl vu lo hi sl Q I rx hs pl pu h
 obtain⟨a,xs,rfl,hx,q1,q2⟩:=h
 by_cases hw:sIx xs.length 0 lo=0/\sIx xs.length xs.length hi=xs.length
 ·have rx':v= .ref a:=rx
  subst rx'
  obtain⟨its,r,ht,hz⟩:=I.tuple hx
  have hlen:its.toArray.size=xs.length:=by rw[E1];exact r.length.symm
  refine⟨"tuple",_,PyProof.Rows.slot_tuple_getitem.lookup,ht.typeIs,?_⟩
  refine getItem_tuple_whole ht hs pl pu (by rw[hlen];exact hw.1) (by rw[hlen];exact hw.2) ⟨.ref a,H,I,rfl,q1 ?_⟩
  unfold zde
  rw[hw.1,hw.2];simp
 ·exact zvS pins s σ H (.ref a) v vl vu lo hi sl Q I rx hs pl pu ⟨a,xs,rfl,hx,hw,q2⟩
section
variable{es:List D}
theorem zoQ{tl th:TO}{hi:Option Int}(hv:σ[i]?=some (some v))(r:Rep H v (.tup ds))(hl:∀H1 (Q:Option Int->Hp->Prop),Q lo H1->tl σ H1 Q)(hh:∀H1 (Q:Option Int->Hp->Prop),Q hi H1->th σ H1 Q)
 (hc:∀vs:List V,vs.length=ds.length->∃m k,zde vs lo hi=(vs.drop m).take k/\es=(ds.drop m).take k):Dsp (tSl (zsA K) (zdQ i) tl th) σ H (.tup es):=λH1 Q s q=>by
 obtain⟨p,vs,rfl,hp,r1,b⟩:=(r.same s).ofT
 obtain⟨m,k,e1,e2⟩:=hc vs r1.1
 refine⟨_,hv,hl _ _ (hh _ _ ⟨p,vs,rfl, .inl (.inl hp),λz=>?_,λp2 hp2=>?_⟩)⟩
 ·refine q _ H1 (Same.refl _) ?_
  have e3:es=ds:=by
   rw[e2]
   rw[e1] at z
   have z1:=E3 List.length z
   rw[P1,List.length_drop,r1.1] at z1
   rcases Nat.eq_zero_or_pos m with rfl|hm
   ·rw[List.drop_zero]
    exact List.take_of_length_le ()
   ·have:ds=[]:=List.eq_nil_of_length_eq_zero ()
    subst this;simp
  rw[e3]
  exact .mkL hp b r1
 ·refine q _ _ (Same.new hp2) (.mkL zc (by rw[e2,P1,List.length_drop];lia) ?_)
  rw[e1,e2]
  exact((r1.drop m).take k).mono (.new hp2)
theorem zjG{Q:Option Int->Hp->Prop}(h:Q none H1):zge σ H1 Q:=h
end
def BadL(g:D->Bool)(H:Hp)(l:Addr)(m:Nat):Prop:=∃vs ds,H l=some (.lst vs)/\RepL H vs ds/\ds.length<=m/\∀d∈ds,g d=false
theorem BadL.same{g:D->Bool}{m:Nat}(h:BadL g H l m)(s:Same H H'):BadL g H' l m:=let⟨vs,ds,e,r,n,b⟩:=h;⟨vs,ds,s _ _ e,r.mono (.of s),n,b⟩
section
variable{es:List D}{k:Nat}{g:D->Bool}{lf:Addr}{m:Nat}
end
section
variable{x h t l a:D}
end
theorem zpW{hs:List Str}(h:∀y∈hs,y≠x):zR hs (.str x)=false:=by
 show(_&&hs.any λy=>decide (y=x))=false
 rw[List.any_eq_false.mpr λy hy=>by simpa using h y hy];simp
section
variable{es:List D}{k:Nat}{g:D->Bool}{m:Nat}
theorem zbK{p:Addr}(s:Same H H')(h:H' p=none):H p=none:=by
 cases e:H p with
 |none=>rfl
 |some o=>have:=s _ _ e;rw[h] at this;cases this
end
theorem zbd(h:zm x=true):PyData.strOk x=true:=by
 unfold zm at h
 simp only[X0] at h
 have h2:=h.1.2
 unfold PyData.strOk
 rw[Array.all_eq_true']
 intro c hc
 have:=N2.mp h2 c (by simpa using hc)
 unfold zaG at this
 simp only[X0,decide_eq_true_eq] at this
 exact P0 ()
theorem zcT{α:Type}[DecidableEq α]:∀{l m:List α},l.Nodup->(∀x∈l,x∈m)->l.length<=m.length
 |[],m,_,_=>Z1 _
 |a::l,m,hn,hs=>by
  have ha:=hs a N1
  have:=zcT (l:=l) (m:=m.erase a) (U2.mp hn).2 λx hx=>(List.mem_erase_of_ne (λz:x=a=>(U2.mp hn).1 (by rw[←z];exact hx))).mpr (hs x (F1 _ hx))
  rw[List.length_erase_of_mem ha] at this
  have:1<=m.length:=List.length_pos_of_mem ha
  rw[L1]
  lia
theorem TownOk.lp{hs:List Str}(T:TownOk g hs ps lks hds):ps.length<=100:=by
 have nd:ps.Nodup:=T.riseP.imp λ{a b} h z=>by rw[z,zk6] at h;cases h
 have:=zcT (m:=hs.flatMap λa=>hs.map λb=>(a,b)) nd λp hp=>by
  obtain⟨h1,h2,_⟩:=T.ties p hp
  exact List.mem_flatMap.mpr ⟨p.1,h1,X1.mpr ⟨p.2,h2,rfl⟩⟩
 have h2:=zlE (F:=λa=>hs.map λb=>(a,b)) (m:=10) (λa=>by rw[D0];exact T.ten) hs
 have:=T.ten
 lia
theorem zcl{b:Bool}{X:Prop}(h:b=true)(x:X):if b=true then X else Y:=by rw[R0 h];exact x
theorem za3{b:Bool}{X:Prop}(h:b=false)(y:Y):if b=true then X else Y:=by rw[N0 (by rw[h];decide)];exact y
section
open PySem.W
theorem zmk{r:Addr}{T:String}{o:Obj}{vs:List Value}{n:Nat}{R:List Value->Shared->Prop}(hT:T="list"\/T="tuple")(ho:s.heap.get? r=some o)(hc:o.cls= .type T)(hd:o.data= .seq vs.toArray n)(hz:vs.length<=sizeLine)
 (q:∀(h':Heap),(∀b o,s.heap.get? b=some o->h'.get? b=some o)->s.heap.objs.size<h'.objs.size->R vs {s with heap:=h'}):wpAny (model prog w) A (collect (.ref r)) R E s:=by
 have lt:=Y0 ho
 have hne:r≠s.heap.objs.size:=V1 lt
 have g0:(s.heap.push {cls:= .type "list",data:= .seq ([]:List Value).toArray}).get? s.heap.objs.size=some (seqObj "list" #[] 0):=Q0 _ rfl
 have gr:(s.heap.push {cls:= .type "list",data:= .seq ([]:List Value).toArray}).get? r=some o:=G0 _ ho
 obtain⟨e1,g1⟩:∃e1,((s.heap.push {cls:= .type "list",data:= .seq ([]:List Value).toArray}).update s.heap.objs.size (Obj.mapSeq λx=>x ++vs.toArray)).get? s.heap.objs.size=some (seqObj "list" ((#[]:Array Value)++vs.toArray) e1):=⟨_,get?_update_seq g0 λx=>x ++vs.toArray⟩
 have u1:=Heap.SameBut.update (s.heap.push {cls:= .type "list",data:= .seq ([]:List Value).toArray}) s.heap.objs.size (Obj.mapSeq λx=>x ++vs.toArray)
 unfold collect
 refine C0 (wpAny_runValue (codeAny_builtin entry_proto_collect' (by
  rw[Around.under_plainId F.plain_proto_collect _]
  show wpAny _ A.in1 (newList []>>=λl=>again (.builtin "list.__iadd__" ⟨[l, .ref r],[]⟩)) _ _ s
  refine C0 (K2 (K0 ⟨plainId_quiet F.plain_list_iadd _,codeAny_builtin entry_list_iadd' (by
   rw[Around.under_plainId F.plain_list_iadd _]
   show wpAny _ A.in1 (Builtin.List.listExtendWith (.ref s.heap.objs.size) (.ref r) (.ref s.heap.objs.size)) _ _ _
   unfold Builtin.List.listExtendWith
   have hty:({s with heap:=s.heap.push {cls:= .type "list",data:= .seq ([]:List Value).toArray}}:Shared).TypeIs (.ref r) T:=⟨o,gr,hc⟩
   refine C0 (wpAny_typeOf hty ?_)
   rw[R0 (by rcases hT with rfl|rfl<;>simp)]
   refine C0 (listItems_at gr hd (C0 (listItems_at g0 rfl ?_)))
   rw[N0 `Z3]
   refine C0 (listUpdate_at g0 rfl ?_ (Z1 _) (by show((#[]:Array Value)++vs.toArray).size<=_;simp;lia))
   refine K0 ?_
   show wpAny _ A (load s.heap.objs.size>>=_) _ _ _
   refine C0 (wpAny_load g1 (K0 ?_))
   have ev:((#[]:Array Value)++vs.toArray).toList=vs:=`Z3
   show R ((#[]:Array Value)++vs.toArray).toList _
   rw[ev]
   exact q _ (λb o e=>(u1.2 b (V1 (Y0 e))).trans (G0 _ e)) (Y0 g1))⟩)))))
theorem zhn{T:String}{o:Obj}{vs:List Value}{n:Nat}{ss:List Str}(hT:T="list"\/T="tuple")(ho:s.heap.get? l=some o)(hc:o.cls= .type T)(hd:o.data= .seq vs.toArray n)(hS:StrsAre vs ss)(h64:vs.length<64)
 (q:∀(D:Addr) (out:Array Value) (ss':List Str) (h':Heap) (e:Nat),StrsAre out.toList ss'->ss'.Perm ss->sortedS ss'=true->(∀b o,s.heap.get? b=some o->h'.get? b=some o)->s.heap.objs.size<=D->h'.get? D=some (seqObj "list" out e)->Q (.ref D) {s with heap:=h'}):
 wpAny (model prog w) A (call (.builtin "sorted") [.ref l]) Q E s:=by
 refine Calls.call_function_entry kind_sorted plain_sorted entry_sorted (args_sorted1 _) ?_
 unfold Builtin.«sorted»
 refine C0 (m:=checkCount "sorted" 1 1 _) (K0 (C0 (zmk hT ho hc hd (by rw[sizeLine_eq];lia) λh1 kp gr0=>?_)))
 refine C0 (wpAny_newList ?_ (by show vs.length<=_;rw[sizeLine_eq];lia))
 have hD:(h1.push (seqObj "list" vs.toArray 0)).get? h1.objs.size=some (seqObj "list" vs.toArray 0):=Q0 _ rfl
 have k2:∀b o,s.heap.get? b=some o->(h1.push (seqObj "list" vs.toArray 0)).get? b=some o:=λb o e=>G0 _ (kp b o e)
 have gr:s.heap.objs.size<=h1.objs.size:=P2 gr0
 show wpAny _ _ _ _ _ {s with heap:=h1.push (seqObj "list" vs.toArray 0)}
 refine C0 (F3 (J3 slot_list_sort ⟨_,hD,rfl⟩ entry_list_sort (list_sort_treeK strKind_oneLt (s:={s with heap:=h1.push (seqObj "list" vs.toArray 0)}) hD hS.keysOf (λv1 v2 rest e=>?_) h64 λst' hp hs=>?_) (args_list_sort _)))
 ·subst e
  exact keyKind_strs hS
 ·obtain ⟨ss',a1,a2,a3⟩:=sorted_out_str hS hp hs
  obtain⟨e,he⟩:=sortedHeap_at (h:=h1.push (seqObj "list" vs.toArray 0)) (vs:=vs) (out:=Array.map (λx=>x.snd) (arrOf st')) hD
  refine⟨_,rfl,K0 ⟨_,rfl,q h1.objs.size _ ss' _ e a1 a2 a3 (λb o hb=>?_) gr he⟩⟩
  have lb:=Y0 hb
  rw[sortedHeap_old (V1 (W1 lb gr)) (Y0 (k2 b o hb))]
  exact k2 b o hb
def ztX(K:W.Frag):List V->Hp->VK->Prop:=λxs H Q=>∃(p:Addr) (ss:List Str),xs=[.ref p]/\(SqL K H p (ss.map V.str)\/SqT K H p (ss.map V.str))/\ss.length<64/\∀(ss':List Str) l,ss'.Perm ss->sortedS ss'=true->H l=none->Q (.ref l) (upd H l (.lst (ss'.map V.str)))
theorem zcG:CallR X (.builtin "sorted") (ztX X.K):=by
 intro pins s σ H xs us Q I r h
 obtain⟨p,ss,rfl,hq,h64,q⟩:=h
 obtain⟨u,rfl,ru⟩:=zdM r
 cases ru
 have key:∀{its:List Value} {T:String} {o:Obj} {n:Nat},T="list"\/T="tuple"->s.heap.get? p=some o->o.cls= .type T->o.data= .seq its.toArray n->Vals (ss.map V.str) its->wpAny (model X.prog X.w) X.A (call (.builtin "sorted") [.ref p]) (EP X pins σ Q) X.xe s:=by
  intro its T o n hT ho hc hd rv
  have hS:=zbU rv
  have hl:=rv.length
  rw[D0] at hl
  refine zhn hT ho hc hd hS () λD out ss' h' e a1 a2 a3 kp hD he=>?_
  refine⟨.ref D,_,I.laid (a:=D) (o:= .lst (ss'.map V.str)) (t':=s.toks) kp hD ⟨?_,out.toList,e,?_,?_⟩,rfl,q ss' D a2 a3 (I.hok.fresh hD)⟩
  ·rw[D0,a2.length_eq];exact P2 (zp ())
  ·have mk:∀{vs:List Value} {zs:List Str},StrsAre vs zs->Vals (zs.map V.str) vs:=by
    intro vs zs h
    induction h with
    |nil=>exact .nil
    |cons x t _ ih=>exact .cons ⟨t,rfl⟩ ih
   exact mk a1
  ·rw[Array.toArray_toList];exact he
 rcases hq with hq|hq
 ·obtain ⟨its,rv,pl,hz⟩:=I.list hq
  obtain⟨o,ho,hc,n,hd⟩:=pl.isList
  exact key (.inl rfl) ho hc hd rv
 ·obtain ⟨its,rv,pl,hz⟩:=I.tuple hq
  obtain⟨o,ho,hc,n,hd⟩:=pl
  exact key (.inr rfl) ho hc hd rv
end
theorem zed{hs:List Str}:inV (.str x) (hs.map V.str)=hs.any λy=>decide (y=x):=by
 unfold inV
 rw[List.any_map]
 congr 1
theorem zbV{hs:List Str}:(hs.map V.str).all zf7=true:=by
 rw[List.all_map,N2]
 exact λ_ _=>rfl
theorem zsC{xs:List Str}(h:Rep H v (.tup (xs.map D.str))):∃p,v= .ref p/\H p=some (.tup (xs.map V.str)):=by
 obtain⟨p,vs,rfl,hp,r,_⟩:=h.ofT
 refine⟨p,rfl,?_⟩
 have e:vs=xs.map V.str:=by
  apply List.ext_getElem?
  intro i
  rcases D2 i xs.length with hi|hi
  ·have hv:i<vs.length:=by rw[r.1,D0];exact hi
   have:=r.2 i vs[i] (.str xs[i]) (by simp[hv]) (by simp[hi])
   rw[F0 hv,V0,F0 hi]
   generalize vs[i]=z at this
   cases this
   rfl
  ·rw[W0 (by rw[r.1,D0];exact hi),W0 (by rw[D0];exact hi)]
 rw[←e];exact hp
theorem zwZ{d1 d2 d3 d4 d5:D}(h:Rep H v (.tup [d1,d2,d3,d4,d5])):∃p x1 x2 x3 x4 x5,v= .ref p/\H p=some (.tup [x1,x2,x3,x4,x5])/\Rep H x1 d1/\Rep H x2 d2/\Rep H x3 d3/\Rep H x4 d4/\Rep H x5 d5:=by
 obtain⟨p,vs,rfl,hp,r,_⟩:=h.ofT
 match vs,r with
 |[x1,x2,x3,x4,x5],r=>exact ⟨p,x1,x2,x3,x4,x5,rfl,hp,r.head.1,r.head.2.head.1,r.head.2.head.2.head.1,r.head.2.head.2.head.2.head.1,r.head.2.head.2.head.2.head.2.head.1⟩
 |[],r=>exact absurd r.1 `Z3
 |[_],r=>exact absurd r.1 `Z3
 |[_,_],r=>exact absurd r.1 `Z3
 |[_,_,_],r=>exact absurd r.1 `Z3
 |[_,_,_,_],r=>exact absurd r.1 `Z3
 |_::_::_::_::_::_::_,r=>exact absurd r.1 `Z3
def zvQ(H:Hp)(v:V)(g:Str)(hs:List Str)(ps:List (Str×Str))(lks hds:List D):Prop:=∃p pr pt pl pa vt vl va,v= .ref p/\H p=some (.tup [.str g, .ref pr, .ref pt, .ref pl, .ref pa])/\H pr=some (.tup (hs.map V.str))/\H pt=some (.tup vt)/\RepL H vt (ps.map pairD)/\H pl=some (.tup vl)/\RepL H vl lks/\H pa=some (.tup va)/\RepL H va hds
theorem zbm{hs:List Str}(h:Rep H v (zag g hs ps lks hds)):zvQ H v g hs ps lks hds:=by
 obtain⟨p,x1,x2,x3,x4,x5,rfl,hp,r1,r2,r3,r4,r5⟩:=zwZ h
 cases r1 with|str _ _=>
 obtain⟨pr,rfl,hpr⟩:=zsC r2
 obtain⟨pt,vt,rfl,hpt,rt,_⟩:=r3.ofT
 obtain⟨pl,vl,rfl,hpl,rl,_⟩:=r4.ofT
 obtain⟨pa,va,rfl,hpa,ra,_⟩:=r5.ofT
 exact⟨p,pr,pt,pl,pa,vt,vl,va,rfl,hp,hpr,hpt,rt,hpl,rl,hpa,ra⟩
noncomputable def zbo(ps:List (Str×Str))(x:Str):List Str:=(ps.filter λp=>decide (p.2=x)).map (·.1)++(ps.filter λp=>decide (p.1=x)).map (·.2)
theorem zly:y∈zbo ps x↔(y,x)∈ps\/(x,y)∈ps:=by
 unfold zbo
 rw[Q2,X1,X1]
 constructor
 ·rintro (⟨⟨a,b⟩,h,rfl⟩|⟨⟨a,b⟩,h,rfl⟩)
  ·obtain ⟨h1,h2⟩:=Y2.mp h
   have h2:b=x:=O0 h2
   subst h2
   exact .inl h1
  ·obtain ⟨h1,h2⟩:=Y2.mp h
   have h2:a=x:=O0 h2
   subst h2
   exact .inr h1
 ·rintro (h|h)
  ·exact .inl ⟨(y,x),Y2.mpr ⟨h,P0 rfl⟩,rfl⟩
  ·exact .inr ⟨(x,y),Y2.mpr ⟨h,P0 rfl⟩,rfl⟩
theorem TownOk.ps_nd{hs:List Str}(T:TownOk g hs ps lks hds):ps.Nodup:=T.riseP.imp λ{a b} h z=>by rw[z,zk6] at h;cases h
theorem TownOk.hs_nd{hs:List Str}(T:TownOk g hs ps lks hds):hs.Nodup:=T.rise.imp λ{a b} h z=>by rw[z,zhz] at h;cases h
theorem zos{hs:List Str}(T:TownOk g hs ps lks hds)(x:Str):(zbo ps x).Nodup:=by
 have nd:=T.ps_nd
 unfold zbo
 rw[List.nodup_append]
 refine⟨?_,?_,?_⟩
 ·rw[List.nodup_iff_pairwise_ne,List.pairwise_map]
  refine List.Pairwise.imp_of_mem (λ{a b} ha hb hab z=>?_) (nd.filter _)
  have h1:a.2=x:=O0 (Y2.mp ha).2
  have h2:b.2=x:=O0 (Y2.mp hb).2
  exact hab (Prod.ext z (h1.trans h2.symm))
 ·rw[List.nodup_iff_pairwise_ne,List.pairwise_map]
  refine List.Pairwise.imp_of_mem (λ{a b} ha hb hab z=>?_) (nd.filter _)
  have h1:a.1=x:=O0 (Y2.mp ha).2
  have h2:b.1=x:=O0 (Y2.mp hb).2
  exact hab (Prod.ext (h1.trans h2.symm) z)
 ·intro y hy z hz e
  subst e
  obtain⟨a,ha,rfl⟩:=X1.mp hy
  obtain⟨b,hb,eb⟩:=X1.mp hz
  obtain⟨ha1,ha2⟩:=Y2.mp ha
  obtain⟨hb1,hb2⟩:=Y2.mp hb
  have h1:a.2=x:=O0 ha2
  have h2:b.1=x:=O0 hb2
  have l1:=(T.ties a ha1).2.2
  have l2:=(T.ties b hb1).2.2
  rw[h1] at l1
  rw[h2,eb] at l2
  have:=zhC l1
  rw[l2] at this
  cases this
theorem zoo{hs:List Str}(T:TownOk g hs ps lks hds)(h:y∈zbo ps x):y∈hs:=by
 rcases zly.mp h with h|h
 ·exact (T.ties _ h).1
 ·exact (T.ties _ h).2.1
theorem zl4{hs:List Str}(T:TownOk g hs ps lks hds)(x:Str):(zbo ps x).length<=10:=Y1 (zcT (zos T x) λy hy=>zoo T hy) T.ten
structure WayOk(g:Str)(hs:List Str)(ps:List (Str×Str))(ws:List Str):Prop where
 nd:ws.Nodup
 mem:∀x∈ws,x∈hs
 last:∃w0,ws=w0 ++ [g]
 tied:∀(i:Nat) (a b:Str),ws[i]?=some a->ws[i+1]?=some b->b∈zbo ps a
theorem zmx{sel:Str×Str->Bool}{f:Str×Str->Str}{ok:Hp->Prop}{g:TG}{src:List (Option Nat)}{Q:VK}(Iv:St->Prop)(wk:Wk J vs.length (λi x=>vs[i]?=some x) ok)(hok:∀H',Same H H'->ok H')(r:RepL H vs (ps.map pairD))(hl:ps.length<=900)(h0:Iv (zfA src σ))
 (hs:∀(q:Addr) (p:Str×Str) (σ':St) (H1:Hp) (A:V->Hp->St->Prop) (B:St->Hp->Prop),Iv σ'->Same H H1->H1 q=some (.tup [.str p.1, .str p.2])->p∈ps->(∀σ2,Iv σ2->if sel p=true then A (.str (f p)) H1 σ2 else B σ2 H1)->g (.ref q) σ' H1 λσ2 H3=>tc σ2 H3 λb H4=>if b=true then te σ2 H4 (λy H5=>A y H5 σ2)else B σ2 H4)
 (q:∀l H',Same H H'->H l=none->H' l=some (.lst (((ps.filter sel).map f).map V.str))->Q (.ref l) H'):ze0 g tc te src σ Q J H:=by
 refine zcx wk (λl i ys σ' H'=>Iv σ'/\ys=(((ps.take i).filter sel).map f).map V.str/\Same H H') ?_ ?_ ?_ ?_
 ·exact λl h'=>⟨h0,rfl,Same.new h'⟩
 ·exact λl i ys σ' H' _ p=>hok H' p.2.2
 ·rintro l i y ys σ' H1 h' hi hy ⟨iv,rfl,s1⟩ hl'
  obtain⟨d,hd,rd⟩:=r.get hy
  rw[V0] at hd
  cases hp:ps[i]? with
  |none=>rw[hp] at hd;cases hd
  |some p=>
   rw[hp] at hd
   cases hd
   obtain⟨q,x,y,rfl,hq,r1,r2⟩:=(rd.same s1).of2
   cases r1 with|str _ _=>
   cases r2 with|str _ _=>
   refine hs q p σ' H1 (λy H5 σ2=>H5 l=some (.lst ((((ps.take i).filter sel).map f).map V.str))/\((((ps.take i).filter sel).map f).map V.str).length<sizeLine/\Iv σ2/\(((ps.take i).filter sel).map f).map V.str ++ [y]=(((ps.take (i+1)).filter sel).map f).map V.str/\Same H (upd H5 l (.lst ((((ps.take i).filter sel).map f).map V.str ++ [y])))) (λσ2 H4=>H4 l=some (.lst ((((ps.take i).filter sel).map f).map V.str))/\Iv σ2/\(((ps.take i).filter sel).map f).map V.str=(((ps.take (i+1)).filter sel).map f).map V.str/\Same H H4) iv s1 hq (Z0 hp) λσ2 iv2=>?_
   have tk:((ps.take (i+1)).filter sel)=((ps.take i).filter sel)++ [p].filter sel:=by rw[N3,hp,List.filter_append];rfl
   cases hsel:sel p with
   |false=>
    refine za3 rfl ⟨hl',iv2,?_,s1⟩
    rw[tk]
    simp[hsel]
   |true=>
    refine zcl rfl ⟨hl',?_,iv2,?_,?_⟩
    ·rw[D0,D0]
     have h2:=List.length_filter_le sel (ps.take i)
     rw[P1] at h2
     exact zp ()
    ·rw[tk]
     simp[hsel]
    ·exact λc o e=>by
      rw[ze (zj e h')]
      exact s1 _ _ e
 ·rintro l ys σ' H1 h' ⟨iv,rfl,s1⟩ hl'
  have e:ps.length=vs.length:=by rw[r.1,D0]
  rw[←e,List.take_length] at hl'
  exact q l H1 s1 h' hl'
theorem zo7{xs:List Str}(r:RepL H us (xs.map D.str)):us=xs.map V.str:=by
 apply List.ext_getElem?
 intro i
 rcases D2 i xs.length with hi|hi
 ·have hv:i<us.length:=by rw[r.1,D0];exact hi
  have:=r.2 i us[i] (.str xs[i]) (by simp[hv]) (by simp[hi])
  rw[F0 hv,V0,F0 hi]
  generalize us[i]=z at this
  cases this
  rfl
 ·rw[W0 (by rw[r.1,D0];exact hi),W0 (by rw[D0];exact hi)]
noncomputable def zI(xs:List Str):List PyData:=xs.map PyData.str
section
variable{es:List D}
theorem zsp{Q:Option Int->Hp->Prop}{i:Int}(hj:σ[j]?=some (some (.int i)))(h:Q (some i) H1):zj8 (zdQ j) σ H1 Q:=⟨_,hj,i,rfl,h⟩
theorem zqo{Q:Option Int->Hp->Prop}{i:Int}(hj:σ[j]?=some (some (.int i)))(h:Q (some (i+1)) H1):zj8 (tOp (rI0 λi j=> .int (i+j)) (zdQ j) (tC (.int 1))) σ H1 Q:=⟨_,hj,_,_,rfl,rfl,_,rfl,h⟩
theorem zqh{t:Nat}(hv:σ[i]?=some (some v))(r:Rep H v (.tup ds))(ht:σ[j]?=some (some (.int (t:Int)))):Dsp (tSl (zsA K) (zdQ i) zge (zj8 (zdQ j))) σ H (.tup (ds.take t)):=
 zoQ (lo:=none) (hi:=some (t:Int)) hv r (λ_ _ h=>zjG h) (λ_ _ h=>zsp ht h) λvs hl=>⟨0,t,by rw[zl9,List.drop_zero],by rw[List.drop_zero]⟩
theorem znZ{t:Nat}(hv:σ[i]?=some (some v))(r:Rep H v (.tup ds))(ht:σ[j]?=some (some (.int (t:Int)))):Dsp (tSl (zsA K) (zdQ i) (zj8 (tOp (rI0 λi j=> .int (i+j)) (zdQ j) (tC (.int 1)))) zge) σ H (.tup (ds.drop (t+1))):=
 zoQ (lo:=some ((t:Int)+1)) (hi:=none) hv r (λ_ _ h=>zqo ht h) (λ_ _ h=>zjG h) λvs hl=>⟨t+1,vs.length,by rw[show(t:Int)+1=((t+1:Nat):Int) by push_cast;rfl,zlW];exact(List.take_of_length_le (by rw[List.length_drop];lia)).symm,(List.take_of_length_le (by rw[List.length_drop];lia)).symm⟩
end
section
variable{es:List D}{k:Nat}
theorem zcR{m:Nat}{l0:Addr}{g:D->Bool}(hσ:σ[i]?=some (some (.ref l0)))(B:BadL g H l0 m)(es:List D)(h:znb ta σ H es)(ge:∀d∈es,g d=false)
 (q:∀l H2,Same H H2->H l=none->BadL g H2 l (m+es.length)->tb De (σ.set k (some (.ref l))) H2) (hm:m+es.length<=900):zpn (zja (tOp zuf (zdQ i) (znG ta)) (zbH k)) tb De σ H:=by
 obtain⟨vs,ds,e,r,n,hg⟩:=B
 refine⟨_,hσ,h H _ (Same.refl H) λus H2 s2 r2=>⟨P2 (zp (by rw[r2.1];lia)),λp hp=>?_⟩⟩
 have S:=s2.trans (Same.new (o:= .lst us) hp)
 have l1:=r.1
 have l2:=r2.1
 refine⟨l0,p,vs,us,rfl,rfl,S _ _ e,zc,P2 (zp ()),λl hl=>?_⟩
 have S3:=S.trans (Same.new (o:= .lst (vs ++us)) hl)
 refine q l _ S3 (zbK S hl) ⟨_,ds ++es,zc,((r.mono (.of S3)).append (r2.mono ((Mono.new hp).trans (.new hl)))),by rw[b0];lia,List.forall_mem_append.mpr ⟨hg,ge⟩⟩
end
theorem ziV:∀{l m:List Str},l.Pairwise (λa b=>ltS a b=true)->m.Pairwise (λa b=>ltS a b=true)->(∀x,x∈l↔x∈m)->l=m
 |[],[],_,_,_=>rfl
 |[],b::m,_,_,h=>absurd ((h b).mpr N1) O2
 |a::l,[],_,_,h=>absurd ((h a).mp N1) O2
 |a::l,b::m,p,q,h=>by
  obtain⟨p1,p2⟩:=List.pairwise_cons.mp p
  obtain⟨q1,q2⟩:=List.pairwise_cons.mp q
  have e:a=b:=by
   rcases D1.mp ((h a).mp N1)with z|z
   ·exact z
   rcases D1.mp ((h b).mpr N1)with y|y
   ·exact y.symm
   have:=zhC (q1 a z)
   rw[p1 b y] at this;cases this
  subst e
  rw[ziV p2 q2 λx=>⟨λhx=>?_,λhx=>?_⟩]
  ·rcases D1.mp ((h x).mp (F1 _ hx))with rfl|z
   ·have:=p1 x hx;rw[zhz] at this;cases this
   ·exact z
  ·rcases D1.mp ((h x).mpr (F1 _ hx))with rfl|z
   ·have:=q1 x hx;rw[zhz] at this;cases this
   ·exact z
noncomputable def dueB(ps:List (Str×Str))(x:Str):D->Bool| .str y=>decide ((x,y)∈ps)||decide ((y,x)∈ps)|_=>false
noncomputable def due(hs:List Str)(ps:List (Str×Str))(x:Str):List Str:=hs.filter λy=>decide ((x,y)∈ps)||decide ((y,x)∈ps)
theorem zvj{hs:List Str}(T:TownOk g hs ps lks hds)(hp:ts.Perm (zbo ps x))(h:sortedS ts=true):ts=due hs ps x:=by
 refine ziV (zkP ts h (hp.nodup_iff.mpr (zos T x))) (T.rise.filter _) λy=>?_
 rw[hp.mem_iff,zly]
 unfold due
 rw[Y2,Bool.or_eq_true,J2,J2]
 constructor
 ·rintro (z|z)
  ·exact ⟨(T.ties _ z).1, .inr z⟩
  ·exact ⟨(T.ties _ z).2.1, .inl z⟩
 ·rintro ⟨_,z|z⟩
  ·exact .inr z
  ·exact .inl z
theorem zg9:∀{xs ys:List Str},PyData.eqvAll (zI xs) (zI ys)=decide (xs=ys)
 |[],[]=>by unfold zI;rw[List.map_nil,PyData.eqvAll];rfl
 |[],y::ys=>by unfold zI;rw[List.map_nil,E2,PyData.eqvAll];rfl
 |x::xs,[]=>by unfold zI;rw[List.map_nil,E2,PyData.eqvAll];rfl
 |x::xs,y::ys=>by
  have ih:=zg9 (xs:=xs) (ys:=ys)
  unfold zI at ih⊢
  rw[E2,E2,PyData.eqvAll,PyData.eqv,ih,B3,J2,List.cons.injEq]
  simp
theorem zb8:∀{xs:List Str},PyData.depthAll (zI xs)<=1
 |[]=>by unfold zI;rw[List.map_nil,PyData.depthAll];decide
 |x::xs=>by
  have ih:=zb8 (xs:=xs)
  unfold zI at ih⊢
  rw[E2,PyData.depthAll,PyData.depth]
  lia
structure FunD(K:W.Frag)(x qual:Str)(st:Stmt)(f:Addr)(fd:FuncData):Prop where
 ex:∃(oc:Value) (od:Option Addr) (dt:Addr) (kV doc pm:Value) (an:Option Addr) (cdv ct:Value) (osl:Array (Option Value)) (od2:Option Addr) (n2:Nat) (sl2:Array (Option Value)),
  fd=W.fnOf x qual (zar st) (zaa st) (zd st) (.ref dt) kV doc pm an cdv ct/\K.lookup f=some ⟨oc,od, .func fd,osl⟩/\W.codeIn K cdv qual=true/\K.lookup dt=some ⟨.type "tuple",od2, .seq #[.none] n2,sl2⟩
 kp:W.keepIn K (.ref f)=true
section
variable{mg:Str->Option Value}
theorem FunD.okQ{st:Stmt}{ps:List Str}{k:Nat}(F:FunD K x qual st f fd)(S:FnScope N ps (zd st))(len:∀vs H Q E,sp vs H Q E->vs.length=ps.length)
 (hbody:∀(cdv:Value) (A:Around) (outer:List Env) (s:Shared) (H:Hp) (vs:List V) (Q:VK) (E:XK),Room k (A.deeper (envOfC qual (zd st) s.heap.objs.size f cdv))->sp vs H Q E->
   ∃t,QB (zjs CX0 P w K mg base N qual (zd st) f cdv A outer s H E).nox (zaa st) t/\t {nx:=λ_ H'=>Q .non H',rt:=Q} (zev N vs) H):FnOk P w K mg base CX0 (k+1) f fd ps sp:=by
 obtain⟨oc,od,dt,kV,doc,pm,an,cdv,ct,osl,od2,n2,sl2,rfl,lk,hcd,ld⟩:=F.ex
 refine zrs lk hcd S len λA outer s H vs Q E hr hsp=>?_
 obtain⟨t,h,q⟩:=hbody cdv A outer s H vs Q E hr hsp
 exact⟨t,h.o.nox,q⟩
theorem zkm{st:Stmt}{dt:Addr}{an od2:Option Addr}{kV:Value}(l:K.lookup f=some ⟨oc,od, .func (W.fnOf x qual (zar st) (zaa st) (zd st) (.ref dt) kV doc pm an cdv ct),osl⟩)
 (ld:K.lookup dt=some ⟨.type "tuple",od2, .seq #[.none] n2,sl2⟩) (c:W.codeIn K cdv qual=true) (k:W.keepIn K (.ref f)=true):FunD K x qual st f (W.fnOf x qual (zar st) (zaa st) (zd st) (.ref dt) kV doc pm an cdv ct):=⟨⟨oc,od,dt,kV,doc,pm,an,cdv,ct,osl,od2,n2,sl2,rfl,l,c,ld⟩,k⟩
theorem FunD.binds{st:Stmt}{ps:List Str}{ds:List Value}(F:FunD K x qual st f fd)(m:Nat)(hm:ps.length=m+ds.length)
 (h:∀(dt:Addr) (kV doc pm:Value) (an:Option Addr) (cdv ct:Value) (us:List Value),us.length=m->∃k:Option (Array Value)->Sem (List (Str×Value)),bindArgs (W.fnOf x qual (zar st) (zaa st) (zd st) (.ref dt) kV doc pm an cdv ct) ⟨us,[]⟩=seqItems? (.ref dt)>>=k/\k (some #[.none])=pure (ps.zip (us ++ds))):Binds K fd ps ds:=by
 obtain⟨oc,od,dt,kV,doc,pm,an,cdv,ct,osl,od2,n2,sl2,rfl,lk,hcd,ld⟩:=F.ex
 intro s us kin hl
 obtain⟨k,e1,e2⟩:=h dt kV doc pm an cdv ct us (by rw[b0] at hl;lia)
 exact BindsTo.of_defaults (T:=dt) rfl (kin _ _ ld) rfl e1 e2
end
structure AtD(K:W.Frag)(mg:Str->Option Value)(x:Str)(st:Stmt)(ps:List Str)(f:Addr)(fd:FuncData):Prop where
 fn:FunD K x x st f fd
 b:Binds K fd ps []
 bd:Binds K fd ps [.none]
 mg:mg x=some (.ref f)
 kp:W.keepIn K (.ref f)=true
variable{mg:Str->Option Value}
noncomputable def zaf(O:List Str):D->Bool| .tup [_, .str x]=>decide (x∈O)|_=>true
noncomputable def zbP(O:List Str):D->Bool| .tup [.str w,e]=>if w="not"then zaf O e else zaf O (.tup [.str w,e])|_=>true
noncomputable def zue(O:List Str):D->Bool| .tup ds=>ds.all (zbP O)|_=>true
noncomputable def zic(O:List Str):D->Bool| .tup [c,t]=>zue O c&&zaf O t|_=>true
noncomputable def zcB(O:List Str):D->Bool| .tup ds=>ds.all (zic O)|_=>true
structure Pool(hs:List Str)(lks hds:List D)(O:List Str):Prop where
 few:O.length<=14
 nm:∀x∈O,zm x=true
 hs:∀x∈hs,x∈O
 lk:∀d∈lks,zcB O d=true
 hd:∀d∈hds,zcB O d=true
variable{hs:List Str}
noncomputable def zk3(O:List Str)(d:D):Bool:=zC d&&zic O d
noncomputable def zkN(O:List Str)(d:D):Bool:=zal d&&zic O d
theorem zci{y:D}(h:x∈O):zaf O (.tup [y, .str x])=true:=P0 h
theorem zk0{w:Str}{e:D}(h:zE (.tup [.str w,e])=true)(hp:zaf O (.tup [.str w,e])=true):zbP O (.tup [.str w,e])=true:=by
 show(if w="not"then _ else _)=true
 by_cases z:w="not"
 ·subst z;rw[zdR] at h;cases h
 ·rw[N0 z];exact hp
theorem zpT(h:zE d=true)(hp:zaf O d=true):zbP O d=true:=by
 obtain⟨x,e,rfl⟩:=zbb d h
 exact zk0 h hp
theorem zm8(hp:zaf O d=true):zbP O (.tup [.str "not",d])=true:=by
 show(if("not":Str)="not"then zaf O d else zaf O (.tup [.str "not",d]))=true
 rw[R0 rfl];exact hp
theorem zjT{t:D}(h:∀d∈ds,zbP O d=true)(ht:zaf O t=true):zic O (.tup [.tup ds,t])=true:=by
 show(ds.all (zbP O)&&zaf O t)=true
 rw[N2.mpr h,ht];rfl
theorem zi0{P:Program}{w:World}:∀{es:List DictEntry} {kvs:List (Key×Value)},Pairs (zak P w) es kvs->Vals (kvs.map λkv=>kV kv.1) (es.map (·.key))
 |_,_, .nil=> .nil
 |_,_, .cons (e:=e) (kv:=kv) h1 h2 h3=>by
  refine .cons ?_ (zi0 h3)
  have h1:zid kv.1 e.key=true:=h1
  rcases zam h1 with⟨i,t,a,b⟩|⟨x,t,a,b⟩
  ·show RelV (kV kv.1) e.key
   rw[a,b];exact⟨t,rfl⟩
  ·show RelV (kV kv.1) e.key
   rw[a,b];exact⟨t,rfl⟩
theorem zkI:∀{kvs:List (Key×V)} {vs:List (Key×Value)},KV kvs vs->kvs.map (·.1)=vs.map (·.1)
 |_,_, .nil=>rfl
 |_,_, .cons h t=>by rw[E2,E2,h.1,zkI t]
noncomputable def phB(ws ms:List Str)(to:Option Str)(w:Str)(x:D):Bool:=
 if w="by"then (match x with| .str y=>ws.any λz=>decide (z=y)|_=>false)
 else if w="from"then (match x with| .str y=>decide (ws[1]?=some y)|_=>false)
 else if w="to"then (match x with| .str y=>decide (to=some y)|_=>false)
 else if w="mark"then (match x with| .str y=>ms.any λz=>decide (z=y)|_=>false)
 else(match x with| .int i=>decide (i<(ws.length:Int))|_=>false)
noncomputable def zgL(ws ms:List Str)(to:Option Str):D->Bool| .tup [.str w,x]=>phB ws ms to w x|_=>false
noncomputable def zdX(ws ms:List Str)(to:Option Str):D->Bool| .tup [.str w,x]=>if w="not"then !zgL ws ms to x else phB ws ms to w x|_=>false
def TO0(v:V)(to:Option Str):Prop:=(v= .non/\to=none)\/∃x,v= .str x/\to=some x/\zm x=true
theorem zbh{e:D}(h:zE (.tup [.str x,e])=true):(x="long"/\∃i:Int,e= .int i/\0<=i/\i<=99)\/(x∈zbA/\∃y,e= .str y/\zm y=true):=by
 rw[zcV] at h
 by_cases z:x="long"
 ·rw[R0 z] at h
  cases e with
  |int i=>
   have h:(decide (0<=i)&&decide (i<=99))=true:=h
   rw[X0,J2,J2] at h
   exact .inl ⟨z,i,rfl,h.1,h.2⟩
  |_=>cases h
 ·rw[N0 z,X0] at h
  obtain⟨h1,h2⟩:=h
  obtain⟨y,hy,ey⟩:=List.any_eq_true.mp h1
  have ey:y=x:=O0 ey
  subst ey
  cases e with
  |str y'=>exact .inr ⟨hy,y',rfl,h2⟩
  |_=>cases h2
theorem zf3(h:x∈zbA):x="by"\/x="from"\/x="to"\/x="mark":=by
 unfold zbA at h
 simpa using h
theorem zwN{to:Option Str}:phB ws ms to "by" (.str y)=ws.any λz=>decide (z=y):=by
 unfold phB;rw[R0 rfl]
theorem zs7{to:Option Str}:phB ws ms to "from" (.str y)=decide (ws[1]?=some y):=by
 unfold phB;rw[N0 `Y3,R0 rfl]
theorem zwt{to:Option Str}:phB ws ms to "to" (.str y)=decide (to=some y):=by
 unfold phB;rw[N0 `Y3,N0 `Y3,R0 rfl]
theorem ztG{to:Option Str}:phB ws ms to "mark" (.str y)=ms.any λz=>decide (z=y):=by
 unfold phB;rw[N0 `Y3,N0 `Y3,N0 `Y3,R0 rfl]
theorem zuc{to:Option Str}{i:Int}:phB ws ms to "long" (.int i)=decide (i<(ws.length:Int)):=by
 unfold phB;rw[N0 `Y3,N0 `Y3,N0 `Y3,N0 `Y3]
theorem TO0.eq{to:Option Str}(h:TO0 v to):zvg v (.str y)=true/\decide (v= .str y)=decide (to=some y):=by
 rcases h with⟨rfl,rfl⟩|⟨x,rfl,rfl,_⟩
 ·exact ⟨rfl,rfl⟩
 ·refine ⟨rfl,?_⟩
  rw[zav,B3,J2,J2,Option.some.injEq]
theorem zmT{p:Addr}{xs:List Str}(e:H p=some (.tup (xs.map V.str)))(h:∀x∈xs,PyData.strOk x=true):Tr H (.ref p) (.tuple (zI xs)):=by
 refine .tup e (by unfold zI;rw[D0,D0]) λi v d e1 e2=>?_
 unfold zI at e2
 rw[V0] at e1 e2
 cases e3:xs[i]? with
 |none=>rw[e3] at e1;cases e1
 |some x=>
  rw[e3] at e1 e2
  cases e1
  cases e2
  exact .str x (h x (Z0 e3))
theorem zfd{xs ys:List Str}:(PyData.tuple (zI xs)).eqv (.tuple (zI ys))=decide (xs=ys):=by
 rw[PyData.eqv,zg9]
theorem zhb{xs:List Str}:(PyData.tuple (zI xs)).depth<=60:=by
 have:=zb8 (xs:=xs)
 rw[PyData.depth]
 lia
noncomputable def zf4(c:D->Bool)(g:List Str->List Str->Option Str->D->Bool):Sp:=λvs H Q _=>∃(v:V) (d:D) (pw pm:Addr) (vt:V) (ws ms:List Str) (to:Option Str),vs=[v, .ref pw, .ref pm,vt]/\Rep H v d/\c d=true/\H pw=some (.tup (ws.map V.str))/\H pm=some (.tup (ms.map V.str))/\TO0 vt to/\(∀x∈ws,zm x=true)/\(∀x∈ms,zm x=true)/\1<=ws.length/\ws.length<=100/\ms.length<=100/\∀H',Same H H'->Q (.bl (g ws ms to d)) H'
theorem zih{c:D}(h:zad c=true):∃cs,c= .tup cs/\cs.length<=4/\∀d∈cs,zD d=true:=by
 cases c with
 |tup cs=>
  rw[zeO,X0] at h
  exact⟨cs,rfl,O0 h.1,N2.mp h.2⟩
 |_=>cases h
theorem znO{f:D->D->Bool}(h:(match d with| .tup [c,x]=>f c x|_=>false)=true):∃c x,d= .tup [c,x]/\f c x=true:=by
 split at h
 ·exact ⟨_,_,rfl,h⟩
 ·cases h
theorem zkb(h:zC d=true):∃cs x,d= .tup [.tup cs,x]/\cs.length<=4/\(∀c∈cs,zD c=true)/\(x= .non\/∃i,x= .int i):=by
 unfold zC at h
 obtain⟨c,x,rfl,h⟩:=znO (f:=λc x=>zad c&&za6 x&&!zd3 c) h
 rw[X0,X0] at h
 obtain⟨cs,rfl,h4,hc⟩:=zih h.1.1
 refine⟨cs,x,rfl,h4,hc,?_⟩
 have hx:=h.1.2
 cases x with
 |non=>exact .inl rfl
 |int i=>exact .inr ⟨i,rfl⟩
 |_=>cases hx
theorem znc{x:D}(h:za1 x=true):(x= .tup [.str "keep"])\/∃w y,x= .tup [.str w, .str y]/\(w="put"\/w="strike")/\zm y=true:=by
 unfold za1 at h
 split at h
 ·rename_i w
  exact .inl (by rw[O0 h])
 ·rename_i w y
  rw[X0,Bool.or_eq_true] at h
  have h2:=h.2
  cases y with
  |str y=>exact .inr ⟨w,y,rfl,h.1.imp O0 O0,h2⟩
  |_=>cases h2
 ·cases h
theorem zkr(h:zal d=true):∃cs x,d= .tup [.tup cs,x]/\cs.length<=4/\(∀c∈cs,zD c=true)/\za1 x=true:=by
 unfold zal at h
 obtain⟨c,x,rfl,h⟩:=znO (f:=λc x=>zad c&&za1 x) h
 rw[X0] at h
 obtain⟨cs,rfl,h4,hc⟩:=zih h.1
 exact⟨cs,x,rfl,h4,hc,h.2⟩
theorem zpl{t:D}(h:zic O (.tup [.tup cs,t])=true):(∀c∈cs,zbP O c=true)/\zaf O t=true:=by
 have h:(cs.all (zbP O)&&zaf O t)=true:=h
 rw[X0] at h
 exact⟨N2.mp h.1,h.2⟩
section
variable{es:List D}{k:Nat}
theorem zqC{g:D->Bool}(es:List D)(h:znb ta σ H es)(ge:∀d∈es,g d=false)(q:∀l H2,Same H H2->H l=none->BadL g H2 l es.length->tb De (σ.set k (some (.ref l))) H2)(hm:es.length<=900):zpn (zja (znG ta) (zbH k)) tb De σ H:=by
 refine h H _ (Same.refl H) λus H2 s2 r2=>⟨P2 (zp (by rw[r2.1];lia)),λp hp=>?_⟩
 have S:=s2.trans (Same.new (o:= .lst us) hp)
 exact q p _ S (zbK s2 hp) ⟨us,es,zc,r2.mono (.new hp),S0 _,ge⟩
end
theorem zg4:∀{vs:List Value} {ys:List Str},StrsAre vs ys->vs.length=ys.length/\∀(i:Nat) (y:Str),ys[i]?=some y->∃t,vs[i]?=some (.str y t)
 |_,_, .nil=>⟨rfl,λi y h=>by simp at h⟩
 |_,_, .cons y t r=>by
  obtain⟨h1,h2⟩:=zg4 r
  refine⟨by simp[h1],λi z h=>?_⟩
  cases i with
  |zero=>cases h;exact⟨t,rfl⟩
  |succ i=>exact h2 i z h
theorem index_tup{t:Addr}{ys:List Str}{tk:Tok}(ht:IsTup s.heap t items)(hS:StrsAre items.toList ys)(hj:ys[j]?=some x)(hb:∀i<j,ys[i]?≠some x)
 (h:∀(t':Tok) (k:Nat),Q (.int j t') {s with toks:=k}):wpAny (model prog w) A (call (.builtin "tuple.index") [.ref t, .str x tk]) Q E s:=by
 refine J3 F.slot_tuple_index ht.typeIs F.entry_tuple_index ?_ (F.args_tuple_index_2 _ _)
 unfold Builtin.«tuple.index»
 refine C0 (m:=selfAndSome "tuple.index" "index" 1 3 _) (K0 ?_)
 dsimp only
 refine C0 (tupleItemsOf_ ht ?_)
 refine C0 (K0 ?_)
 refine C0 (K0 ?_)
 obtain⟨hl,hg⟩:=zg4 hS
 have hjn:j<items.size:=by
  rw[←Array.length_toList,hl]
  rcases D2 j ys.length with z|z
  ·exact z
  ·rw[W0 z] at hj;cases hj
 rw[Std.Legacy.Range.forIn_eq_forIn_range']
 refine C0 (wpAny_forIn_list _ (λl b s'=>∃i,l=List.range' i (items.size -i) 1/\i<=j/\b=(none,Unit.unit)/\s'=s) _ ?_ ?_ _ _ ?_)
 ·rintro a rest b s' ⟨i,el,hij,rfl,rfl⟩
  obtain⟨m,em⟩:∃m,items.size -i=m+1:=⟨items.size -i -1,()⟩
  rw[em,List.range'_succ] at el
  have ea:=(List.cons.inj el).1
  have er:=(List.cons.inj el).2
  subst er
  rw[ea]
  have hiy:i<ys.length:=by rw[←hl,Array.length_toList];lia
  obtain⟨t1,e1⟩:=hg i ys[i] (by simp[hiy])
  have e2:items[i]?=some (.str ys[i] t1):=by rw[←Array.getElem?_toList];exact e1
  rw[e2]
  dsimp only
  refine C0 (wpAny_eqBool_str ?_)
  rcases D2 i j with z|z
  ·have ne:¬ys[i]=x:=λy=>hb i z (by rw[←y];simp[hiy])
   rw[U0 ne]
   exact K0 ⟨i+1,by rw[show items.size -(i+1)=m by lia],(),rfl,rfl⟩
  ·have ei:i=j:=()
   subst ei
   have ey:ys[i]=x:=by
    have:ys[i]?=some ys[i]:=by simp[hiy]
    rw[this] at hj;exact U1 hj
   rw[P0 ey]
   refine C0 (m:=retInt _) (C0 (wpAny_mkInt (K0 (K0 ?_))))
   exact K0 ⟨_,rfl,h _ _⟩
 ·rintro b s' ⟨i,el,hij,rfl,rfl⟩
  have:=E3 List.length el
  rw[List.length_range',List.length_nil] at this
  lia
 ·exact ⟨0,by simp[Std.Legacy.Range.size],Z1 _,rfl,rfl⟩
def zuk(K:W.Frag):V->List V->Hp->VK->Prop:=λx vs H Q=>∃(p:Addr) (ys:List Str) (y:Str) (j:Nat),x= .ref p/\vs=[.str y]/\SqT K H p (ys.map V.str)/\ys[j]?=some y/\(∀i<j,ys[i]?≠some y)/\Q (.int (j:Int)) H
theorem ze7:MtR X "tuple.index" (zuk X.K):=by
 intro pins s σ H x xs v us Q I rx rs h
 obtain⟨p,ys,y,j,rfl,rfl,hq,hj,hb,q⟩:=h
 cases rx
 obtain⟨u,rfl,ru⟩:=zdM rs
 obtain⟨t,rfl⟩:=ru
 obtain⟨its,rv,pl,hz⟩:=I.tuple hq
 exact index_tup pl (by simpa using zbU rv) hj hb λt' k=>⟨.int _,H,I.tok _,⟨_,rfl⟩,q⟩
theorem zsx(nd:hs.Nodup)(h1:hs[i]?=some x)(h2:hs[j]?=some x):i=j:=by
 have lt:∀{k:Nat},hs[k]?=some x->k<hs.length:=λ{k} z=>by
  rcases D2 k hs.length with y|y
  ·exact y
  ·rw[W0 y] at z;cases z
 have l1:=lt h1
 have l2:=lt h2
 rw[F0 l1] at h1
 rw[F0 l2] at h2
 have e:hs[i]=hs[j]:=(U1 h1).trans (U1 h2).symm
 have pw:=List.pairwise_iff_getElem.mp nd
 rcases Nat.lt_trichotomy i j with z|z|z
 ·exact absurd e (pw i j l1 l2 z)
 ·exact z
 ·exact absurd e.symm (pw j i l2 l1 z)
theorem zgb(nd:hs.Nodup)(h:hs[j]?=some x):∀i<j,hs[i]?≠some x:=λi hi z=>by
 have:=zsx nd z h
 lia
noncomputable def zgQ(ws ms:List Str)(to:Option Str)(cs:List D):Bool:=cs.all (zdX ws ms to)
noncomputable def zjC:D->List D| .tup [.tup cs,_]=>cs|_=> []
noncomputable def zrz:D->D| .tup [_,t]=>t|_=> .non
noncomputable def zW(ws ms:List Str):List D->D
 |[]=> .int 0
 |r::rs=>if zgQ ws ms none (zjC r)=true then zrz r else zW ws ms rs
noncomputable def znJ:Sp:=λvs H Q _=>∃(v:V) (cs:List D) (pw pm:Addr) (vt:V) (ws ms:List Str) (to:Option Str),vs=[v, .ref pw, .ref pm,vt]/\Rep H v (.tup cs)/\(∀c∈cs,zD c=true)/\H pw=some (.tup (ws.map V.str))/\H pm=some (.tup (ms.map V.str))/\TO0 vt to/\(∀x∈ws,zm x=true)/\(∀x∈ms,zm x=true)/\1<=ws.length/\ws.length<=100/\ms.length<=100/\∀H',Same H H'->Q (.bl (zgQ ws ms to cs)) H'
noncomputable def zv9:Sp:=λvs H Q _=>∃(v:V) (x:Str) (g:Str) (hs:List Str) (ps:List (Str×Str)) (lks hds:List D) (j:Nat),vs=[v, .str x]/\Rep H v (zag g hs ps lks hds)/\TownOk g hs ps lks hds/\hs[j]?=some x/\∀(vr:V) (d:D),lks[j]?=some d->Rep H vr d->Q vr H
noncomputable def zks:Sp:=λvs H Q _=>∃(v:V) (pw pm:Addr) (x:Str) (ws ms:List Str) (g:Str) (hs:List Str) (ps:List (Str×Str)) (lks hds:List D) (j:Nat) (rs:List D),vs=[v, .ref pw, .ref pm]/\Rep H v (zag g hs ps lks hds)/\TownOk g hs ps lks hds/\hs[j]?=some x/\lks[j]?=some (.tup rs)/\H pw=some (.tup ((x::ws).map V.str))/\H pm=some (.tup (ms.map V.str))/\(∀y∈x::ws,zm y=true)/\(∀y∈ms,zm y=true)/\ws.length<=90/\ms.length<=100/\∀(u:V) (H':Hp),Rep H' u (zW (x::ws) ms rs)->Same H H'->Q u H'
theorem zvY(T:TownOk g hs ps lks hds)(h:x∈hs):∃(j:Nat) (rs:List D),hs[j]?=some x/\lks[j]?=some (.tup rs)/\rs.length<=90/\∀r∈rs,zC r=true:=by
 obtain⟨j,hj,e⟩:=F2 h
 have hl:j<lks.length:=by rw[T.ll];exact hj
 have hlk:=T.likes lks[j] (List.getElem_mem hl)
 cases hd:lks[j] with
 |tup rs=>
  rw[hd] at hlk
  have h:(decide (rs.length<=90)&&rs.all zC)=true:=hlk
  rw[X0] at h
  exact⟨j,rs,by rw[F0 hj,e],by rw[F0 hl,hd],O0 h.1,N2.mp h.2⟩
 |_=>rw[hd] at hlk;cases hlk
theorem zoA{rs:List α}{d:α}(h:rs[i]?=some d):rs.drop i=d::rs.drop (i+1):=by
 have hi:i<rs.length:=by
  rcases D2 i rs.length with y|y
  ·exact y
  ·rw[W0 y] at h;cases h
 rw[List.drop_eq_getElem_cons hi]
 rw[F0 hi] at h
 rw[U1 h]
mutual
noncomputable def okD:D->Bool
 | .str x=>PyData.strOk x
 | .tup ds=>okL ds
 | .oth=>false
 | .non=>true
 | .bl _=>true
 | .int _=>true
noncomputable def okL:List D->Bool
 |[]=>true
 |d::ds=>okD d&&okL ds
end
mutual
noncomputable def pyD:D->PyData
 | .non=> .none
 | .bl b=> .bool b
 | .int i=> .int i
 | .str x=> .str x
 | .tup ds=> .tuple (pyL ds)
 | .oth=> .none
noncomputable def pyL:List D->List PyData
 |[]=> []
 |d::ds=>pyD d::pyL ds
end
theorem zhu:∀{ds:List D},pyL ds=ds.map pyD
 |[]=>by rw[pyL];rfl
 |d::ds=>by rw[pyL,E2,zhu]
theorem zom:∀{ds:List D},okL ds=true->∀d∈ds,okD d=true
 |[],_,_,z=>nomatch z
 |d::ds,h,e,he=>by
  rw[okL,X0] at h
  rcases D1.mp he with rfl|he
  ·exact h.1
  ·exact zom h.2 e he
theorem zqK:∀{ds:List D},(∀d∈ds,okD d=true)->okL ds=true
 |[],_=>by rw[okL]
 |d::ds,h=>by rw[okL,h d N1,zqK λe he=>h e (F1 _ he)];rfl
noncomputable def leS(a b:Str):Bool:=!ltS b a
noncomputable def srt(l:List Str):List Str:=l.mergeSort leS
theorem zr8(a b c:Str)(h1:leS a b=true)(h2:leS b c=true):leS a c=true:=by
 unfold leS at *
 rw[Bool.not_eq_true'] at *
 cases h:ltS c a with
 |false=>rfl
 |true=>
  by_cases e:a=b
  ·subst e;rw[h] at h2;cases h2
  ·have ab:ltS a b=true:=zei (λz=>e z.symm) h1
   have:=ziu h ab
   rw[this] at h2;cases h2
theorem zs5(a b:Str):(leS a b||leS b a)=true:=by
 unfold leS
 cases h:ltS b a with
 |false=>rfl
 |true=>rw[zhC h];rfl
theorem zc4(l:List Str):(srt l).Perm l:=List.mergeSort_perm l leS
noncomputable def zaE(t:List Str)(w m:Str):List Str:=t.filter (λx=>!decide (x=m))++(if w="put"then [m] else [])
theorem zpC{w m:Str}(nd:t.Nodup):(zaE t w m).Nodup:=by
 unfold zaE
 rw[List.nodup_append]
 refine⟨nd.filter _,?_,?_⟩
 ·split<;>simp
 ·intro a ha b hb e
  split at hb
  ·rw[C2.mp hb] at e
   have:=(Y2.mp ha).2
   rw[e] at this
   simp at this
  ·cases hb
theorem zpA{w m:Str}(h:∀x∈t,x∈O)(hm:m∈O):∀x∈zaE t w m,x∈O:=by
 unfold zaE
 refine List.forall_mem_append.mpr ⟨λx hx=>h x (Y2.mp hx).1,λx hx=>?_⟩
 split at hx
 ·rw[C2.mp hx];exact hm
 ·cases hx
noncomputable def zdJ(t:List Str)(w m:Str):List Str:=srt (zaE t w m)
structure Mk0(O t:List Str):Prop where
 nd:t.Nodup
 mem:∀x∈t,x∈O
theorem Mk0.next{w m:Str}(h:Mk0 O t)(hm:m∈O):Mk0 O (zdJ t w m) where
 nd:=(zc4 _).nodup_iff.mpr (zpC h.nd)
 mem:=λx hx=>zpA h.mem hm x ((zc4 _).mem_iff.mp hx)
theorem Mk0.len(h:Mk0 O t)(hO:O.length<=14):t.length<=14:=Y1 (zcT h.nd h.mem) hO
noncomputable def zP(ws:List Str)(to:Option Str):List D->List Str->Option (List Str)
 |[],t=>some t
 |r::rs,t=>if zgQ ws t to (zjC r)=true then(match zrz r with| .tup [.str w, .str m]=>zP ws to rs (zdJ t w m)|_=>none)else zP ws to rs t
def zsL(O:List Str)(rs:List D):Prop:=rs.length<=90/\∀r∈rs,∃cs x,r= .tup [.tup cs,x]/\(∀c∈cs,zD c=true)/\(x= .tup [.str "keep"]\/∃w m,x= .tup [.str w, .str m]/\(w="put"\/w="strike")/\m∈O)
theorem zpQ(h:z7 d=true)(hi:zcB O d=true):∃rs,d= .tup rs/\zsL O rs:=by
 cases d with
 |tup rs=>
  have h:(decide (rs.length<=90)&&rs.all zal)=true:=h
  rw[X0] at h
  refine⟨rs,rfl,O0 h.1,λr hr=>?_⟩
  obtain⟨cs,x,rfl,h4,hc,hx⟩:=zkr (N2.mp h.2 r hr)
  obtain⟨h1,h2⟩:=zpl (N2.mp hi _ hr)
  refine⟨cs,x,rfl,hc,?_⟩
  rcases znc hx with rfl|⟨w,y,rfl,hw,_⟩
  ·exact .inl rfl
  ·exact .inr ⟨w,y,rfl,hw,O0 h2⟩
 |_=>cases h
def zwC(H:Hp)(u:V):Option (List Str)->Prop
 |none=>u= .non
 |some t=>∃p,u= .ref p/\H p=some (.tup (t.map V.str))
noncomputable def zwa:Sp:=λvs H Q _=>∃(v:V) (x:Str) (g:Str) (hs:List Str) (ps:List (Str×Str)) (lks hds:List D) (j:Nat),vs=[v, .str x]/\Rep H v (zag g hs ps lks hds)/\TownOk g hs ps lks hds/\hs[j]?=some x/\∀(vr:V) (d:D),hds[j]?=some d->Rep H vr d->Q vr H
theorem zrf(T:TownOk g hs ps lks hds)(h:x∈hs):∃(j:Nat) (d:D),hs[j]?=some x/\hds[j]?=some d/\d∈hds:=by
 obtain⟨j,hj,e⟩:=F2 h
 have hl:j<hds.length:=by rw[T.lh];exact hj
 exact⟨j,hds[j],by rw[F0 hj,e],F0 hl,List.getElem_mem hl⟩
noncomputable def neD(m:Str):D->Bool| .str z=>!decide (z=m)|_=>false
theorem zuX{m:Str}:((t.map D.str).filter (neD m)).map (λd=>d)=(t.filter λx=>!decide (x=m)).map D.str:=by
 rw[List.map_id',List.filter_map];rfl
section
open PySem.W
section
open PySem.SeqAt
open PySem.AutoSeq1 (wpAny_loadPart')
open PySem.MeetsSeq PySem.MeetsSeq2 PySem.MeetsSeq3
theorem zef(l b:Addr)(n n2:Nat)(dd dd2:Option Addr)(sl sl2:Array (Option Value))(xs ys:List Value)(k:Nat)(res:Bool):
 Meets (Builtin.«tuple.__lt__» ⟨[.ref l, .ref b],[]⟩) (λA R s=>s.heap.get? l=some {cls:= .type "tuple",dict:=dd,data:= .seq xs.toArray n,slots:=sl}/\s.heap.get? b=some {cls:= .type "tuple",dict:=dd2,data:= .seq ys.toArray n2,slots:=sl2}/\
  (∀prog w i x y,i<k->xs[i]?=some x->ys[i]?=some y->∀(E:Value->Shared->Prop) (Q:Bool->Shared->Prop),Q true s->wpAny (model prog w) A.in1 (eqBool x y) Q E s)/\k<=xs.length/\k<=ys.length/\
  ((k=min xs.length ys.length/\res=decide (xs.length<ys.length))\/∃x y,xs[k]?=some x/\ys[k]?=some y/\(∀prog w (E:Value->Shared->Prop) (Q:Bool->Shared->Prop),Q false s->wpAny (model prog w) A.in1 (eqBool x y) Q E s)/\∀prog w (E:Value->Shared->Prop) (Q:Value->Shared->Prop),Q (.bool res) s->wpAny (model prog w) A.in1 (richCompare .Lt x y) Q E s)/\
  R (.ok (.ret (.bool res))) s):=
 .of_wp λprog w A R s h=>by
  obtain⟨hp,g,d,tk,os⟩:=s
  obtain⟨hl,hb,he,k1,k2,hk,h⟩:=h
  have f2:=AutoSeq1.sub_tuple_tuple
  wp_walk using wpAny_loadPart' hl,wpAny_loadPart' hb,wpAny_forIn_list _ (λrest b s'=>b.1=none/\s'=⟨hp,g,d,tk,os⟩/\∃i,i<=k/\rest=(xs.zip ys).drop i) _
  case turn=>
   rintro⟨p,q⟩ rest b s' ⟨hb',rfl,i,hi,hr⟩
   have hx:(xs.zip ys)[i]?=some (p,q):=by
    have:=E3 (λl=>l[0]?) hr
    simpa[List.getElem?_drop] using this.symm
   rw[List.getElem?_zip_eq_some] at hx
   have hr2:rest=(xs.zip ys).drop (i+1):=by
    have:=E3 List.tail hr
    simpa using this
   rcases D2 i k with z|z
   ·refine C0 (he prog w i p q z hx.1 hx.2 _ _ ?_)
    wp_walk
    exact⟨rfl,rfl,i+1,z,hr2⟩
   ·have ei:i=k:=()
    subst ei
    rcases hk with⟨hm,_⟩|⟨x,y,ex,ey,f1,f3⟩
    ·have h1:i<xs.length:=by
      rcases D2 i xs.length with y|y
      ·exact y
      ·rw[W0 y] at hx;cases hx.1
     have h2:i<ys.length:=by
      rcases D2 i ys.length with y|y
      ·exact y
      ·rw[W0 y] at hx;cases hx.2
     lia
    ·rw[hx.1] at ex
     rw[hx.2] at ey
     cases ex
     cases ey
     refine C0 (f1 prog w _ _ ?_)
     have c1:=f3 prog w
     wp_walk using c1
     exact⟨_,rfl,h⟩
  case fin=>
   rintro⟨b1,b2⟩ s' ⟨hb',rfl,i,hi,hr⟩
   simp only at hb'
   subst hb'
   have hlen:(xs.zip ys).length<=i:=by
    have:=E3 List.length hr
    rw[List.length_nil,List.length_drop] at this
    lia
   rw[List.length_zip] at hlen
   rcases hk with⟨hm,hres⟩|⟨x,y,ex,ey,_⟩
   ·wp_walk
    rw[hres] at h
    exact⟨_,rfl,h⟩
   ·have h1:k<xs.length:=by
     rcases D2 k xs.length with y|y
     ·exact y
     ·rw[W0 y] at ex;cases ex
    have h2:k<ys.length:=by
     rcases D2 k ys.length with z|z
     ·exact z
     ·rw[W0 z] at ey;cases ey
    lia
  case h=>
   exact⟨rfl,rfl,0,Z1 _,`Z3⟩
end
noncomputable def ltL:List Str->List Str->Bool
 |[],[]=>false
 |[],_::_=>true
 |_::_,[]=>false
 |x::xs,y::ys=>if x=y then ltL xs ys else ltS x y
theorem zqL:∀(ps qs:List Str),∃k,k<=ps.length/\k<=qs.length/\(∀i<k,ps[i]?=qs[i]?)/\((k=min ps.length qs.length/\ltL ps qs=decide (ps.length<qs.length))\/∃x y,ps[k]?=some x/\qs[k]?=some y/\x≠y/\ltL ps qs=ltS x y)
 |[],[]=>⟨0,S0 _,S0 _,λi z=>absurd z (Nat.not_lt_zero _), .inl ⟨rfl,rfl⟩⟩
 |[],q::qs=>⟨0,S0 _,Z1 _,λi z=>absurd z (Nat.not_lt_zero _), .inl ⟨`Z3,by rw[ltL];simp⟩⟩
 |p::ps,[]=>⟨0,Z1 _,S0 _,λi z=>absurd z (Nat.not_lt_zero _), .inl ⟨`Z3,by rw[ltL];simp⟩⟩
 |p::ps,q::qs=>by
  by_cases e:p=q
  ·subst e
   obtain⟨k,k1,k2,he,hk⟩:=zqL ps qs
   refine⟨k+1,by simp;lia,by simp;lia,λi hi=>?_,?_⟩
   ·cases i with
    |zero=>rfl
    |succ i=>exact he i ()
   ·rw[ltL,R0 rfl]
    rcases hk with⟨h1,h2⟩|⟨x,y,h1,h2,h3,h4⟩
    ·exact .inl ⟨by simp;lia,by rw[h2];simp⟩
    ·exact .inr ⟨x,y,by simpa using h1,by simpa using h2,h3,h4⟩
  ·exact ⟨0,Z1 _,Z1 _,λi z=>absurd z (Nat.not_lt_zero _), .inr ⟨p,q,rfl,rfl,e,by rw[ltL,N0 e]⟩⟩
theorem zgn{ps:List Str}(r:Vals (ps.map V.str) its){v:Value}(h:its[i]?=some v):∃p t,ps[i]?=some p/\v= .str p t:=by
 have hi:i<its.length:=by
  rcases D2 i its.length with z|z
  ·exact z
  ·rw[W0 z] at h;cases h
 have hp:i<ps.length:=by have:=r.length;rw[D0] at this;lia
 obtain⟨u,hu,ru⟩:=r.get (i:=i) (x:= .str ps[i]) (by rw[V0,F0 hp];rfl)
 rw[hu] at h
 cases h
 obtain⟨t,rfl⟩:=ru
 exact⟨ps[i],t,F0 hp,rfl⟩
theorem zmG{ps:List Str}(r:Vals (ps.map V.str) its):its.length=ps.length:=by have:=r.length;rw[D0] at this;exact this.symm
theorem zqJ{b:Addr}{ps qs:List Str}{its2:List Value}(ra:Vals (ps.map V.str) its)(rb:Vals (qs.map V.str) its2)(ha:IsTup s.heap a its.toArray)(hb:IsTup s.heap b its2.toArray)(hu:A.units<cLine)
 (q:Q (.bool (ltL ps qs)) s):wpAny (model prog w) A (richCompare .Lt (.ref a) (.ref b)) Q E s:=by
 obtain⟨⟨c1,d1,e1,f1⟩,ho,hc,n,hd⟩:=id ha
 obtain⟨⟨c2,d2,e2,f2⟩,ho2,hc2,n2,hd2⟩:=id hb
 simp only at hc hd hc2 hd2
 subst hc hd hc2 hd2
 obtain⟨k,k1,k2,he,hk⟩:=zqL ps qs
 have l1:=zmG ra
 have l2:=zmG rb
 refine richCompare_meets_room (op:= .Lt) ⟨_,ho,rfl⟩ ⟨_,ho2,rfl⟩ F.slot_tuple_lt F.entry_tuple_lt (F.args_tuple_lt_2 _ _) (zef a b n n2 d1 d2 f1 f2 its its2 k (ltL ps qs)) ⟨ho,ho2,?_,(),(),?_,?_⟩ hu
 ·intro prog w i x y hi hx hy E Q hq
  obtain⟨p,t,hp,rfl⟩:=zgn ra hx
  obtain⟨q',t',hp',rfl⟩:=zgn rb hy
  have e:p=q':=by
   have:=he i hi
   rw[hp,hp'] at this;exact U1 this
  refine wpAny_eqBool_str ?_
  rw[P0 e];exact hq
 ·rcases hk with⟨h1,h2⟩|⟨x,y,h1,h2,h3,h4⟩
  ·exact .inl ⟨(),by rw[h2,l1,l2]⟩
  ·have hx:k<its.length:=by
    rw[l1]
    rcases D2 k ps.length with z|z
    ·exact z
    ·rw[W0 z] at h1;cases h1
   have hy:k<its2.length:=by
    rw[l2]
    rcases D2 k qs.length with z|z
    ·exact z
    ·rw[W0 z] at h2;cases h2
   obtain⟨p,t,hp,e1⟩:=zgn ra (F0 hx)
   obtain⟨q',t',hp',e2⟩:=zgn rb (F0 hy)
   rw[h1] at hp
   rw[h2] at hp'
   cases hp
   cases hp'
   refine .inr ⟨_,_,F0 hx,F0 hy,λprog w E Q hq=>?_,λprog w E Q hq=>?_⟩
   ·rw[e1,e2]
    refine wpAny_eqBool_str ?_
    rw[U0 h3];exact hq
   ·rw[e1,e2]
    rw[h4] at hq
    exact(PyProof.Rows.lt_str hq:wpAny (model prog w) A.in1 (compareOp .Lt (.str x t) (.str y t')) Q E s)
 ·exact ⟨(λx=>nomatch x),q⟩
noncomputable def ltK(k1 k2:Int×Int×List Str):Bool:=if k1.1=k2.1 then(if k1.2.1=k2.2.1 then ltL k1.2.2 k2.2.2 else decide (k1.2.1<k2.2.1))else decide (k1.1<k2.1)
def zwy(H:Hp)(x:V)(k:Int×Int×List Str):Prop:=∃a p,x= .ref a/\H a=some (.tup [.int k.1, .int k.2.1, .ref p])/\H p=some (.tup (k.2.2.map V.str))/\∀y∈k.2.2,PyData.strOk y=true
theorem zk1:∀(ps:List Str),ltL ps ps=false
 |[]=>rfl
 |p::ps=>by rw[ltL,R0 rfl];exact zk1 ps
theorem zu7{x y z:V}{us:List Value}(r:Vals [x,y,z] us):∃a b c,us=[a,b,c]/\RelV x a/\RelV y b/\RelV z c:=by
 cases r with
 |cons h1 r=>cases r with
  |cons h2 r=>cases r with
   |cons h3 r=>
    cases r
    exact⟨_,_,_,rfl,h1,h2,h3⟩
end
noncomputable def zuI:Sp:=λvs H Q _=>∃(v:V) (pw pm:Addr) (x:Str) (ws ms:List Str) (g:Str) (hs:List Str) (ps:List (Str×Str)) (lks hds:List D) (j:Nat) (rs:List D) (i:Int),vs=[v, .ref pw, .ref pm]/\Rep H v (zag g hs ps lks hds)/\TownOk g hs ps lks hds/\hs[j]?=some x/\lks[j]?=some (.tup rs)/\H pw=some (.tup ((x::ws).map V.str))/\H pm=some (.tup (ms.map V.str))/\(∀y∈x::ws,zm y=true)/\(∀y∈ms,zm y=true)/\ws.length<=90/\ms.length<=100/\zW (x::ws) ms rs= .int i/\∀(u:V) (H':Hp),zwy H' u (-i,((x::ws).length:Int),x::ws)->Same H H'->Q u H'
section
variable{e st:Expr}{ts:TE}{p1 p2:Pos}{tk:Tok}
end
section
variable{es:List D}
end
noncomputable def putAt(ds:List D)(j:Nat)(d:D):List D:=ds.take j ++ [d]++ds.drop (j+1)
theorem ze4(h:j<ds.length):(putAt ds j d).length=ds.length:=by
 unfold putAt
 rw[b0,b0,P1,List.length_singleton,List.length_drop];lia
theorem zlA(h:j<ds.length):(putAt ds j d)[j]?=some d:=by
 unfold putAt
 have hl:(ds.take j).length=j:=by rw[P1];lia
 rw[List.append_assoc,W2 (),hl]
 simp
theorem zgU{e:D}(h:e∈putAt ds j d):e=d\/e∈ds:=by
 unfold putAt at h
 rw[Q2,Q2] at h
 rcases h with(h|h)|h
 ·exact .inr (List.mem_of_mem_take h)
 ·exact .inl (C2.mp h)
 ·exact .inr (List.mem_of_mem_drop h)
noncomputable def Itd(d:Addr)(o:Obj)(u:HO)(ks:List V):It:=⟨λi H=>i<ks.length/\H d=some (.frz o u),λi H x H'=>H'=H/\ks[i]?=some x,λi H=>ks.length<=i/\H d=some (.frz o u)⟩
theorem zuC{d:Addr}{o:Obj}{u:HO}{ks:List V}:Wk (Itd d o u ks) ks.length (λi x=>ks[i]?=some x) (λH=>H d=some (.frz o u)) where
 stop:=λi H h l=>⟨l,h⟩
 go:=λi H h l=>⟨l,h⟩
 yld:=λi H x H' h l y=>y
section
variable{e i o:Expr}{td ty:TE}{p1 p2:Pos}{tk:Tok}
theorem zlh(hu:X.A.units+1<cLine)(ho:QE X o td)(hi:QE X i ty)(hs:autoParam (zvK i) u7):QE X (.Subscript o i pos) (zuJ td ty):=⟨ztE hu ho.o hi.o hs⟩
end
theorem zqG:∀{ps qs rs:List Str},ltL ps qs=true->ltL qs rs=true->ltL ps rs=true
 |[],[],_,h,_=>by rw[ltL] at h;cases h
 |_::_,[],_,h,_=>by rw[ltL] at h;cases h
 |_,_::_,[],_,h=>by rw[ltL] at h;cases h
 |[],_::_,_::_,_,_=>by rw[ltL]
 |p::ps,q::qs,r::rs,h1,h2=>by
  rw[ltL] at h1 h2⊢
  by_cases z:p=q
  ·subst z
   rw[R0 rfl] at h1
   by_cases y:p=r
   ·subst y
    rw[R0 rfl] at h2⊢
    exact zqG h1 h2
   ·rw[N0 y] at h2⊢
    exact h2
  ·rw[N0 z] at h1
   by_cases y:q=r
   ·subst y
    rw[N0 z];exact h1
   ·rw[N0 y] at h2
    have h3:=ziu h1 h2
    rw[N0 (znn h3)]
    exact h3
theorem zt4(k:Int×Int×List Str):ltK k k=false:=by
 unfold ltK
 rw[R0 rfl,R0 rfl];exact zk1 _
theorem zso{k1 k2 k3:Int×Int×List Str}(h1:ltK k1 k2=true)(h2:ltK k2 k3=true):ltK k1 k3=true:=by
 unfold ltK at *
 by_cases z:k1.1=k2.1
 ·rw[R0 z] at h1
  by_cases z2:k2.1=k3.1
  ·rw[R0 z2] at h2
   rw[R0 (z.trans z2)]
   by_cases y:k1.2.1=k2.2.1
   ·rw[R0 y] at h1
    by_cases y2:k2.2.1=k3.2.1
    ·rw[R0 y2] at h2
     rw[R0 (y.trans y2)]
     exact zqG h1 h2
    ·rw[N0 y2] at h2
     rw[N0 (by rw[y];exact y2)]
     have:=O0 h2
     exact P0 ()
   ·rw[N0 y] at h1
    have h1:=O0 h1
    by_cases y2:k2.2.1=k3.2.1
    ·rw[N0 ()]
     exact P0 ()
    ·rw[N0 y2] at h2
     have h2:=O0 h2
     rw[N0 ()]
     exact P0 ()
  ·rw[N0 z2] at h2
   have h2:=O0 h2
   rw[N0 ()]
   exact P0 ()
 ·rw[N0 z] at h1
  have h1:=O0 h1
  by_cases z2:k2.1=k3.1
  ·rw[N0 ()]
   exact P0 ()
  ·rw[N0 z2] at h2
   have h2:=O0 h2
   rw[N0 ()]
   exact P0 ()
theorem zt0{k1 k2:Int×Int×List Str}(h:ltK k1 k2=true):ltK k2 k1=false:=by
 cases e:ltK k2 k1 with
 |false=>rfl
 |true=>have:=zso h e;rw[zt4] at this;cases this
noncomputable abbrev WM:=List Str×List Str
noncomputable def wI(rs:List D)(e:WM):Int:=match zW e.1 e.2 rs with| .int a=>a|_=>0
noncomputable def kE(rs:List D)(e:WM):Int×Int×List Str:=(-(wI rs e),(e.1.length:Int),e.1)
mutual
theorem ztq:∀d:D,(pyD d).eqv (pyD d)=true
 | .non=>by rw[pyD,PyData.eqv]
 | .bl b=>by rw[pyD,PyData.eqv];simp
 | .int i=>by rw[pyD,PyData.eqv];simp
 | .str x=>by rw[pyD,PyData.eqv];simp
 | .tup ds=>by rw[pyD,PyData.eqv];exact zoM ds
 | .oth=>by rw[pyD,PyData.eqv]
theorem zoM:∀ds:List D,PyData.eqvAll (pyL ds) (pyL ds)=true
 |[]=>by rw[pyL,PyData.eqvAll]
 |d::ds=>by rw[pyL,PyData.eqvAll,ztq d,zoM ds];rfl
end
theorem ze1{n:Nat}:∀{xs:List PyData},(∀x∈xs,x.depth<=n)->PyData.depthAll xs<=n
 |[],_=>by rw[PyData.depthAll];exact Z1 _
 |x::xs,h=>by
  rw[PyData.depthAll]
  have h1:=h x N1
  have h2:=ze1 (n:=n) λy hy=>h y (F1 _ hy)
  lia
def SqH(t:Bool)(h:Heap)(a:Addr)(items:Array Value):Prop:=if t then h.IsTuple a items else h.IsList a items
def ItH(t:Bool)(h:Heap)(it a:Addr)(i:Nat):Prop:=if t then h.IsTupleIter it a i else h.IsListIter it a i
structure ZpA(z TI TO i1 i2:Addr):Prop where
 TIz:TI≠z
 TOz:TO≠z
 i1z:i1≠z
 i2z:i2≠z
 TITO:TI≠TO
 TIi1:TI≠i1
 TIi2:TI≠i2
 TOi1:TO≠i1
 TOi2:TO≠i2
 i12:i1≠i2
section
variable{R:Result->Shared->Prop}{it:Value}
end
section
variable{src:List (Option Nat)}{g:TG}
end
def zwQ(v:V)(y:Str):Prop:=v= .str y\/∃i:Int,v= .int i/\y=(toString i:String)/\i.natAbs.log2<1920
section
variable{e:Expr}{ts:List TE}
structure QP1(X:Cx)(e:Expr)(te:TE):Prop where
 o:∀(pins:List (Addr×Obj)) (s:Shared) (σ:St) (H:Hp) (Q:Str->Hp->Prop),Inv X pins σ H s->(te σ H λv H1=>∃y,zwQ v y/\y.length<=sizeLine/\Q y H1)->
  wpAny (model X.prog X.w) X.A (eval e X.env) (λu s1=>∃y t H1,u= .str y t/\Inv X pins σ H1 s1/\Q y H1) X.xe s
inductive QJ(X:Cx):List Expr->List TE->Prop
 |nil:QJ X [] []
 |cons {e:Expr} {t:TE} {es:List Expr} {ts:List TE} (h:QP1 X e t) (r:QJ X es ts):QJ X (e::es) (t::ts)
end
theorem zhE(x y:Str):(x ++y).length=x.length+y.length:=Array.size_append
noncomputable def zwB(i:Int):Str:=(toString i:String)
theorem zua:∀n∈List.range 1999,(zwB ((n:Int) -999)).length<=4:=`Y3
theorem zqu{i:Int}(h1: -999<=i)(h2:i<=999):(zwB i).length<=4:=by
 have:=zua (i+999).toNat (List.mem_range.mpr ())
 rwa[show(((i+999).toNat:Nat):Int) -999=i by lia] at this
theorem zqi{i:Int}(h1: -999<=i)(h2:i<=999):i.natAbs.log2<1920:=by
 have h:i.natAbs<1000:=()
 rcases Nat.eq_zero_or_pos i.natAbs with z|z
 ·rw[z];decide
 ·exact Nat.lt_trans ((Nat.log2_lt ()).mpr (show i.natAbs<2^10 by lia)) ⋯
theorem zwo{sep:Str}{r:List Str}:Str.join sep (x::y::r)=x ++sep ++Str.join sep (y::r):=rfl
theorem zmH{sep:Str}{c m:Nat}(hs:sep.length<=m):∀{xs:List Str},(∀x∈xs,x.length<=c)->(Str.join sep xs).length<=xs.length*(c+m)
 |[],_=>by show(Str.empty).length<=_;exact Z1 _
 |[x],h=>by show x.length<=1*(c+m);have:=h x `Z3;lia
 |x::y::r,h=>by
  rw[zwo,zhE,zhE]
  have h1:=h x `Z3
  have h2:=zmH hs (xs:=y::r) λz hz=>h z (F1 _ hz)
  rw[L1,Nat.add_mul,Nat.one_mul]
  lia
section
variable{K:Type}[DecidableEq K]{knd:KeyKind prog w K}
structure DzAt(h:Heap)(knd:KeyKind prog w K)(t1 t2:Bool)(z TI i1 i2 l1 l2 d:Addr)(xs ys:Array Value)(kvs:List (K×Value))(i:Nat):Prop where
 TI:IsPair h TI (.ref i1) (.ref i2)
 p1:ItH t1 h i1 l1 i
 p2:ItH t2 h i2 l2 i
 q1:SqH t1 h l1 xs
 q2:SqH t2 h l2 ys
 dd:h.DictOf knd d kvs
structure DzD(z TI TO0 i1 i2 l1 l2 d:Addr):Prop extends ZipApart z TI TO0 i1 i2 l1 l2 where
 dz:d≠z
 dTI:d≠TI
 di1:d≠i1
 di2:d≠i2
 dl1:d≠l1
 dl2:d≠l2
 TIl1:True
end
def Shw(c k:Nat)(d:D):Prop:=okD d=true/\(pyD d).showable=true/\(pyD d).depth<=k/\(pyD d).shown.length<=c
theorem Shw.mono{k k':Nat}(h:Shw c k d)(h1:c<=c')(h2:k<=k'):Shw c' k' d:=⟨h.1,h.2.1,Y1 h.2.2.1 h2,Y1 h.2.2.2 h1⟩
theorem zod(h:PyData.strOk x=true)(hl:x.length<=8):Shw 82 1 (.str x):=by
 refine⟨by rw[okD];exact h,by rw[pyD,PyData.showable],by rw[pyD,PyData.depth];lia,?_⟩
 rw[pyD,PyData.shown]
 have hc:∀c∈x.cps.toList,c<16^8:=λc hc=>by
  unfold PyData.strOk at h
  rw[Array.all_eq_true'] at h
  have:=O0 (h c (Array.mem_toList_iff.mp hc))
  lia
 have:=StrLaws.reprText_len x hc
 lia
theorem zol{i:Int}(h1: -999<=i)(h2:i<=999):Shw 82 1 (.int i):=by
 refine⟨by rw[okD],by rw[pyD,PyData.showable];exact P0 (zqi h1 h2),by rw[pyD,PyData.depth];lia,?_⟩
 rw[pyD,PyData.shown]
 exact Y1 (zqu h1 h2) ⋯
theorem ztu:Shw 82 1 .non:=by
 refine⟨by rw[okD],by rw[pyD,PyData.showable],by rw[pyD,PyData.depth];lia,?_⟩
 rw[pyD,PyData.shown];decide
theorem zeZ:∀{xs:List PyData},(∀x∈xs,x.showable=true)->PyData.showableAll xs=true
 |[],_=>by rw[PyData.showableAll]
 |x::xs,h=>by rw[PyData.showableAll,h x N1,zeZ λy hy=>h y (F1 _ hy)];rfl
theorem zf6:∀{xs:List PyData},PyData.shownAll xs=xs.map PyData.shown
 |[]=>by rw[PyData.shownAll];rfl
 |x::xs=>by rw[PyData.shownAll,E2,zf6]
theorem zb2{k:Nat}(m:Nat)(hm:ds.length<=m)(h:∀d∈ds,Shw c k d):Shw (m*(c+2)+3) (k+1) (.tup ds):=by
 refine⟨by rw[okD];exact zqK λd hd=>(h d hd).1,?_,?_,?_⟩
 ·rw[pyD,PyData.showable,zhu]
  exact zeZ λx hx=>by obtain⟨d,hd,rfl⟩:=X1.mp hx;exact(h d hd).2.1
 ·rw[pyD,PyData.depth,zhu]
  have:=ze1 (n:=k) (xs:=ds.map pyD) λx hx=>by obtain⟨d,hd,rfl⟩:=X1.mp hx;exact(h d hd).2.2.1
  lia
 ·rw[pyD,PyData.shown,zhu,zf6,List.map_map]
  have hc:∀x∈ds.map (PyData.shown∘pyD),x.length<=c:=λx hx=>by obtain⟨d,hd,rfl⟩:=X1.mp hx;exact(h d hd).2.2.2
  have jl:=zmH (sep:=", ") (m:=2) ⋯ hc
  rw[D0] at jl
  unfold tupleText
  rw[zhE,zhE]
  have l1:("(":Str).length=1:=rfl
  have l2:(Str.ofString (if(ds.map (PyData.shown∘pyD)).length==1 then",)"else ")")).length<=2:=by split<;>decide
  have:ds.length*(c+2)<=m*(c+2):=Nat.mul_le_mul_right _ hm
  rw[l1]
  have l2':(Str.ofString (if(ds.map (PyData.shown∘pyD)).length==1 then",)"else ")":String)).length<=2:=l2
  lia
theorem ziJ(h:zm x=true):Shw 82 1 (.str x):=zod (zbd h) (by
 unfold zm at h
 simp only[X0,decide_eq_true_eq] at h
 lia)
theorem zd5{a b:D}{k:Nat}(ha:Shw c k a)(hb:Shw c k b):Shw (2*(c+2)+3) (k+1) (.tup [a,b]):=zb2 2 (S0 2) λd hd=>by
 simp only[D1,O2,or_false] at hd
 rcases hd with rfl|rfl
 ·exact ha
 ·exact hb
theorem zeS{w:Str}(h:w∈(["by","from","to","mark","long","not","keep","put","strike"]:List Str)):Shw 82 1 (.str w):=by
 simp only[D1,O2,or_false] at h
 rcases h with rfl|rfl|rfl|rfl|rfl|rfl|rfl|rfl|rfl<;>exact zod `Y3 ⋯
theorem zjS(h:zE d=true):Shw 171 2 d:=by
 obtain⟨w,e,rfl⟩:=zbb d h
 rcases zbh h with⟨rfl,i,rfl,i0,i9⟩|⟨hn,y,rfl,hy⟩
 ·exact zd5 (zeS ⋯) (zol () ())
 ·exact zd5 (zeS (by rcases zf3 hn with rfl|rfl|rfl|rfl<;>decide)) (ziJ hy)
theorem zrV(h:zD d=true):Shw 349 3 d:=by
 obtain⟨w,e,rfl⟩:=ze6 d h
 rw[zdW] at h
 by_cases z:w="not"
 ·subst z
  rw[R0 rfl] at h
  exact zd5 ((zeS ⋯).mono ⋯ ⋯) (zjS h)
 ·rw[N0 z] at h
  exact(zjS h).mono ⋯ ⋯
theorem zjB(hl:cs.length<=4)(h:∀c∈cs,zD c=true):Shw 1407 4 (.tup cs):=zb2 4 hl λc hc=>zrV (h c hc)
theorem zp2(h:za6 d=true):Shw 82 1 d:=by
 cases d with
 |non=>exact ztu
 |int i=>
  have h:(decide ((-999:Int)<=i)&&decide (i<=999))=true:=h
  rw[X0] at h
  exact zol (O0 h.1) (O0 h.2)
 |_=>cases h
theorem zty(h:za1 d=true):Shw 171 2 d:=by
 rcases znc h with rfl|⟨w,y,rfl,hw,hy⟩
 ·exact (zb2 (ds:=[.str "keep"]) (c:=82) (k:=1) 1 (S0 1) λd hd=>by rw[C2.mp hd];exact zeS ⋯).mono ⋯ ⋯
 ·exact zd5 (zeS (by rcases hw with rfl|rfl<;>decide)) (ziJ hy)
theorem zlv(h:zN d=true):Shw 254073 6 d:=by
 cases d with
 |tup rs=>
  have h:(decide (rs.length<=90)&&rs.all zC)=true:=h
  rw[X0] at h
  refine zb2 (c:=2821) (k:=5) 90 (O0 h.1) λr hr=>?_
  have hk:=N2.mp h.2 r hr
  unfold zC at hk
  obtain⟨c,x,rfl,hk⟩:=znO (f:=λc x=>zad c&&za6 x&&!zd3 c) hk
  rw[X0,X0] at hk
  obtain⟨cs,rfl,h4,hc⟩:=zih hk.1.1
  exact zd5 (zjB h4 hc) ((zp2 hk.1.2).mono ⋯ ⋯)
 |_=>cases h
theorem zqa(h:z7 d=true):Shw 254073 6 d:=by
 cases d with
 |tup rs=>
  have h:(decide (rs.length<=90)&&rs.all zal)=true:=h
  rw[X0] at h
  refine zb2 (c:=2821) (k:=5) 90 (O0 h.1) λr hr=>?_
  obtain⟨cs,x,rfl,h4,hc,hx⟩:=zkr (N2.mp h.2 r hr)
  exact zd5 (zjB h4 hc) ((zty hx).mono ⋯ ⋯)
 |_=>cases h
theorem zsw(T:TownOk g hs ps lks hds)(hp:ps.length<=1000):Shw 12703778 8 (zag g hs ps lks hds):=by
 have hn:∀x∈hs,Shw 82 1 (.str x):=λx hx=>ziJ (T.names x hx)
 refine zb2 (c:=2540753) (k:=7) 5 (S0 5) λd hd=>?_
 simp only[D1,O2,or_false] at hd
 rcases hd with rfl|rfl|rfl|rfl|rfl
 ·exact (hn g T.goal).mono ⋯ ⋯
 ·exact (zb2 10 (by rw[D0];exact T.ten) λd hd=>by obtain⟨x,hx,rfl⟩:=X1.mp hd;exact hn x hx).mono ⋯ ⋯
 ·exact (zb2 1000 (by rw[D0];exact hp) λd hd=>by
   obtain⟨p,hp,rfl⟩:=X1.mp hd
   obtain⟨t1,t2,_⟩:=T.ties p hp
   exact zd5 (hn _ t1) (hn _ t2)).mono ⋯ ⋯
 ·exact zb2 10 (by rw[T.ll];exact T.ten) λd hd=>zlv (T.likes d hd)
 ·exact zb2 10 (by rw[T.lh];exact T.ten) λd hd=>zqa (T.hands d hd)
section
open PySem.W
section
variable{N:Nat}{lt:Nat->Nat->Bool}
end
theorem zl5:∀{a b:List Str},a≠b->ltL a b=false->ltL b a=true
 |[],[],h,_=>absurd rfl h
 |[],_::_,_,e=>by cases e
 |_::_,[],_,_=>rfl
 |x::xs,y::ys,h,e=>by
  rw[ltL] at e⊢
  by_cases z:x=y
  ·rw[R0 z] at e;rw[R0 z.symm];exact zl5 (λq=>h (by rw[z,q])) e
  ·rw[N0 z] at e;rw[N0 (Ne.symm z)];exact zei z e
end
section
variable{o:Expr}{to:TE}{T id:String}{r:V->List V->Hp->VK->Prop}
end
noncomputable def zsW:List Str->Bool
 |[a,b,w]=>zm a&&zm b&&(if w="equal"then ltS a b else decide (w="over")&&!decide (a=b))
 |_=>false
noncomputable def znY(r:List Str):List Str:=srt (r.take 2)
structure KinOk(rs:List (List Str)):Prop where
 row:∀r∈rs,zsW r=true
 rise:rs.Pairwise (λa b=>ltL a b=true)
 ties:(rs.map znY).Nodup
noncomputable def pr(a b:Str):List Str:=srt [a,b]
noncomputable abbrev at_(xs:List Str)(i:Nat):Str:=xs.getD i ""
structure KD62(xs:List Str)(ps:List (Nat×Nat))(k:Nat)(rs:List (List Str)):Prop where
 row:∀r∈rs,zsW r=true
 nd:(rs.map znY).Nodup
 few:rs.length<=k
 old:∀r∈rs,∃q∈ps.take k,q.1<q.2/\znY r=pr (at_ xs q.1) (at_ xs q.2)
section
variable{P P':D->Prop}{n:Nat}
end
noncomputable def zxn:D->List D| .tup rs=>rs|_=> []
noncomputable def zA:List Str->List D->Str->List D
 |h::hs,d::ds,x=>if h=x then zxn d else zA hs ds x
 |_,_,_=> []
theorem zhL{x:Str}{rs:List D}:∀{hs:List Str} {ds:List D} {j:Nat},hs.Nodup->hs[j]?=some x->ds[j]?=some (.tup rs)->zA hs ds x=rs
 |[],_,j,_,h1,_=>by simp at h1
 |h::hs,[],j,_,_,h2=>by simp at h2
 |h::hs,d::ds,0,_,h1,h2=>by
  simp at h1 h2
  subst h1 h2
  rw[zA,R0 rfl];rfl
 |h::hs,d::ds,j+1,nd,h1,h2=>by
  simp only[List.getElem?_cons_succ] at h1 h2
  rw[U2] at nd
  have hne:¬h=x:=λe=>nd.1 (e▸Z0 h1)
  rw[zA,N0 hne]
  exact zhL nd.2 h1 h2
noncomputable def zc3:D->Bool| .non=>true|_=>false
theorem ztk{u:V}(r:Rep H u d):decide (u=V.non)=zc3 d:=by
 cases r<;>first|rfl|exact U0 (λz=>by cases z)
structure Mr(O t:List Str):Prop extends Mk0 O t where
 rise:t.Pairwise (λa b=>ltS a b=true)
section
variable{P:List α->Prop}
theorem of1(h:∀a,P [a]):∀us:List α,us.length=1->P us
 |[a],_=>h a
theorem of2(h:∀a b,P [a,b]):∀us:List α,us.length=2->P us
 |[a,b],_=>h a b
theorem of3(h:∀a b c,P [a,b,c]):∀us:List α,us.length=3->P us
 |[a,b,c],_=>h a b c
theorem of4(h:∀a b c d,P [a,b,c,d]):∀us:List α,us.length=4->P us
 |[a,b,c,d],_=>h a b c d
end
section
variable{R:Result->Shared->Prop}{n:Nat}{P:Nat->Value->Prop}{St:Nat->Heap->Prop}
end
section
open PySem.W PyProof.V
end
section
variable{R:Result->Shared->Prop}{n:Nat}{P:Nat->Value->Prop}{St:Nat->Heap->Prop}
end
section
open PySem.W PyProof.V
end
section
variable{R:Result->Shared->Prop}{it:Value}{d:Addr}
end
section
variable{src:List (Option Nat)}{g:TG}{tk:TE}{k:Nat}
end
theorem Inv.frzK{d:Addr}{o:Obj}(I:Inv X pins σ H s)(e:H d=some (.dK kvs))(g:s.heap.get? d=some o):Inv X pins σ (upd H d (.frz o (.dK kvs))) s where
 ok:=I.ok
 os:=I.os
 bare:=I.bare
 base:={
  keep:=I.base.keep
  slot:=I.base.slot
  free:=λb o h1 h2 h3=>by
   have:=I.base.free b o h1 h2 h3
   rw[ze λz=>by rw[z,e] at this;cases this];exact this
  there:=I.base.there
  tups:=λb xs h=>by
   have:=I.base.tups b xs h
   rw[ze λz=>by rw[z,e] at this;cases this];exact this
  frzs:=λb o u h=>by
   have:=I.base.frzs b o u h
   rw[ze λz=>by rw[z,e] at this;cases this];exact this
  tbls:=λb ps h=>by
   obtain⟨more,this⟩:=I.base.tbls b ps h
   exact⟨more,by rw[ze λz=>by rw[z,e] at this;cases this];exact this⟩}
 loc:=I.loc
 cell:=I.cell
 free:=by
  have:=I.free
  rw[ze λz=>by rw[z,e] at this;cases this];exact this
 freeC:=λx c h=>by
  have:=I.freeC x c h
  rw[ze λz=>by rw[z,e] at this;cases this];exact this
 pin:=λp hp=>by
  obtain⟨h1,h2,h3⟩:=I.pin p hp
  exact⟨h1,by rw[ze λz=>by rw[z,e] at h2;cases h2];exact h2,h3⟩
 hok:=λa o' h=>by
  have st:∀{u:HO},ObjOk X.prog X.w H s.heap a u->ObjOk X.prog X.w (upd H d (.frz o (.dK kvs))) s.heap a u:=λx=>x.stay (λ_ _ _ q=>q) (λb q=>by rw[ze λz=>by rw[z,e] at q;cases q];exact q) (λb xs q=>by rw[ze λz=>by rw[z,e] at q;cases q];exact q)
  by_cases z:a=d
  ·subst z
   rw[zc] at h
   cases h
   exact⟨g,st (I.hok a _ e)⟩
  ·rw[ze z] at h
   exact st (I.hok a _ h)
 len:=I.len
structure RingG(G:Str->List Str)(xs:List Str):Prop where
 two:2<=xs.length
 ends:xs[0]?=xs[xs.length -1]?
 nd:(xs.drop 1).Nodup
 nxt:∀i a b,xs[i]?=some a->xs[i+1]?=some b->a∈G b
structure Led(H:Hp)(kvs:List (Key×V))(ks:List Str)(G:Str->List Str):Prop where
 keys:kvs.map (·.1)=ks.map Sum.inr
 nd:ks.Nodup
 at_:∀x∈ks,∃l,za4 kvs (Sum.inr x)=some (.ref l)/\H l=some (.lst ((G x).map V.str))
 sub:∀x∈ks,∀y∈G x,y∈ks
 short:∀x∈ks,x.length<=1000
 few:ks.length<=60/\∀x∈ks,(G x).length<=60
noncomputable def tol(tk:List (Key×V))(x:Str):Bool:=(za4 tk (Sum.inr x)).isSome
structure Tld63(tk:List (Key×V))(ks:List Str)(G:Str->List Str):Prop where
 opn:∀x∈ks,tol tk x=false->∃y∈G x,tol tk y=false
 sure:∀W:Str->Prop,(∀b,W b->∃a∈G b,W a)->∀b,W b->tol tk b=false
structure Peel(rs R:List (List Str)):Prop where
 sub:∀r∈R,r∈rs/\at_ r 2=("over":Str)
 out:∀W:Str->Prop,(∀b,W b->∃a,[a,b,"over"]∈rs/\W a)->∀a b,W a->W b->[a,b,"over"]∈rs->[a,b,"over"]∈R
structure LR(ks:List Str)(G:Str->List Str)(tk:List (Key×V))(ws:List Str):Prop where
 sub:∀x∈ws,x∈ks
 cov:∀x∈ks,x∈ws\/tol tk x=true
 sure:∀W:Str->Prop,(∀b,W b->∃a∈G b,W a)->∀b,W b->tol tk b=false
 inv:∀x v,za4 tk (Sum.inr x)=some v->∃n,v=V.int n
 len:tk.length+ws.length<=ks.length
structure LRi(ks:List Str)(G:Str->List Str)(tk:List (Key×V))(ws ys:List Str)(i:Nat)(fr:Bool):Prop where
 sub:∀x∈ys,x∈ks
 cov:∀x∈ks,x∈ys\/x∈ws.drop i\/tol tk x=true
 sure:∀W:Str->Prop,(∀b,W b->∃a∈G b,W a)->∀b,W b->tol tk b=false
 inv:∀x v,za4 tk (Sum.inr x)=some v->∃n,v=V.int n
 len:tk.length+ys.length+(ws.length -i)<=ks.length
 le:ys.length<=i
 lt:fr=true->ys.length<i
 opn:fr=false->∀x∈ys,∃y∈G x,tol tk y=false
structure Wlk(ks:List Str)(G:Str->List Str)(tk:List (Key×V))(row:List Str)(x:Str):Prop where
 nd:row.Nodup
 sub:∀y∈row,y∈ks
 ch:∀i a b,row[i]?=some a->row[i+1]?=some b->b∈G a
 nx:∀a,row[row.length -1]?=some a->x∈G a
 xk:x∈ks
 xu:tol tk x=false
structure EL(H H':Hp)(kvs:List (Key×V))(ks:List Str)(G:Str->List Str):Prop where
 keys:kvs.map (·.1)=ks.map Sum.inr
 nd:ks.Nodup
 at_:∀x∈ks,∃l,za4 kvs (Sum.inr x)=some (.ref l)/\H' l=some (.lst ((G x).map V.str))/\H l=none
 apart:∀x∈ks,∀y∈ks,∀l,za4 kvs (Sum.inr x)=some (.ref l)->za4 kvs (Sum.inr y)=some (.ref l)->x=y
noncomputable def kOf(t:List Str):List Key:=t.map Sum.inr
structure RT(H:Hp)(kvs:List (List Key×V))(rs:List (List Str)):Prop where
 len:kvs.length=rs.length
 at_:∀(j:Nat) (kv:List Key×V) (r:List Str),kvs[j]?=some kv->rs[j]?=some r->∃b,kv.1=kOf (znY r)/\kv.2= .ref b/\H b=some (.tup (r.map V.str))
 row:∀r∈rs,zsW r=true
 nd:(rs.map znY).Nodup
structure RG(xs:List Str)(m:Nat)(rs:List (List Str)):Prop where
 row:∀r∈rs,zsW r=true
 nd:(rs.map znY).Nodup
 old:∀r∈rs,∃i j,i<m/\j<m/\znY r=pr (at_ xs i) (at_ xs j)
structure MAt(K:W.Frag)(C:Addr)(x qual:Str)(st:Stmt)(ps:List Str)(f:Addr)(fd:FuncData):Prop where
 fn:Fun K x qual st f fd
 b:Binds K fd ps []
 m:Meth K C x f
section
variable{o e:Expr}{f m:Str}{ta:TE}{t:TA}{k:Nat}{ps:List Str}{ds:List Value}{E:XK}
theorem zT(he:QE X e ta)(hb:autoParam (attributeBase e f X.env (eval e X.env)=eval e X.env) u4):QE X (.Attribute e f pos) (zu5 X.K ta f):=⟨zvx he.o hb⟩
theorem zvT(hK:X.K=K)(he:QE X e ta)(hb:autoParam (attributeBase e f X.env (eval e X.env)=eval e X.env) u4):QE X (.Attribute e f pos) (zu5 K ta f):=by subst hK;exact zT he hb
theorem zeq(ha:QE X o ta)(hv:QE X value tv)(hs:autoParam (swapsWith value (some (.Attribute o f pos')) pos.line X.env=pure false) u4):QS X (.Assign [.Attribute o f pos'] value pos) (zwh X.K ta tv f):=⟨zva ha.o hv.o hs⟩
theorem zq3{op:Operator}{rd:V->V->Hp->VK->Prop}(ha:QE X o ta)(hv:QE X value tv)(hop:zvG X op rd):QS X (.AugAssign (.Attribute o f tpos) op value pos) (zn9 X.K ta tv rd f):=⟨zpm ha.o hv.o hop⟩
theorem zcq(he:QE X o ta)(c:Cls X.K C)(hm:Meth X.K C m fa)(F:FnOk X.prog X.w X.K X.mg X.base CX k fa fd ps sp)(hr:Room k X.A)(hb:Binds X.K fd ps ds)(hd:Vals dvs ds)(hx:zcn CX X E)(ha:QA X (e::es) t)
 (hst:autoParam (starEach (e::es) X.env=(false,eval e X.env)::starEach es X.env) u4) (hpl:autoParam ((backTo pos (starEach es X.env)).any (·.1)=false) u4)
 (ht:autoParam (eval (.Call (.Attribute o m apos) (e::es) [] pos) X.env=(do
   let ov ←eval o X.env
   standAt apos.atName
   let(f,first) ←holding [ov] (getMethod ov m pl)
   callWith pos f first (backTo pos (starEach (e::es) X.env)) (backToKw pos (keywordEach [] X.env)))) u4):
 QE X (.Call (.Attribute o m apos) (e::es) [] pos) (zoN C m sp dvs E ta t):=⟨zs2 he.o c hm F hr hb hd hx ha.o hst hpl ht⟩
theorem zaH(he:QE X o ta)(c:Cls X.K C)(hm:Meth X.K C m fa)(F:FnOk X.prog X.w X.K X.mg X.base CX k fa fd ps sp)(hr:Room k X.A)(hb:Binds X.K fd ps ds)(hd:Vals dvs ds)(hx:zcn CX X E)
 (ht:autoParam (eval (.Call (.Attribute o m apos) [] [] pos) X.env=(do
   let ov ←eval o X.env
   standAt apos.atName
   let(f,first) ←holding [ov] (getMethod ov m pl)
   callWith pos f first (backTo pos (starEach [] X.env)) (backToKw pos (keywordEach [] X.env)))) u4):
 QE X (.Call (.Attribute o m apos) [] [] pos) (zoN C m sp dvs E ta zgP):=⟨zsd he.o c hm F hr hb hd hx ht⟩
theorem zrG{p:Pos}(M:Mk X.K C fa)(F:FnOk X.prog X.w X.K X.mg X.base CX k fa fd ps sp)(hr:Room (k+1) X.A)(hm:X.mg x=some (.ref C))(hb:Binds X.K fd ps ds)(hd:Vals dvs ds)(hx:zcn CX X E)
 (ha:QA X (e::es) t) (hg:autoParam (Gl X x) u4) (hdb:autoParam ((x==("__debug__":Str))=false) v5) (he:autoParam (starEach (e::es) X.env=(false,eval e X.env)::starEach es X.env) u4) (hpl:autoParam ((backTo pos (starEach es X.env)).any (·.1)=false) u4):
 QE X (.Call (.Name x p) (e::es) [] pos) (zuz C sp dvs E t):=⟨ztC M F hr hg hm hb hd hx ha.o hdb he hpl⟩
theorem zoK{g:Expr}{td ty:TE}(hu:X.A.units+1<cLine)(ho:QE X o td)(he:QE X e ty)(hf:QE X g tx)(hb:autoParam (attributeBase o "get" X.env (eval o X.env)=eval o X.env) u4)
 (hw:autoParam (((backTo cpos (starEach [e,g] X.env)).all (λx=>!x.1)&&(backToKw cpos (keywordEach [] X.env)).all (λx=>x.1.isSome)
 &&decide (([e,g]:List Expr).length+([]:List Keyword).length+(if([]:List Keyword).isEmpty then 0 else 1)<30))=true) u4) (hl:autoParam ((apos.endLine==cpos.line)=true) u4) (ht:autoParam (backTo cpos (starEach [e,g] X.env)=[(false,eval e X.env),(false,eval g X.env)]) u4):
 QE X (.Call (.Attribute o "get" apos) [e,g] [] cpos) (zqH td ty tx):=⟨zqm hu ho.o he.o hf.o ⟨hb,hw,hl,ht⟩⟩
theorem zoj:OpR X (binaryOp .Mult) (rI (λi j=>Builtin.Int.intBits i<=2^20/\Builtin.Int.intBits j<=2^20) λi j=> .int (i*j)):=opI λ_ _ _ _ _ _ _ hc q=>mul_int q (.of_bits hc.1 hc.2)
end
inductive TrC(K:W.Frag)(H:Hp):V->PyData->Prop
 |non:TrC K H .non .none
 |bl (b:Bool):TrC K H (.bl b) (.bool b)
 |int (i:Int):TrC K H (.int i) (.int i)
 |str (x:Str) (h:PyData.strOk x=true):TrC K H (.str x) (.str x)
 |tup {p:Addr} {vs:List V} {ds:List PyData} (e:SqT K H p vs) (hl:vs.length=ds.length) (h:∀(i:Nat) (v:V) (d:PyData),vs[i]?=some v->ds[i]?=some d->TrC K H v d):TrC K H (.ref p) (.tuple ds)
theorem TrC.reads(I:Inv X pins σ H s){x:V}{d:PyData}(t:TrC X.K H x d):∀v,RelV x v->∃as,Reads s.heap v d as:=by
 induction t with
 |non=>intro v r;cases r;exact⟨_, .none⟩
 |bl b=>intro v r;cases r;exact⟨_, .bool b⟩
 |int i=>intro v r;obtain⟨t,rfl⟩:=r;exact⟨_, .int i t⟩
 |str x h=>intro v r;obtain⟨t,rfl⟩:=r;exact⟨_, .str x t⟩
 |tup e hl h ih=>
  intro v r
  cases r
  obtain⟨its,rv,⟨o,ho,hc,n,hd⟩,_⟩:=I.tuple e
  obtain⟨bs,hb⟩:=zdk (h:=s.heap) rv hl ih
  exact⟨_, .tuple ho hc hd (by simpa using hb)⟩
theorem TrC.can{x:V}{d:PyData}(t:TrC K H x d):d.canLay0=true:=by
 induction t with
 |non=>rfl
 |bl b=>rfl
 |int i=>rfl
 |str x h=>simp only[PyData.canLay0];exact h
 |tup e hl h ih=>rw[PyData.canLay0];exact ze5 hl ih
theorem op_eqC(hu:X.A.units+64<cLine):OpR X (compareOp .Eq) (λx y H Q=>∃d e,TrC X.K H x d/\TrC X.K H y e/\min d.depth e.depth<=60/\Q (.bl (d.eqv e)) H):=by
 intro pins s σ H x y v u Q I rx ry h
 obtain⟨d,e,t1,t2,hd,q⟩:=h
 obtain⟨as,r1⟩:=t1.reads I v rx
 obtain⟨bs,r2⟩:=t2.reads I u ry
 exact SeqAt.compareEq_reads r1 r2 t1.can t2.can () ⟨.bl _,H,I,rfl,q⟩
theorem zrq(hu:X.A.units+64<cLine):OpR X (compareOp .NotEq) (λx y H Q=>∃d e,TrC X.K H x d/\TrC X.K H y e/\min d.depth e.depth<=60/\Q (.bl (!d.eqv e)) H):=by
 intro pins s σ H x y v u Q I rx ry h
 obtain⟨d,e,t1,t2,hd,q⟩:=h
 obtain⟨as,r1⟩:=t1.reads I v rx
 obtain⟨bs,r2⟩:=t2.reads I u ry
 exact SeqAt.compareNe_reads r1 r2 t1.can t2.can () ⟨.bl _,H,I,rfl,q⟩
theorem zdg{st:Stmt}:QS X st (λ_ _ _=>False):=⟨λpins s σ H D I h=>h.elim⟩
theorem zio(kx vx target iter:Expr)(ifs:List Expr)(scope:Scope)(pos:Pos)(it:Value)(d:Addr)(env:Env):
 compTurn (.DictComp kx vx [⟨target,iter,ifs,0⟩] scope pos) 0 it (.ref d) env=(do
  standAt iter.pos
  match←pyNext it with
  |none=>pure (.done .next)
  |some v=>
   letOwnedTupleGo target it v
   assign target env v
   let mut ok:=true
   for c in ifs do
    if ok then ok ←isTrue c env (eval c env)
   if ok then
    (do
      let kv ←eval kx env
      let vv ←holding [kv] (eval vx env)
      standAt {kx.pos with endLine:=vx.pos.endLine,endCol:=vx.pos.endCol}
      holding [kv,vv] (dictSet d kv vv))
   again (.compLoop (.DictComp kx vx [⟨target,iter,ifs,0⟩] scope pos) 0 it (.ref d) env)):=by rfl
theorem ztb{R:Result->Shared->Prop}{it:Value}{d:Addr}(I:Nat->Shared->Prop)
 (turn:∀n s,I n s->wpAny (model prog w) A (pyNext it) (λr s1=>match r with
   |none=>R (.ok .next) s1
   |some v=>wpAny (model prog w) A (letOwnedTupleGo target it v) (λ_ s1'=>wpAny (model prog w) A (assign target env v) (λ_ s2=>wpAny (model prog w) A (zki ifs env) (λok s3=>
     if ok=true then wpAny (model prog w) A (eval kx env) (λk s4=>wpAny (model prog w) A (eval vx env) (λx s4'=>wpAny (model prog w) A (dictSet d k x) (λ_ s5=>∃m,m<n/\I m s5) (λ_ _=>False) s4') (λ_ _=>False) s4) (λ_ _=>False) s3
     else∃m,m<n/\I m s3) (λ_ _=>False) s2) (λ_ _=>False) s1') (λ_ _=>False) s1) (λ_ _=>False) s)
 (n:Nat) (h:I n s):codeAny (model prog w) A (.compLoop (.DictComp kx vx [⟨target,iter,ifs,0⟩] scope pos) 0 it (.ref d) env) R s:=by
 have no:∀{E:Value->Shared->Prop} (e:Value) (s:Shared),(λ(_:Value) (_:Shared)=>False) e s->E e s:=λ_ _ z=>False.elim z
 refine codeAny_loop rfl I (λn s hI=>?_) n h
 show wpAny _ A ((compTurn (.DictComp kx vx [⟨target,iter,ifs,0⟩] scope pos) 0 it (.ref d) env).onRaise (λx=>do noteFrame x env;theTreesLotGoes x)) _ _ s
 refine wpAny_noted ?_
 rw[zio]
 refine C0 (wpAny_standAt (C0 (D3 (turn n s hI) (λr s₁ h₁=>?_) no)))
 cases r with
 |none=>exact K0 h₁
 |some v=>
  refine C0 (D3 h₁ (λ_ s1' h1'=>?_) no)
  refine C0 (D3 h1' (λ_ s₂ h₂=>C0 (D3 h₂ (λok s₃ h₃=>?_) no)) no)
  cases ok with
  |false=>exact K0 ⟨rfl,h₃⟩
  |true=>
   exact C0 (C0 (D3 h₃ (λk s₄ h₄=>C0 (F3 (D3 h₄ (λx s₅ h₅=>C0 (wpAny_standAt (F3 (D3 h₅ (λ_ s₆ h₆=>K0 ⟨rfl,h₆⟩) no)))) no))) no))
def zhU(g:TG)(tc:TT)(tk tv:TE)(src:List (Option Nat))(σ:St)(Q:VK)(J:It)(H1:Hp):Prop:=∀l,H1 l=none->
 ∃W:Nat->Nat->List (Key×V)->St->Hp->Prop,(∃m,W 0 m [] (zfA src σ) (upd H1 l (.dK [])))/\∀i m ys σ' H',W i m ys σ' H'->H' l=some (.dK ys)->
  (J.stop i H'/\Q (.ref l) H')\/(J.go i H'/\∃N:List (Key×V)->St->Hp->Prop,(∀zs σ2 H2,N zs σ2 H2->∃m',m'<m/\W (i+1) m' zs σ2 H2)/\∀x H2,J.yld i H' x H2->g x σ' H2 λσ2 H3=>tc σ2 H3 λb H4=>
    if b=true then tk σ2 H4 λk H5=>tv σ2 H5 λy H6=>∃k',k=kV k'/\H6 l=some (.dK ys)/\ys.length<sizeLine/\N (zaB ys k' y) σ2 (upd H6 l (.dK (zaB ys k' y)))
    else H4 l=some (.dK ys)/\N ys σ2 H4)
noncomputable def zn7(wi:TI)(g:TG)(tc:TT)(tk tv:TE)(src:List (Option Nat)):TE:=λσ H Q=>wi σ H (zhU g tc tk tv src σ Q)
section
variable{src:List (Option Nat)}{g:TG}{tk:TE}
theorem zpK(ok:CompOk X.N osc N' src scope)(hsc:X.env.scope=osc)(hc:X.calm=true)(hi:PI X tg iter wi)
 (hg:∀cl C s₀ H₀ fp,PG (zH X N' scope cl C s₀ H₀ fp) tg g) (ht:∀cl C s₀ H₀ fp,PIf (zH X N' scope cl C s₀ H₀ fp) ifs tc) (hk2:∀cl C s₀ H₀ fp,PE (zH X N' scope cl C s₀ H₀ fp) kx tk) (hv2:∀cl C s₀ H₀ fp,PE (zH X N' scope cl C s₀ H₀ fp) vx tv)
 (hs:autoParam (∀x,foldedSetIterable iter X.env x=pure x) t6):PE X (.DictComp kx vx [⟨tg,iter,ifs,0⟩] scope pos) (zn7 wi g tc tk tv src):=by
 intro pins s σ H Q I h
 obtain⟨cl,hcl,c1,c2⟩:=zfv (scope:=scope) (env:=X.env) λy hy hyf=>I.ok.has y.1 (by
  have z:=ok.frees y hy hyf
  rw[←hsc] at z
  exact z)
 rw[arm_eval_DictComp]
 refine wpAny_comprehension_free (use:=none) rfl hs hcl ok.kind ok.loc (thn (hi pins s σ H _ I h) λv s1 h1=>thn h1 λitv s2 h2=>?_)
 obtain⟨it,fp,tn,J,H2,e,I2,T,st2,f2,q2⟩:=h2
 subst e
 have hlt2:∀b∈fp,b<s2.heap.objs.size:=λb hb=>by
  obtain⟨o,e,_⟩:=T.obj _ _ st2 b hb
  exact Y0 e
 refine K2 ?_
 have hl:H2 s2.heap.objs.size=none:=I2.hok.fresh (S0 _)
 have I3:Inv X pins σ (upd H2 s2.heap.objs.size (.dK [])) {s2 with heap:=s2.heap.push {cls:= .type "dict",data:= .dict #[]}}:=
  I2.laid (t':=s2.toks) (λb u e=>G0 _ e) (S0 _) (zlp s2.heap I2.big)
 obtain⟨W,⟨m0,w0⟩,turn⟩:=q2 _ hl
 generalize hl2:s2.heap.objs.size=l at *
 generalize hs3:({s2 with heap:=s2.heap.push {cls:= .type "dict",data:= .dict #[]}}:Shared)=s3 at *
 have f3:∀b∈fp,zfL X pins (upd H2 l (.dK [])) b:=λb hb=>⟨by rw[ze (V1 (hlt2 b hb))];exact(f2 b hb).1,(f2 b hb).2⟩
 have k3:∀b o,s2.heap.get? b=some o->s3.heap.get? b=some o:=λb o e=>by rw[←hs3];exact G0 _ e
 have hlt3:∀b∈fp,b<s3.heap.objs.size:=λb hb=>by
  obtain⟨o,e,_⟩:=T.obj _ _ st2 b hb
  exact Y0 (k3 b o e)
 refine wpAny_newFunctionEnv ok.nocell (by intro y hy;simp at hy) (λh₁ hns₁ hsb₁=>?_) ok.kind
 have k4:∀b o,s3.heap.get? b=some o->h₁.get? b=some o:=λb o e=>(hsb₁.2 b (V1 (Y0 e))).trans (G0 _ e)
 have J0:=zfD (tk:=s3.toks+([]:List (Str×Value)).length) I3 f3 hlt3 ok hsc c1 c2 hns₁ k4
 have st4:tn 0 h₁:=T.keep _ _ _ st2 λb hb o e=>k4 b o (k3 b o e)
 generalize hC:s3.heap.objs.size=C at *
 have stat:∀{H':Hp},(∀b∈fp,H' b=none)->∀b∈fp,zfL (zH X N' scope cl C s3 (upd H2 l (.dK [])) fp) [] H' b:=λ{H'} hn b hb=>
  ⟨hn b hb,(J0.ok.exf b hb).1,J0.ok.exfs b hb, .inl hb,(J0.ok.exf b hb).2,λp hp=>absurd (show p∈([]:List (Addr×Obj))from hp) `Z3⟩
 have loop:codeAny (model X.prog X.w) X.A (.compLoop (.DictComp kx vx [⟨tg,iter,ifs,0⟩] scope pos) 0 (.ref it) (.ref l) (compEnvC scope cl C X.env))
  (compPost (model X.prog X.w) X.A X.xe none (EP X pins σ Q) (.ref l) C) {s3 with heap:=h₁,toks:=s3.toks+([]:List (Str×Value)).length}:=by
  refine ztb (λn s'=>∃i ys σ' H',Inv (zH X N' scope cl C s3 (upd H2 l (.dK [])) fp) [] σ' H' s'/\tn i s'.heap/\(∀b∈fp,H' b=none)/\H' l=some (.dK ys)/\W i n ys σ' H') ?_ m0
   ⟨0,[],_,_,J0,st4,λb hb=>(f3 b hb).1,zc,w0⟩
  rintro n s5 ⟨i,ys,σ5,H5,I5,st5,fr5,hl5,w5⟩
  rcases turn i n ys σ5 H5 w5 hl5 with⟨stop,qn⟩|⟨go,N,hN,step⟩
  ·refine thn (T.done (zH X N' scope cl C s3 (upd H2 l (.dK [])) fp) rfl rfl rfl hc i [] s5 σ5 H5 (λ_ _=>False) I5 (stat fr5) st5 stop) λr s6 ⟨hr,I6⟩=>?_
   subst hr
   obtain⟨m,hn,_⟩:=I6.loc
   exact⟨m,hn,λh' hsb=>⟨.ref l,H5,zfC I3 f3 (by rw[←hC];exact S0 _) I6 hsb,rfl,qn⟩⟩
  ·refine thn (T.item (zH X N' scope cl C s3 (upd H2 l (.dK [])) fp) rfl rfl rfl hc i [] s5 σ5 H5 (λ_ _=>False) I5 (stat fr5) st5 go) λr s6 ⟨u,hr,h6⟩=>?_
   subst hr
   refine thn h6 λ_ s7 zq=>?_
   obtain⟨x,H7,I7,r7,y7,st7,fr7⟩:=zq
   have I7':=I7.pinned (stat fr7) (T.obj _ _ st7)
   refine thn (hg cl C s3 _ fp _ s7 σ5 H7 x u _ I7' r7 (step x H7 y7)) λ_ s8 zq=>?_
   obtain⟨σ8,H8,I8,q8⟩:=zq
   refine thn (ht cl C s3 _ fp _ s8 σ8 H8 _ I8 q8) λb s9 zq=>?_
   obtain⟨H9,I9,q9⟩:=zq
   have back:∀{s':Shared} {H':Hp},Inv (zH X N' scope cl C s3 (upd H2 l (.dK [])) fp) ([]++zfQ fp s7.heap) σ8 H' s'->tn (i+1) s'.heap/\∀b∈fp,H' b=none:=λ{s' H'} I'=>by
    refine⟨T.keep _ _ _ st7 λb hb o e=>(I'.pin (b,o) (O1 _ (O1 _ (zaD hb e)))).1,λb hb=>?_⟩
    obtain⟨o,e,d⟩:=T.obj _ _ st7 b hb
    exact(I'.pin (b,o) (O1 _ (O1 _ (zaD hb e)))).2.1
   cases b with
   |false=>
    obtain⟨hl9,n9⟩:=q9
    obtain⟨m',hm,w9⟩:=hN _ _ _ n9
    obtain⟨t9,fr9⟩:=back I9
    exact⟨m',hm,i+1,ys,σ8,H9,I9.unpinned,t9,fr9,hl9,w9⟩
   |true=>
    refine thn (hk2 cl C s3 _ fp _ s9 σ8 H9 _ I9 q9) λkv2 s10 zq=>?_
    obtain⟨k',H10,I10,rk10,q10⟩:=zq
    refine thn (hv2 cl C s3 _ fp _ s10 σ8 H10 _ I10 q10) λxv2 s11 zq1=>?_
    obtain⟨y',H11,I11,r11,k'',ek,hl11,hz,n11⟩:=zq1
    subst ek
    obtain⟨m',hm,w11⟩:=hN _ _ _ n11
    obtain⟨z,hd,vs,rel,dd⟩:=zjW I11.hok hl11
    have hz2:vs.length<=sizeLine:=by rw[←rel.length];exact z
    have hl2':(zaB ys k'' y').length<=sizeLine:=by have:=zeJ ys k'' y';lia
    refine wpAny_dictSet_pairs (zlS rk10) dd (λh' dd' hs=>?_) hz2
    have he:∃q,h'.get? l=some q:=let⟨q,_,_,hq,_⟩:=dd';⟨q,hq⟩
    have I12:=zkK (t':=s11.toks+1) I11 (by rw[hl11];exact True.intro) hs he (zqy hl2' hd (rel.put k'' r11) dd')
    obtain⟨t12,fr12⟩:=back I12
    exact⟨m',hm,i+1,zaB ys k'' y',σ8,_,I12.unpinned,t12,fr12,zc,w11⟩
 exact codeAny_compStart_dict loop (T.self _ 0 _ _ _ st4 loop)
theorem zhT(ok:CompOk X.N osc N' src scope)(hsc:X.env.scope=osc)(hc:X.calm=true)(hi:QI X tg iter wi)
 (hg:∀cl C s₀ H₀ fp,QG (zH X N' scope cl C s₀ H₀ fp) tg g) (ht:∀cl C s₀ H₀ fp,QF (zH X N' scope cl C s₀ H₀ fp) ifs tc) (hk2:∀cl C s₀ H₀ fp,QE (zH X N' scope cl C s₀ H₀ fp) kx tk) (hv2:∀cl C s₀ H₀ fp,QE (zH X N' scope cl C s₀ H₀ fp) vx tv)
 (hs:autoParam (∀x,foldedSetIterable iter X.env x=pure x) t6):QE X (.DictComp kx vx [⟨tg,iter,ifs,0⟩] scope pos) (zn7 wi g tc tk tv src):=
 ⟨zpK ok hsc hc hi.o (λcl C s₀ H₀ fp=>(hg cl C s₀ H₀ fp).o) (λcl C s₀ H₀ fp=>(ht cl C s₀ H₀ fp).o) (λcl C s₀ H₀ fp=>(hk2 cl C s₀ H₀ fp).o) (λcl C s₀ H₀ fp=>(hv2 cl C s₀ H₀ fp).o) hs⟩
end
theorem zpE{n:Nat}{P:Nat->V->Prop}{ok:Hp->Prop}{g:TG}{tk:TE}{src:List (Option Nat)}{Q:VK}(wk:Wk J n P ok)(Pv:Addr->Nat->List (Key×V)->St->Hp->Prop)
 (h0:∀l,H1 l=none->Pv l 0 [] (zfA src σ) (upd H1 l (.dK []))) (hok:∀l i ys σ H,H1 l=none->Pv l i ys σ H->ok H)
 (hs:∀l i x ys σ H,H1 l=none->i<n->P i x->Pv l i ys σ H->H l=some (.dK ys)->g x σ H λσ2 H3=>tc σ2 H3 λb H4=>
   if b=true then tk σ2 H4 λk H5=>tv σ2 H5 λy H6=>∃k',k=kV k'/\H6 l=some (.dK ys)/\ys.length<sizeLine/\Pv l (i+1) (zaB ys k' y) σ2 (upd H6 l (.dK (zaB ys k' y)))else H4 l=some (.dK ys)/\Pv l (i+1) ys σ2 H4)
 (hd:∀l ys σ H,H1 l=none->Pv l n ys σ H->H l=some (.dK ys)->Q (.ref l) H):zhU g tc tk tv src σ Q J H1:=by
 intro l hl
 refine⟨λi m ys σ H=>m=n -i/\i<=n/\Pv l i ys σ H,⟨n,`Z3,Z1 _,h0 l hl⟩,?_⟩
 rintro i m ys σ H ⟨rfl,hi,p⟩ e
 by_cases hlt:i<n
 ·refine .inr ⟨wk.go i H (hok l i ys σ H hl p) hlt,Pv l (i+1),λzs σ' H' q=>⟨n -(i+1),(),rfl,hlt,q⟩,λx H' y=>?_⟩
  obtain⟨rfl,px⟩:=wk.yld i H x H' (hok l i ys σ H hl p) hlt y
  exact hs l i x ys σ _ hl hlt px p e
 ·have ei:i=n:=()
  subst ei
  exact .inl ⟨wk.stop i H (hok l i ys σ H hl p) (S0 _),hd l ys σ H hl p e⟩
def RawE(h:Heap)(d:Addr)(ps:List (Value×Value))(ep:Nat):Prop:=∃o es,h.get? d=some o/\o.ExactDict/\o.data= .dict es ep/\es.toList.map (λe=>(e.key,e.val))=ps
theorem RawE.ty{d:Addr}{ps:List (Value×Value)}(x:RawE s.heap d ps ep):s.TypeIs (.ref d) "dict":=let⟨o,_,ho,hc,_⟩:=x;⟨o,ho,hc.1⟩
section
variable{d:Addr}{ps:List (Value×Value)}
theorem raw_items{R:Value->Shared->Prop}(nsys:(d==sysModules)=false)(x:RawE s.heap d ps ep)(q:R (.ref s.heap.objs.size) {s with heap:=s.heap.push {cls:= .type "dict_items",data:= .fields #[.ref d]}}):
 wpAny (model prog w) A (Builtin.«dict.items» ⟨[.ref d],[]⟩) (λfin s'=>∃v,fin= .done (.ret v)/\R v s') E s:=by
 unfold Builtin.«dict.items»
 refine C0 ?_
 unfold Builtin.Dict.noArgs
 refine C0 (wpAny_notOrdered_dict x.ty ?_)
 show wpAny _ _ (pure d) _ _ s
 refine K0 ?_
 show wpAny _ _ (Builtin.Dict.showsAll d>>=_) _ _ s
 unfold Builtin.Dict.showsAll
 rw[N0 (by rw[nsys];exact K1)]
 refine C0 (K0 ?_)
 exact C0 (K2 (K0 ⟨_,rfl,q⟩))
theorem raw_items_iter{v:Addr}(hv:s.heap.IsItemsView v d)(x:RawE s.heap d ps ep)
 (hQ:Q (.ref s.heap.objs.size) {s with heap:=s.heap.push {cls:= .type "dict_itemiterator",data:= .fields #[.none, .bool false, .ref d, .int 0 0, .int ps.length 0, .int ep 0, .none, .none]}}):
 wpAny (model prog w) A (pyIter (.ref v)) Q E s:=by
 obtain⟨ov,hov,hcv,hdv⟩:=id hv
 obtain⟨o,es,ho,hc,hdat,hp⟩:=id x
 refine wpAny_pyIter_slot hv.typeIs F.slot_dict_items_iter (J3 F.slot_dict_items_iter hv.typeIs F.entry_dict_items_iter ?_ (F.args_dict_items_iter_1 _))
 unfold Builtin.«dict_items.__iter__»
 refine C0 (K0 ?_)
 refine C0 ?_
 unfold Builtin.Dict_items.dictOf
 refine C0 (wpAny_field hov hdv (x:= .ref d) rfl (K0 ?_))
 refine C0 ?_
 unfold Builtin.Dict_items.newIterator
 refine C0 (wpAny_dictEntries ho hdat ?_)
 refine C0 (wpAny_dictEpoch ho hdat ?_)
 have hsz:es.size=ps.length:=by rw[←hp];simp
 have hown:Builtin.Dict_items.ownsTuple "dict_itemiterator"=true:=⋯
 simp only[hown,if_true]
 refine K2 (K0 ⟨_,rfl,"dict_itemiterator",_,⟨_,Q0 _ rfl,rfl⟩,F.slot_dict_itemiterator_next.lookup,?_⟩)
  (by simp only[sizeOk,Builtin.Dict_items.ownedTupleFields,E1,b0,L1,List.length_nil,sizeLine_eq];lia)
 simpa[rawInt,hsz,Builtin.Dict_items.ownedTupleFields] using hQ
theorem raw_items_next{d:Addr}{ps:List (Value×Value)}{v ok:Value}{Q:Option Value->Shared->Prop}(hit:IsItemIter s.heap it d i ps.length ep ok ov)
 (hm:RawE s.heap d ps ep) (hx:ps[i]?=some (key,v))
 (hQ:∀h',IsItemIterOut h' it d (i+1) ps.length ep key v s.heap.objs.size->
   h'.get? s.heap.objs.size=some {cls:= .type "tuple",data:= .seq #[key,v]}->h'.objs.size=s.heap.objs.size+1->
   (∀b o,b≠it->s.heap.get? b=some o->h'.get? b=some o)->Q (some (.ref s.heap.objs.size)) {s with heap:=h'}):
 wpAny (model prog w) A (pyNext (.ref it)) Q E s:=by
 obtain⟨hp,g,dr,tk,os⟩:=s
 obtain⟨od,es,hod,hcd,hdd,hpr⟩:=id hm
 have hT:Shared.TypeIs ⟨hp,g,dr,tk,os⟩ (.ref it) "dict_itemiterator":=⟨_,hit,rfl⟩
 unfold pyNext
 refine C0 (wpAny_attempt (wpAny_callSpecial?_slot (name:=Str.ofString "__next__") hT F.slot_dict_itemiterator_next
  (J3 F.slot_dict_itemiterator_next hT F.entry_dict_itemiterator_next ?_ (F.args_dict_itemiterator_next_1 _))))
 refine C0 (K0 ?_)
 refine C0 ?_
 refine C0 ?_
 first|refine C0 (wpAny_typeNameOfWhole_itemiter hT (K0 ?_))|refine C0 (wpAny_typeNameOf_itemiter hT (K0 ?_))
 refine C0 (wpAny_fieldsOf hit rfl ?_)
 have hown:Builtin.Dict_items.ownsTuple "dict_itemiterator"=true:=⋯
 simp only[hown,if_true]
 show wpAny _ _ (if(Value.ref d==Value.none)=true then _ else _) _ _ _
 rw[N0 (show¬((Value.ref d==Value.none)=true)from K1)]
 refine C0 (K0 ?_)
 refine C0 (wpAny_dictEntries hod hdd ?_)
 have hsz:es.size=ps.length:=by rw[←hpr];simp
 rw[N0 (by rw[hsz];simp)]
 refine C0 (K0 ?_)
 refine C0 (wpAny_dictEpoch hod hdd ?_)
 rw[N0 `Z3]
 refine K0 ?_
 have hlt:i<ps.length:=by
  rcases D2 i ps.length with h|h
  ·exact h
  ·simp[W0 h] at hx
 have hlt':i<es.size:=by rw[hsz];exact hlt
 have hkv:es[i].key=key/\es[i].val=v:=by
  have e1:ps[i]?=some (es[i].key,es[i].val):=by rw[←hpr];simp[hlt']
  rw[e1] at hx
  have:=U1 hx
  exact⟨E3 Prod.fst this,E3 Prod.snd this⟩
 obtain⟨hkey,hval⟩:=hkv
 simp only[show¬((i:Int)<0)from by lia,if_false,Int.toNat_natCast,Array.getElem?_eq_getElem hlt']
 refine C0 ?_
 first|refine C0 (wpAny_typeNameOfWhole_itemiter hT (K0 ?_))|refine C0 (wpAny_typeNameOf_itemiter hT (K0 ?_))
 refine C0 (wpAny_isOneOf_itemiter hT ?_)
 show wpAny _ _ (setField (.ref it) 3 (rawInt ((i:Int)+1))>>=_) _ _ ⟨hp,g,dr,tk,os⟩
 refine C0 (wpAny_setField_rec hit `Z3 λh₁ he₁ hs₁=>?_)
 replace hs₁:Heap.SameBut it hp h₁:=hs₁
 replace he₁:IsItemIter h₁ it d (i+1) ps.length ep ok ov:=by
  have e:((i+1:Nat):Int)=(i:Int)+1:=()
  unfold IsItemIter;rw[e];simpa[rawInt] using he₁
 have hT₁:Shared.TypeIs ⟨h₁,g,dr,tk,os⟩ (.ref it) "dict_itemiterator":=⟨_,he₁,rfl⟩
 refine C0 (F3 ?_)
 refine C0 (wpAny_isOneOf_itemiter hT₁ ?_)
 refine C0 (wpAny_isOneOf_itemiter hT₁ ?_)
 show wpAny _ _ (Builtin.Dict_items.pairFromOwner (.ref it) 6 es[i].key es[i].val) _ _ ⟨h₁,g,dr,tk,os⟩
 unfold Builtin.Dict_items.pairFromOwner
 refine C0 (wpAny_newTuple ?_)
 have he₂:IsItemIter (h₁.push {cls:= .type "tuple",data:= .seq #[es[i].key,es[i].val]}) it d (i+1) ps.length ep ok ov:=G0 _ he₁
 generalize hh₂:h₁.push {cls:= .type "tuple",data:= .seq #[es[i].key,es[i].val]}=h₂ at he₂
 have hz₁:h₁.objs.size=hp.objs.size:=hs₁.1
 have hil:it<hp.objs.size:=Y0 hit
 have ht₂:h₂.get? hp.objs.size=some {cls:= .type "tuple",data:= .seq #[es[i].key,es[i].val]}:=by rw[←hh₂,←hz₁];exact Q0 _ rfl
 have hz₂:h₂.objs.size=hp.objs.size+1:=by rw[←hh₂,Heap.size_push,hz₁]
 have hk₂:∀b o,b≠it->hp.get? b=some o->h₂.get? b=some o:=λb o hb e=>by rw[←hh₂];exact G0 _ (hs₁.extBut b o hb e)
 show wpAny _ _ (Builtin.Dict_items.ownedTupleIsFree (.ref it)>>=_) _ _ ⟨h₂,g,dr,tk,os⟩
 rw[hz₁]
 clear hh₂ he₁ hs₁ hT₁ hz₁ h₁
 refine C0 ?_
 unfold Builtin.Dict_items.ownedTupleIsFree
 refine C0 (wpAny_field he₂ rfl (x:= .none) rfl (K0 ?_))
 simp only[if_true]
 refine C0 (wpAny_field he₂ rfl (x:=ok) rfl ?_)
 refine C0 (wpAny_field he₂ rfl (x:=ov) rfl ?_)
 refine C0 (wpAny_setField_rec he₂ `Z3 λh₃ he₃ hs₃=>?_)
 replace hs₃:Heap.SameBut it h₂ h₃:=hs₃
 replace he₃:IsItemIter h₃ it d (i+1) ps.length ep es[i].key ov:=he₃
 refine C0 (wpAny_setField_rec he₃ `Z3 λh₄ he₄ hs₄=>?_)
 replace hs₄:Heap.SameBut it h₃ h₄:=hs₄
 replace he₄:IsItemIter h₄ it d (i+1) ps.length ep es[i].key es[i].val:=he₄
 refine C0 (wpAny_setField_rec he₄ `Z3 λh₅ he₅ hs₅=>?_)
 replace hs₅:Heap.SameBut it h₄ h₅:=hs₅
 replace he₅:IsItemIterOut h₅ it d (i+1) ps.length ep es[i].key es[i].val hp.objs.size:=he₅
 refine C0 (wpAny_setField_rec he₅ `Z3 λh₆ he₆ hs₆=>?_)
 replace hs₆:Heap.SameBut it h₅ h₆:=hs₆
 replace he₆:IsItemIterOut h₆ it d (i+1) ps.length ep es[i].key es[i].val hp.objs.size:=he₆
 refine C0 (wpAny_letGo (K0 (K0 ⟨_,rfl,K0 (hQ h₆ (hkey▸hval▸he₆) ?_ ?_ ?_)⟩)))
 ·rw[←hval,←hkey];exact hs₆.extBut _ _ (Nat.ne_of_gt hil) (hs₅.extBut _ _ (Nat.ne_of_gt hil) (hs₄.extBut _ _ (Nat.ne_of_gt hil) (hs₃.extBut _ _ (Nat.ne_of_gt hil) ht₂)))
 ·show h₆.objs.size=hp.objs.size+1
  rw[hs₆.1,hs₅.1,hs₄.1,hs₃.1,hz₂]
 ·exact λb o hb e=>hs₆.extBut b o hb (hs₅.extBut b o hb (hs₄.extBut b o hb (hs₃.extBut b o hb (hk₂ b o hb e))))
theorem raw_items_end{d:Addr}{ps:List (Value×Value)}{ok:Value}{Q:Option Value->Shared->Prop}(hh:A.handled=none)(hit:IsItemIter s.heap it d i ps.length ep ok ov)
 (hm:RawE s.heap d ps ep) (hx:ps[i]?=none)
 (hQ:∀h',Heap.ExtBut it s.heap h'->Q none {s with heap:=h'}):wpAny (model prog w) A (pyNext (.ref it)) Q E s:=by
 obtain⟨od,es,hod,hcd,hdd,hpr⟩:=id hm
 have hT:s.TypeIs (.ref it) "dict_itemiterator":=⟨_,hit,rfl⟩
 unfold pyNext
 refine C0 (wpAny_attempt (wpAny_callSpecial?_slot (name:=Str.ofString "__next__") hT F.slot_dict_itemiterator_next
  (J3 F.slot_dict_itemiterator_next hT F.entry_dict_itemiterator_next ?_ (F.args_dict_itemiterator_next_1 _))))
 refine C0 (K0 ?_)
 refine C0 ?_
 refine C0 ?_
 first|refine C0 (wpAny_typeNameOfWhole_itemiter hT (K0 ?_))|refine C0 (wpAny_typeNameOf_itemiter hT (K0 ?_))
 refine C0 (wpAny_fieldsOf hit rfl ?_)
 have hown:Builtin.Dict_items.ownsTuple "dict_itemiterator"=true:=⋯
 simp only[hown,if_true]
 show wpAny _ _ (if(Value.ref d==Value.none)=true then _ else _) _ _ s
 rw[N0 (show¬((Value.ref d==Value.none)=true)from K1)]
 refine C0 (K0 ?_)
 refine C0 (wpAny_dictEntries hod hdd ?_)
 have hsz:es.size=ps.length:=by rw[←hpr];simp
 rw[N0 (by rw[hsz];simp)]
 refine C0 (K0 ?_)
 refine C0 (wpAny_dictEpoch hod hdd ?_)
 rw[N0 `Z3]
 refine K0 ?_
 have hge:es.size<=i:=by rw[hsz];simpa using hx
 simp only[show¬((i:Int)<0)from by lia,if_false,Int.toNat_natCast,Array.getElem?_eq_none hge]
 refine C0 ?_
 first|refine C0 (wpAny_typeNameOfWhole_itemiter hT (K0 ?_))|refine C0 (wpAny_typeNameOf_itemiter hT (K0 ?_))
 show wpAny _ _ (setField (.ref it) 2 .none>>=_) _ _ s
 refine C0 (wpAny_setField hit rfl `Z3 ?_)
 show wpAny _ _ (newExc (.type "StopIteration") []>>=_) _ _ _
 refine C0 ?_
 simp only[newExc,newTuple]
 refine C0 (K2 ?_ (by size_fits))
 refine C0 (m:=firstArgMember _ _) (wpAny_of_eq (a:=Value.none) (by first|rfl|(simp only[firstArgMember];rfl)) ?_)
 refine K2 ?_ (by size_fits)
 simp only[raiseNew]
 refine C0 (wpAny_handled ?_)
 rw[show A.in1.handled=none from hh]
 refine C0 (K0 (wpAny_throw ?_))
 refine C0 (wpAny_isInstance (T:="StopIteration") (b:=true) ⟨_,Q0 _ rfl,rfl⟩ isSubtype_stop ?_)
 exact K0 (hQ _ (((Heap.SameBut.update ..).extBut.push _).push _))
end
noncomputable def Iti(d:Addr)(o:Obj)(u:HO)(ks:List (V×V)):It:=⟨λi H=>i<ks.length/\H d=some (.frz o u),λi H x H'=>∃T p,ks[i]?=some p/\x= .ref T/\H T=none/\H'=upd H T (.tup [p.1,p.2]),λi H=>ks.length<=i/\H d=some (.frz o u)⟩
theorem znT{x1}(d it:Addr)(hne:d≠it)(o:Obj)(u:HO)(vs:List (V×V))(ps:List (Value×Value))(ep:Nat)(es:Array DictEntry)(ex:o.ExactDict)(dat:o.data= .dict es ep)(hes:es.toList.map (λe=>(e.key,e.val))=ps)(rel:∀(i:Nat) (v:V×V),vs[i]?=some v->∃q,ps[i]?=some q/\RelV v.1 q.1/\RelV v.2 q.2)(hl:vs.length=ps.length):
 Turn P w K (.Tuple elts x1 pos) (Iti d o u vs) [it] it (λi h=>i<=ps.length/\∃ok ov,IsItemIter h it d i ps.length ep ok ov) where
 mem:=`Z3
 obj:=λi h st b hb=>by
  obtain⟨_,ok,ov,e⟩:=st
  have:b=it:=by simpa using hb
  subst this
  exact⟨_,e,λv z=>nomatch z⟩
 keep:=λi h h' st k=>⟨st.1,let⟨ok,ov,e⟩:=st.2;⟨ok,ov,k it `Z3 _ e⟩⟩
 item:=by
  intro X hP hw hK hc i pins s σ H E I hf st hg
  subst hP hw hK
  have hi:i<vs.length:=hg.1
  have raw:RawE s.heap d ps ep:=⟨o,es,((show ObjOk X.prog X.w H s.heap d (.frz o u)from I.hok d _ hg.2)).1,ex,dat,hes⟩
  obtain⟨q,hq,rk,rv⟩:=rel i vs[i] (by simp[hi])
  obtain⟨f0,f1,f2,f3,f4,f5⟩:=hf it `Z3
  obtain⟨_,ok,ov,hit⟩:=st
  refine raw_items_next hit raw hq λh' ho ht hsz hk=>⟨.ref s.heap.objs.size,rfl,wpAny_letOwnedTupleGo_items ho λh2 hi2 sb=>?_⟩
  have itlt:it<s.heap.objs.size:=Y0 hit
  have hT:H s.heap.objs.size=none:=I.hok.fresh (S0 _)
  have I1:Inv X pins σ (upd H s.heap.objs.size (.tup [(vs[i]).1,(vs[i]).2])) {s with heap:=s.heap.push {cls:= .type "tuple",data:= .seq #[q.1,q.2]},toks:=s.toks}:=
   I.laid (t':=s.toks) (λb o e=>G0 _ e) (S0 _) ⟨few rfl,[q.1,q.2], .cons rk (.cons rv .nil),⟨_,Q0 _ rfl,rfl,_,rfl⟩,NoDict.new rfl (Q0 _ rfl)⟩
  have ne:it≠s.heap.objs.size:=V1 itlt
  have kk:∀b o,b≠it->(s.heap.push {cls:= .type "tuple",data:= .seq #[q.1,q.2]}).get? b=some o->h2.get? b=some o:=λb o' hb e=>by
   refine(sb.2 b hb).trans ?_
   by_cases z:b=s.heap.objs.size
   ·rw[z] at e⊢
    rw[Q0 _ rfl] at e
    rw[←e];exact ht
   ·exact hk b o' hb (by rw[Heap.get?_push_ne _ _ _ z] at e;exact e)
  have I2:=I1.turned (t':=s.toks) (h':=h2) kk (by rw[ze ne];exact f0) f1 f3 f4 f5
  refine⟨.ref s.heap.objs.size,_,I2,rfl,⟨_,vs[i],by simp[hi],rfl,hT,rfl⟩,⟨(),_,_,hi2⟩,λb hb=>?_⟩
  have:b=it:=by simpa using hb
  subst this
  rw[ze ne];exact f0
 done:=by
   intro X hP hw hK hc i pins s σ H E I hf st hg
   subst hP hw hK
   have hi:vs.length<=i:=hg.1
   have raw:RawE s.heap d ps ep:=⟨o,es,((show ObjOk X.prog X.w H s.heap d (.frz o u)from I.hok d _ hg.2)).1,ex,dat,hes⟩
   obtain⟨hle,ok,ov,hit⟩:=st
   obtain⟨f0,f1,f2,f3,f4,f5⟩:=hf it `Z3
   exact raw_items_end (I.ok.hd hc) hit raw (W0 ()) λh' eb=>⟨rfl,I.turned (t':=s.toks) (λb o hb e=>eb b o hb e) f0 f1 f3 f4 f5⟩
 self:=λA i s Q E st h=>by
  obtain⟨_,ok,ov,hit⟩:=st
  exact W.kcp_self hit h
section
variable{K:Type}[DecidableEq K]{knd:KeyKind prog w K}
end
inductive TwosAt(H:Hp):List Addr->List Str->List V->Prop
 |nil:TwosAt H [] [] []
 |cons {t:Addr} {x:Str} {y:V} {ts:List Addr} {hs:List Str} {ys:List V}:H t=some (.tup [.str x,y])->TwosAt H ts hs ys->TwosAt H (t::ts) (x::hs) (y::ys)
theorem zqj{ts:List Addr}:∀{its:List Value},Vals (ts.map V.ref) its->its=ts.map Value.ref:=by
 induction ts with
 |nil=>intro its r;cases r;rfl
 |cons t ts ih=>intro its r;cases r with
  |cons a b=>rw[ih b];cases a;rfl
section
open PySem.W
def AtG(Oa:Hp->Addr->α->Prop)(H:Hp)(vs:List V)(ps:List α):Prop:=vs.length=ps.length/\∀(i:Nat) (v:V) (p:α),vs[i]?=some v->ps[i]?=some p->∃b,v= .ref b/\Oa H b p
noncomputable abbrev Ky:=Int×Int×List Str
theorem zqp{a b:Ky}(h:a≠b)(e:ltK a b=false):ltK b a=true:=by
 obtain⟨i,n,ps⟩:=a
 obtain⟨j,m,qs⟩:=b
 unfold ltK at *
 simp only at *
 by_cases h1:i=j
 ·by_cases h2:n=m
  ·subst h1 h2
   rw[R0 rfl,R0 rfl] at e⊢
   exact zl5 (λz=>h (by rw[z])) e
  ·rw[R0 h1,N0 h2] at e
   rw[R0 h1.symm,N0 (Ne.symm h2)]
   simp at e⊢;lia
 ·rw[N0 h1] at e
  rw[N0 (Ne.symm h1)]
  simp at e⊢;lia
noncomputable def zjn(k:Ky):PyData:= .tuple [.int k.1, .int k.2.1, .tuple (zI k.2.2)]
def KeyO(H:Hp)(b:Addr)(k:Ky):Prop:=∃p,H b=some (.tup [.int k.1, .int k.2.1, .ref p])/\H p=some (.tup (k.2.2.map V.str))/\∀y∈k.2.2,PyData.strOk y=true
theorem KeyO.tr{b:Addr}{k:Ky}(x:KeyO H b k):Tr H (.ref b) (zjn k):=by
 obtain⟨p,e,ep,ok⟩:=x
 refine .tup e rfl λi v d e1 e2=>?_
 match i,e1,e2 with
 |0,e1,e2=>cases e1;cases e2;exact .int _
 |1,e1,e2=>cases e1;cases e2;exact .int _
 |2,e1,e2=>cases e1;cases e2;exact zmT ep ok
structure RawK(h:Heap)(b:Addr)(k:Ky):Prop where
 at_:∃p ti tn jts,IsTup h b #[.int k.1 ti, .int k.2.1 tn, .ref p]/\Vals (k.2.2.map V.str) jts/\IsTup h p jts.toArray/\(∃as,Reads h (.ref p) (.tuple (zI k.2.2)) as)/\(PyData.tuple (zI k.2.2)).canLay0=true
 rd:∃as,Reads h (.ref b) (zjn k) as
 can:(zjn k).canLay0=true
theorem zfG{h:Heap}{xs:Array Value}(x:IsTup h a xs)(k:∀b o,h.get? b=some o->h'.get? b=some o):IsTup h' a xs:=let⟨o,g,r⟩:=x;⟨o,k _ _ g,r⟩
theorem KeyO.raw(I:Inv X pins σ H s){b:Addr}{k:Ky}(x:KeyO H b k)(kp:∀b o,s.heap.get? b=some o->h'.get? b=some o):RawK h' b k:=by
 have t:=x.tr
 obtain⟨p,e,ep,ok⟩:=x
 obtain⟨its,r1,t1,_⟩:=I.tuple (SqT.of e)
 obtain⟨jts,s1,u1,_⟩:=I.tuple (SqT.of ep)
 obtain⟨_,_,_,rfl,x1,x2,x3⟩:=zu7 r1
 obtain⟨ti,rfl⟩:=x1
 obtain⟨tn,rfl⟩:=x2
 cases x3
 obtain⟨as,rd1⟩:=(zmT ep ok).reads I (.ref p) rfl
 obtain⟨bs,rd2⟩:=t.reads I (.ref b) rfl
 exact⟨⟨p,ti,tn,jts,zfG t1 kp,s1,zfG u1 kp,⟨as,Reads.keeps kp rd1⟩,(zmT ep ok).can⟩,⟨bs,Reads.keeps kp rd2⟩,t.can⟩
theorem zsU{b:Addr}{k1 k2:Ky}(hu:A.units+63<cLine)(x:RawK s.heap a k1)(y:RawK s.heap b k2)(q:Q (.bool (ltK k1 k2)) s):wpAny (model prog w) A (richCompare .Lt (.ref a) (.ref b)) Q E s:=by
 obtain⟨i1,n1,ps⟩:=k1
 obtain⟨i2,n2,qs⟩:=k2
 obtain⟨p,ti1,tn1,jts,t1,s1,u1,⟨as,rd1⟩,c1⟩:=x.at_
 obtain⟨p2,ti2,tn2,jts2,t2,s2,u2,⟨bs,rd2⟩,c2⟩:=y.at_
 obtain⟨⟨c1',d1,e1,f1⟩,ho,hc,m1,hd⟩:=id t1
 obtain⟨⟨c2',d2,e2,f2⟩,ho2,hc2,m2,hd2⟩:=id t2
 simp only at hc hd hc2 hd2
 subst hc hd hc2 hd2
 have mk:∀(k:Nat) (res:Bool),k<=3->ltK (i1,n1,ps) (i2,n2,qs)=res->
  (∀prog w i x y,i<k->([.int i1 ti1, .int n1 tn1, .ref p]:List Value)[i]?=some x->([.int i2 ti2, .int n2 tn2, .ref p2]:List Value)[i]?=some y->∀(E:Value->Shared->Prop) (Q:Bool->Shared->Prop),Q true s->wpAny (model prog w) A.in1 (eqBool x y) Q E s)->
  ((k=3/\res=false)\/∃x y,([.int i1 ti1, .int n1 tn1, .ref p]:List Value)[k]?=some x/\([.int i2 ti2, .int n2 tn2, .ref p2]:List Value)[k]?=some y/\(∀prog w (E:Value->Shared->Prop) (Q:Bool->Shared->Prop),Q false s->wpAny (model prog w) A.in1 (eqBool x y) Q E s)/\∀prog w (E:Value->Shared->Prop) (Q:Value->Shared->Prop),Q (.bool res) s->wpAny (model prog w) A.in1 (richCompare .Lt x y) Q E s)->
  wpAny (model prog w) A (richCompare .Lt (.ref a) (.ref b)) Q E s:=by
  intro k res hk3 er he hk
  refine richCompare_meets_room (op:= .Lt) ⟨_,ho,rfl⟩ ⟨_,ho2,rfl⟩ F.slot_tuple_lt F.entry_tuple_lt (F.args_tuple_lt_2 _ _) (zef a b m1 m2 d1 d2 f1 f2 [.int i1 ti1, .int n1 tn1, .ref p] [.int i2 ti2, .int n2 tn2, .ref p2] k res) ⟨ho,ho2,he,hk3,hk3,?_,⟨(λx=>nomatch x),by rw[er] at q;exact q⟩⟩ ()
  rcases hk with⟨h1,h2⟩|h
  ·exact .inl ⟨h1,by rw[h2];rfl⟩
  ·exact .inr h
 have intE:∀{i j:Int} {t t':Tok} {b:Bool} (e:(i==j)=b) (prog:Program) (w:World) (E:Value->Shared->Prop) (Q:Bool->Shared->Prop),Q b s->wpAny (model prog w) A.in1 (eqBool (.int i t) (.int j t')) Q E s:=λe prog w E Q hq=>wpAny_eqBool_int (by rw[e];exact hq)
 have tupE:∀{b:Bool} (e:decide (ps=qs)=b) (prog:Program) (w:World) (E:Value->Shared->Prop) (Q:Bool->Shared->Prop),Q b s->wpAny (model prog w) A.in1 (eqBool (.ref p) (.ref p2)) Q E s:=λ{b} e prog w E Q hq=>SeqAt.eqAt_reads _ _ A.in1 s _ _ _ _ rd1 rd2 c1 c2 (by
  have:=Y1 (Nat.min_le_left (PyData.tuple (zI ps)).depth (PyData.tuple (zI qs)).depth) zhb
  show A.units+1+_<cLine
  simp only at *
  lia) prog w E Q (by rw[zfd,e];exact hq)
 by_cases hi:i1=i2
 ·by_cases hn:n1=n2
  ·by_cases hq:ps=qs
   ·refine mk 3 false (S0 _) (by unfold ltK;rw[R0 hi,R0 hn];subst hq;exact zk1 _) (λprog w i x y h3 hx hy E Q hQ=>?_) (.inl ⟨rfl,rfl⟩)
    match i,h3,hx,hy with
    |0,_,hx,hy=>cases hx;cases hy;exact intE (by simp[hi]) prog w E Q hQ
    |1,_,hx,hy=>cases hx;cases hy;exact intE (by simp[hn]) prog w E Q hQ
    |2,_,hx,hy=>cases hx;cases hy;exact tupE (P0 hq) prog w E Q hQ
   ·refine mk 2 (ltL ps qs) () (by unfold ltK;rw[R0 hi,R0 hn]) (λprog w i x y h3 hx hy E Q hQ=>?_) (.inr ⟨_,_,rfl,rfl,tupE (U0 hq),λprog w E Q hQ=>zqJ s1 s2 u1 u2 (by show A.units+1<cLine;lia) hQ⟩)
    match i,h3,hx,hy with
    |0,_,hx,hy=>cases hx;cases hy;exact intE (by simp[hi]) prog w E Q hQ
    |1,_,hx,hy=>cases hx;cases hy;exact intE (by simp[hn]) prog w E Q hQ
  ·refine mk 1 (decide (n1<n2)) () (by unfold ltK;rw[R0 hi,N0 hn]) (λprog w i x y h3 hx hy E Q hQ=>?_) (.inr ⟨_,_,rfl,rfl,intE (by simp[hn]),λprog w E Q hQ=>(PyProof.Rows.lt_int hQ:wpAny (model prog w) A.in1 (compareOp .Lt (.int n1 tn1) (.int n2 tn2)) Q E s)⟩)
   match i,h3,hx,hy with
   |0,_,hx,hy=>cases hx;cases hy;exact intE (by simp[hi]) prog w E Q hQ
 ·exact mk 0 (decide (i1<i2)) () (by unfold ltK;rw[N0 hi]) (λprog w i x y h3 hx hy E Q hQ=>absurd h3 (Nat.not_lt_zero _)) (.inr ⟨_,_,rfl,rfl,intE (by simp[hi]),λprog w E Q hQ=>(PyProof.Rows.lt_int hQ:wpAny (model prog w) A.in1 (compareOp .Lt (.int i1 ti1) (.int i2 ti2)) Q E s)⟩)
theorem zqz{k1 k2:Ky}:(zjn k1).eqv (zjn k2)=decide (k1=k2):=by
 obtain⟨i1,n1,ps⟩:=k1
 obtain⟨i2,n2,qs⟩:=k2
 unfold zjn
 have e:=zfd (xs:=ps) (ys:=qs)
 simp only[PyData.eqv,PyData.eqvAll,Bool.and_true] at e⊢
 rw[e]
 rw[B3]
 simp[Prod.mk.injEq]
theorem znC{k:Ky}:(zjn k).depth<=62:=by
 have:=zhb (xs:=k.2.2)
 unfold zjn
 simp only[PyData.depth,PyData.depthAll] at *
 lia
theorem zsQ{b:Addr}{k1 k2:Ky}{Q:Bool->Shared->Prop}(hu:A.units+62<cLine)(x:RawK s.heap a k1)(y:RawK s.heap b k2)(q:Q (decide (k1=k2)) s):wpAny (model prog w) A (eqBool (.ref a) (.ref b)) Q E s:=by
 obtain⟨as,rd1⟩:=x.rd
 obtain⟨bs,rd2⟩:=y.rd
 exact SeqAt.eqAt_reads _ _ A s _ _ _ _ rd1 rd2 x.can y.can (by
  have:=Y1 (Nat.min_le_left (zjn k1).depth (zjn k2).depth) znC
  lia) prog w E Q (by rw[zqz];exact q)
end
section
variable[DecidableEq α]{mm:α->α->α×α}
structure MM(mm:α->α->α×α):Prop where
 two:∀a b,mm a b=(a,b)\/mm a b=(b,a)
 sym:∀a b,mm a b=mm b a
noncomputable def ed(mm:α->α->α×α):List α->List (α×α)
 |a::b::r=>mm a b::ed mm (b::r)
 |_=> []
end
noncomputable def mmS(x y:Str):Str×Str:=(if ltS y x=true then y else x,if ltS x y=true then y else x)
structure SW(g:Str)(ps:List (Str×Str))(w:List Str):Prop where
 nd:w.Nodup
 last:w.getLast?=some g
 ties:∀p∈ed mmS w,p∈ps
structure WOk(hs w:List Str):Prop where
 ne:1<=w.length
 nd:w.Nodup
 mem:∀y∈w,y∈hs
structure Bf(g:Str)(hs:List Str)(ps:List (Str×Str))(ws:List (List Str))(n:Nat):Prop where
 nd:ws.Nodup
 sw:∀w∈ws,SW g ps w
 root:[g]∈ws
 src:∀y r,y::r∈ws->r≠ []->r∈ws.take n
 cl:∀y x r,x::r∈ws.take n->y∈hs->mmS y x∈ps->y∉x::r->y::x::r∈ws
structure Df(g:Str)(ps:List (Str×Str))(M:List Str->Option (List Str))(L F:List (List Str)):Prop where
 nd:L.Nodup
 fnd:F.Nodup
 fsub:∀w∈F,w∈L
 sw:∀w∈L,SW g ps w/\M w≠none
 root:[g]∈L
 src:∀y r,y::r∈L->r≠ []->r∈L/\r∉F
 cl:∀y x r,x::r∈L->x::r∉F->mmS y x∈ps->y∉x::r->M (y::x::r)≠none->y::x::r∈L
structure DfW(g:Str)(ps:List (Str×Str))(M:List Str->Option (List Str))(x:Str)(r ds:List Str)(L F:List (List Str)):Prop where
 nd:L.Nodup
 fnd:F.Nodup
 fsub:∀w∈F,w∈L
 sw:∀w∈L,SW g ps w/\M w≠none
 root:[g]∈L
 src:∀y q,y::q∈L->q≠ []->q∈L/\q∉F
 me:x::r∈L/\x::r∉F
 kids:∀y,y::x::r∈L->y∈ds
 cl:∀y a q,a::q∈L->a::q∉F->a::q≠x::r->mmS y a∈ps->y∉a::q->M (y::a::q)≠none->y::a::q∈L
 clw:∀y∈ds,y∉x::r->M (y::x::r)≠none->y::x::r∈L
section
variable{M:List Str->Option (List Str)}{r ds:List Str}{L F:List (List Str)}
end
theorem Inv.thaw{d:Addr}{u:HO}{o:Obj}(I:Inv X pins σ H s)(e:H d=some (.frz o u))(h0:∀o' u',X.H₀ d≠some (.frz o' u')):Inv X pins σ (upd H d u) s where
 ok:=I.ok
 os:=I.os
 bare:=I.bare
 base:={
  keep:=I.base.keep
  slot:=I.base.slot
  free:=λb o h1 h2 h3=>by
   have:=I.base.free b o h1 h2 h3
   rw[ze λz=>by rw[z,e] at this;cases this];exact this
  there:=I.base.there
  tups:=λb xs h=>by
   have:=I.base.tups b xs h
   rw[ze λz=>by rw[z,e] at this;cases this];exact this
  frzs:=λb o u h=>by
   have:=I.base.frzs b o u h
   have hb:b≠d:=λz=>h0 o u (by rw[←z];exact h)
   rw[ze hb];exact this
  tbls:=λb ps h=>by
   obtain⟨more,this⟩:=I.base.tbls b ps h
   exact⟨more,by rw[ze λz=>by rw[z,e] at this;cases this];exact this⟩}
 loc:=I.loc
 cell:=I.cell
 free:=by
  have:=I.free
  rw[ze λz=>by rw[z,e] at this;cases this];exact this
 freeC:=λx c h=>by
  have:=I.freeC x c h
  rw[ze λz=>by rw[z,e] at this;cases this];exact this
 pin:=λp hp=>by
  obtain⟨h1,h2,h3⟩:=I.pin p hp
  exact⟨h1,by rw[ze λz=>by rw[z,e] at h2;cases h2];exact h2,h3⟩
 hok:=λa o' h=>by
  have st:∀{v:HO},ObjOk X.prog X.w H s.heap a v->ObjOk X.prog X.w (upd H d u) s.heap a v:=λx=>x.stay (λ_ _ _ q=>q) (λb q=>by rw[ze λz=>by rw[z,e] at q;cases q];exact q) (λb xs q=>by rw[ze λz=>by rw[z,e] at q;cases q];exact q)
  by_cases z:a=d
  ·subst z
   rw[zc] at h
   cases h
   exact st (I.hok a _ e).2
  ·rw[ze z] at h
   exact st (I.hok a _ h)
 len:=I.len
theorem zkT{e:Expr}(h:QE X e te):QE X e (λσ H Q=>te σ H λv H'=>∃d o u,H' d=some (.frz o u)/\(∀o' u',X.H₀ d≠some (.frz o' u'))/\Q v (upd H' d u)):=⟨by
 intro pins s σ H Q I q
 refine thn (h.o pins s σ H _ I q) λv s1 zq=>?_
 obtain⟨x,H1,I1,r1,q1⟩:=zq
 obtain⟨d,o,u,e,h0,q1⟩:=q1
 exact⟨x,_,I1.thaw e h0,r1,q1⟩⟩
inductive ChAt(H:Hp):List (Key×V)->List (Str×Option (List Str))->Prop
 |nil:ChAt H [] []
 |cons {x:Str} {v:V} {o:Option (List Str)} {kvs:List (Key×V)} {cs:List (Str×Option (List Str))}:zwC H v o->ChAt H kvs cs->ChAt H ((Sum.inr x,v)::kvs) ((x,o)::cs)
structure Zp3(z TI TO0 i1 i2 i3:Addr):Prop where
 TIz:TI≠z
 TOz:TO0≠z
 i1z:i1≠z
 i2z:i2≠z
 i3z:i3≠z
 TITO:TI≠TO0
 TIi1:TI≠i1
 TIi2:TI≠i2
 TIi3:TI≠i3
 TOi1:TO0≠i1
 TOi2:TO0≠i2
 TOi3:TO0≠i3
 i12:i1≠i2
 i13:i1≠i3
 i23:i2≠i3
structure Pp where
 one:Str
 to:Str
 nr:Int
 way:Option (List Str)
 marks:List Str
structure PpOk(hs:List Str)(ps:List (Str×Str))(p:Pp):Prop where
 one:p.one∈hs
 to:p.to∈hs
 tied:p.to∈zbo ps p.one
 nr:1<=p.nr
 mnm:∀x∈p.marks,zm x=true
 ml:p.marks.length<=90
 non:p.way=none->p.marks=[]
 way:∀w,p.way=some w->1<=w.length/\w.length<=10/\∀x∈w,zm x=true
inductive Ch(hs:List Str)(lks hds:List D):Str->List Str->List Pp->Prop
 |one {to g:Str} {nr:Int} {m:List Str} (h1:1<=nr) (h2:zP [g] (some to) (zA hs hds g) []=some m):Ch hs lks hds to [g] [⟨g,to,nr,some [g],m⟩]
 |more {to y x:Str} {ws:List Str} {nr:Int} {m:List Str} {q:Pp} {P:List Pp} (h:Ch hs lks hds y (x::ws) (q::P)) (h0:zc3 (zW (y::x::ws) q.marks (zA hs lks y))=false) (h1:1<=nr)
   (h2:zP (y::x::ws) (some to) (zA hs hds y) q.marks=some m):Ch hs lks hds to (y::x::ws) (⟨y,to,nr,some (y::x::ws),m⟩::q::P)
section
variable{to:Str}{w:List Str}{P:List Pp}
end
section
variable{R:Result->Shared->Prop}{n:Nat}{P:Nat->Value->Prop}{St:Nat->Heap->Prop}
end
section
open PySem.W PyProof.V
end
theorem zst{a b:Str}(h1:leS a b=true)(h2:leS b a=true):a=b:=by
 unfold leS at *
 rw[Bool.not_eq_true'] at *
 by_cases e:a=b
 ·exact e
 ·rw[zei e h2] at h1;cases h1
theorem zj5:∀{ts:List Str},sortedS ts=true->ts.Pairwise (λa b=>leS a b=true)
 |[],_=> .nil
 |[a],_=>List.pairwise_singleton _ _
 |a::b::ts,h=>by
  have h':(!ltCps b.cps.toList a.cps.toList&&risingS b ts)=true:=h
  rw[X0] at h'
  have hr:sortedS (b::ts)=true:=h'.2
  have hab:leS a b=true:=by
   have h1:ltS b a=false:=by
    have:=h'.1
    rw[ltCps_eq] at this
    simpa using this
   unfold leS
   rw[h1];rfl
  have ih:=zj5 hr
  refine List.pairwise_cons.mpr ⟨λz hz=>?_,ih⟩
  rcases D1.mp hz with rfl|hz
  ·exact hab
  ·exact zr8 a b z hab ((List.pairwise_cons.mp ih).1 z hz)
theorem ztc{l:List Str}(hp:ts.Perm l)(hs:sortedS ts=true):ts=srt l:=
 (hp.trans (zc4 l).symm).eq_of_pairwise (λa b _ _ h1 h2=>zst h1 h2) (zj5 hs) (List.pairwise_mergeSort zr8 zs5 l)
noncomputable def zjD:Sp:=λvs H Q _=>∃(pm:Addr) (v:V) (t:List Str) (w m:Str),vs=[.ref pm,v]/\H pm=some (.tup (t.map V.str))/\Rep H v (.tup [.str w, .str m])/\(∀x∈t,zm x=true)/\zm m=true/\t.length<=60/\∀(p:Addr) (H':Hp),H' p=some (.tup ((zdJ t w m).map V.str))->Same H H'->Q (.ref p) H'
def ziv(rs:List D):Prop:=rs.length<=90/\∀r∈rs,∃cs x,r= .tup [.tup cs,x]/\(∀c∈cs,zD c=true)/\(x= .tup [.str "keep"]\/∃w m,x= .tup [.str w, .str m]/\(w="put"\/w="strike")/\zm m=true)
theorem znj(h:z7 d=true):∃rs,d= .tup rs/\ziv rs:=by
 cases d with
 |tup rs=>
  have h:(decide (rs.length<=90)&&rs.all zal)=true:=h
  rw[X0] at h
  refine⟨rs,rfl,O0 h.1,λr hr=>?_⟩
  obtain⟨cs,x,rfl,h4,hc,hx⟩:=zkr (N2.mp h.2 r hr)
  exact⟨cs,x,rfl,hc,znc hx⟩
 |_=>cases h
structure Mst(rs:List D)(Pr:Nat->List Str->Prop):Prop where
 skip:∀i t,Pr i t->Pr (i+1) t
 next:∀i t w m cs,Pr i t->rs[i]?=some (.tup [.tup cs, .tup [.str w, .str m]])->Pr (i+1) (zdJ t w m)
 ok:∀i t,i<=rs.length->Pr i t->(∀y∈t,zm y=true)/\t.length<=60
noncomputable def zjJ:Sp:=λvs H Q _=>∃(v:V) (pw pm:Addr) (vt:V) (x:Str) (ws ms:List Str) (to:Option Str) (g:Str) (hs:List Str) (ps:List (Str×Str)) (lks hds:List D) (j:Nat) (rs:List D) (Pr:Nat->List Str->Prop),vs=[v, .ref pw, .ref pm,vt]/\Rep H v (zag g hs ps lks hds)/\TownOk g hs ps lks hds/\hs[j]?=some x/\hds[j]?=some (.tup rs)/\ziv rs/\Mst rs Pr/\Pr 0 ms/\H pw=some (.tup ((x::ws).map V.str))/\H pm=some (.tup (ms.map V.str))/\TO0 vt to/\(∀y∈x::ws,zm y=true)/\ws.length<=90/\∀(u:V) (H':Hp),zwC H' u (zP (x::ws) to rs ms)->Same H H'->Q u H'
theorem zrl{w m:Str}:(zdJ t w m).length<=t.length+1:=by
 unfold zdJ
 rw[(zc4 _).length_eq]
 unfold zaE
 rw[b0]
 have:=List.length_filter_le (λx=>!decide (x=m)) t
 split<;>simp<;>lia
theorem zi6{w m:Str}(h:y∈zdJ t w m):y∈t\/y=m:=by
 unfold zdJ at h
 rw[(zc4 _).mem_iff] at h
 unfold zaE at h
 rcases Q2.mp h with h|h
 ·exact .inl (Y2.mp h).1
 ·split at h
  ·exact .inr (C2.mp h)
  ·cases h
def Mn(c i:Nat)(t:List Str):Prop:=(∀y∈t,zm y=true)/\t.length<=c+i
theorem zvA(h:ziv rs)(hc:c+rs.length<=60):Mst rs (Mn c) where
 skip:=λi t h=>⟨h.1,by have:=h.2;lia⟩
 next:=λi t w m cs M e=>by
  obtain⟨cs',x,e1,_,hx⟩:=h.2 _ (Z0 e)
  cases e1
  rcases hx with z|⟨w',m',e2,_,hm⟩
  ·cases z
  ·cases e2
   refine⟨λy hy=>?_,by have:=zrl (t:=t) (w:=w) (m:=m);have:=M.2;lia⟩
   rcases zi6 hy with h|h
   ·exact M.1 y h
   ·rw[h];exact hm
 ok:=λi t hi M=>⟨M.1,by have:=M.2;lia⟩
theorem zd1{ws:List Str}{to:Option Str}:∀{rs:List D} {ms t:List Str},(∀r∈rs,∃cs x,r= .tup [.tup cs,x]/\(∀c∈cs,zD c=true)/\(x= .tup [.str "keep"]\/∃w m,x= .tup [.str w, .str m]/\(w="put"\/w="strike")/\zm m=true))->(∀y∈ms,zm y=true)->zP ws to rs ms=some t->∀y∈t,zm y=true
 |[],ms,t,_,h,e=>by rw[zP] at e;cases e;exact h
 |r::rs,ms,t,hr,h,e=>by
  obtain⟨cs,x,rfl,_,hx⟩:=hr r N1
  have hr':=λr h=>hr r (F1 _ h)
  rw[zP] at e
  split at e
  ·rcases hx with rfl|⟨w,m,rfl,_,hm⟩
   ·cases e
   ·exact zd1 hr' (λy hy=>(zi6 hy).elim (h y) λz=>by rw[z];exact hm) e
  ·exact zd1 hr' h e
theorem zw0{N B C:St->Hp->Prop}{R:VK}(k:∀n:St->Hp->Prop,(∀σ' H',sb ⟨N,R,B,C⟩ σ' H'->n σ' H')->sa ⟨n,R,B,C⟩ σ H):zpn sa sb ⟨N,R,B,C⟩ σ H:=k _ λ_ _ h=>h
section
variable{δ ε ζ η θ:Type}
end
theorem zpa(d it:Addr)(hne:d≠it)(o:Obj)(u:HO)(vs:List V)(kvs:List (Key×Value))(ep:Nat)
 (dat:∀h:Heap,h.get? d=some o->h.DictAt (zak P w) d kvs ep) (rel:∀(i:Nat) (v:V),vs[i]?=some v->∃q,kvs[i]?=some q/\RelV v q.2) (hl:vs.length=kvs.length):
 Turn P w K tg (Itd d o u vs) [it] it (λi h=>i<=kvs.length/\h.IsValIter it d i kvs.length ep) where
 mem:=`Z3
 obj:=λi h st b hb=>by
  obtain⟨_,o,e,c,dd⟩:=st
  have:b=it:=by simpa using hb
  subst this
  exact⟨o,e,λv z=>by rw[dd] at z;cases z⟩
 keep:=λi h h' st k=>⟨st.1,st.2.at λo e=>k it `Z3 o e⟩
 item:=by
  intro X hP hw hK hc i pins s σ H E I hf st hg
  subst hP hw hK
  have hi:i<vs.length:=hg.1
  have hm:=dat s.heap ((show ObjOk X.prog X.w H s.heap d (.frz o u)from I.hok d _ hg.2)).1
  obtain⟨⟨k,u'⟩,hu,ru⟩:=rel i vs[i] (by simp[hi])
  obtain⟨f0,f1,f2,f3,f4,f5⟩:=hf it `Z3
  refine wpAny_pyNext_values_item st.2 hm hu λh' st' sb=>?_
  have I1:Inv X pins σ H {s with heap:=h'}:=I.turned (t':=s.toks) (λb o hb e=>(sb.2 b hb).trans e) f0 f1 f3 f4 f5
  obtain⟨o2,e,c,dd⟩:=id st'
  exact⟨u',rfl,zjO (s:={s with heap:=h'}) e c dd ⋯ ⟨vs[i],H,I1,ru,⟨rfl,by simp[hi]⟩,⟨(),st'⟩,λb hb=>(hf b hb).1⟩⟩
 done:=by
   intro X hP hw hK hc i pins s σ H E I hf st hg
   subst hP hw hK
   have hi:vs.length<=i:=hg.1
   have hm:=dat s.heap ((show ObjOk X.prog X.w H s.heap d (.frz o u)from I.hok d _ hg.2)).1
   obtain⟨f0,f1,f2,f3,f4,f5⟩:=hf it `Z3
   exact wpAny_pyNext_values_end (I.ok.hd hc) st.2 hm (W0 ()) λh' eb=>⟨rfl,I.turned (t':=s.toks) (λb o hb e=>eb b o hb e) f0 f1 f3 f4 f5⟩
 self:=λA i s Q E st h=>wpAny_pyIter_valiter st.2 h
noncomputable def zv6(tl:TE):TI:=λσ H R=>tl σ H λx H1=>∃d kvs,x= .ref d/\H1 d=some (.dK kvs)/\∀(o:Obj),(kvs.map (·.1)).Nodup->R (Itd d o (.dK kvs) (kvs.map (·.2))) (upd H1 d (.frz o (.dK kvs)))
theorem zq5{o:Expr}{to:TE}(ho:QE X o to)(hbase:autoParam (attributeBase o "values" X.env (eval o X.env)=eval o X.env) u4)(hline:autoParam ((apos.endLine==cpos.line)=true) u4):QI X tg (.Call (.Attribute o "values" apos) [] [] cpos) (zv6 to):=⟨by
 intro pins s σ H R I h
 refine wpAny_Call_method0_late hbase hline (thn (ho.o pins s σ H _ I h) λv s1 zq=>?_)
 obtain⟨x,H1,I1,r1,q1⟩:=zq
 obtain⟨d,kvs,rfl,e,q⟩:=q1
 cases r1
 obtain⟨hz,nsys,vs,rel,hD⟩:=zjW I1.hok e
 obtain⟨ob,es,ep,g,ex,dat,ko,pr,nd⟩:=id hD
 have ety:s1.TypeIs (.ref d) "dict":=⟨ob,g,ex.1⟩
 have dlt:d<s1.heap.objs.size:=Y0 g
 have dat':∀h:Heap,h.get? d=some ob->h.DictAt (zak X.prog X.w) d vs ep:=λh e=>⟨ob,es,e,ex,dat,ko,pr,nd⟩
 have nd':(kvs.map (·.1)).Nodup:=by rw[zkI rel];exact nd
 obtain⟨hll,hget⟩:=zen rel
 refine⟨"dict","dict.values",F.plainAttrs_dict,F.slot_dict_values,F.type_dict_values,ety,λa z=>?_,Calls.callWith_builtin rfl (PySem.evalArgs_none ?_)⟩
 ·cases z;exact⟨ob,g,ex.2.1⟩
 refine J3 F.slot_dict_values ety F.entry_dict_values ?_ (F.args_dict_values_1 _)
 refine C0 ?_
 unfold Builtin.Dict.noArgs
 refine C0 (wpAny_notOrdered_dict ety ?_)
 show wpAny _ _ (pure d) _ _ s1
 refine K0 ?_
 show wpAny _ _ (Builtin.Dict.showsAll d>>=_) _ _ s1
 unfold Builtin.Dict.showsAll
 rw[N0 (by rw[nsys];exact K1)]
 refine C0 (K0 ?_)
 refine C0 (K2 (K0 ⟨_,rfl,?_⟩))
 have hv:Heap.IsValuesView (s1.heap.push {cls:= .type "dict_values",data:= .fields #[.ref d]}) s1.heap.objs.size d:=⟨_,Q0 _ rfl,rfl,rfl⟩
 have I2:Inv X pins σ (upd H1 d (.frz ob (.dK kvs))) {s1 with heap:=s1.heap.push {cls:= .type "dict_values",data:= .fields #[.ref d]},toks:=s1.toks}:=(I1.frzK e g).kept (t':=s1.toks) λb o e=>G0 _ e
 refine wpAny_pyIter_values (s:={s1 with heap:=s1.heap.push {cls:= .type "dict_values",data:= .fields #[.ref d]}}) hv (dat' _ (G0 _ g)) ?_
 have itn:(s1.heap.push {cls:= .type "dict_values",data:= .fields #[.ref d]}).objs.size=s1.heap.objs.size+1:=Heap.size_push ..
 refine⟨_,[(s1.heap.push {cls:= .type "dict_values",data:= .fields #[.ref d]}).objs.size],_,_,upd H1 d (.frz ob (.dK kvs)),rfl,I2.kept (t':=s1.toks) λb o e=>G0 _ e,zpa d _ (by rw[itn];exact V1 (Nat.lt_succ_of_lt dlt)) ob (.dK kvs) (kvs.map (·.2)) vs ep dat' (λi v hv=>?_) (by rw[D0];exact hll),⟨Z1 _,⟨_,Q0 _ rfl,rfl,rfl⟩⟩,λb hb=>?_,q ob nd'⟩
 ·rw[V0] at hv
  cases hz:kvs[i]? with
  |none=>rw[hz] at hv;cases hv
  |some p=>
   rw[hz] at hv;cases hv
   have hi:i<vs.length:=by have:=(y1.mp hz).1;lia
   exact⟨vs[i],by simp[hi],(hget i p vs[i] hz (by simp[hi])).2⟩
 ·have:b=(s1.heap.push {cls:= .type "dict_values",data:= .fields #[.ref d]}).objs.size:=by simpa using hb
  subst this
  refine I2.fpOk (S0 _) ?_
  rw[ze (by rw[itn];exact Nat.ne_of_gt (Nat.lt_succ_of_lt dlt))]
  exact I1.hok.fresh (by rw[itn];exact Nat.le_succ _)⟩
section
open PySem.W
end
section
variable{R:Result->Shared->Prop}{n:Nat}{P:Nat->Value->Prop}{St:Nat->Heap->Prop}
def zrT(val:Nat->Value)(lt:Nat->Nat->Bool)(j:Nat)(items:Array Value):Prop:=(j=0/\items= #[])\/∃m<j,items= #[val m,val m]/\∀i<j,i≠m->lt m i=true
theorem zrv(W:Walks prog w A.in1 I fp wr n P St)(val:Nat->Value)(lt:Nat->Nat->Bool)(OK:Heap->Prop)(hval:∀i v,P i v->v=val i)(S:Addr)(hSf:S∉fp)
 (frame:∀h h',OK h->(∀b o,b∉wr->b≠S->h.get? b=some o->h'.get? b=some o)->OK h')
 (cmp:∀i j (s':Shared) (Q E:Value->Shared->Prop),i<n->j<n->i≠j->OK s'.heap->Q (.bool (lt i j)) s'->wpAny (model prog w) A.in1 (richCompare .Lt (val i) (val j)) Q E s')
 (tri:∀i j,i<n->j<n->i≠j->lt i j=false->lt j i=true) (tr:∀i j k,lt i j=true->lt j k=true->lt i k=true) (hn:0<n):
 ∀(k j:Nat) (s:Shared) (items:Array Value) (c:Nat),n -j=k->j<=n->St j s.heap->OK s.heap->zrT val lt j items->s.heap.get? S=some {cls:= .type "list",dict:=none,data:= .seq items c,slots:= #[]}->
 (∀m h' tk,m<n->(∀i<n,i≠m->lt m i=true)->(∀b o,b∉wr->b≠S->s.heap.get? b=some o->h'.get? b=some o)->R (.ok (.ret (val m))) {s with heap:=h',toks:=tk})->
 codeAny (model prog w) A (.builtin "min.loop" ⟨[.ref I, .none, .ref S],[]⟩) R s:=by
 have hSw:S∉wr:=λh=>hSf (W.sub _ h)
 have nm:(toString "min"++toString ".loop":String)="min.loop":=⋯
 intro k
 induction k with
 |zero=>
  intro j s items c hk hj hst ok hb hS hR
  have ej:j=n:=()
  subst ej
  refine codeAny_builtin F.entry_min_loop ?_
  rw[Around.under_plainId F.plain_min_loop _]
  show wpAny _ A.in1 (seqItems? (.ref S)>>=_) _ _ s
  refine C0 (wpAny_seqItems hS rfl ?_)
  show wpAny _ A.in1 (tryCatch (pyNext (.ref I)) _>>=_) _ _ s
  refine C0 (wpAny_tryCatch (W.done s _ _ hst λh' tk hk'=>?_))
  have hS':=hk' S _ hSw hS
  rcases hb with⟨z,_⟩|⟨m,hm,rfl,hbest⟩
  ·lia
  ·show wpAny _ A.in1 (updateSeq S (λ_=> #[])>>=_) _ _ _
   refine C0 (wpAny_updateSeq hS' rfl (C0 (wpAny_letGo (K0 ?_))))
   exact hR m _ tk hm hbest λb o hbw hbS e=>(Heap.get?_update_other _ _ (Ne.symm hbS)).trans (hk' b o hbw e)
 |succ k ih=>
  intro j s items c hk hj hst ok hb hS hR
  refine codeAny_builtin F.entry_min_loop ?_
  rw[Around.under_plainId F.plain_min_loop _]
  show wpAny _ A.in1 (seqItems? (.ref S)>>=_) _ _ s
  refine C0 (wpAny_seqItems hS rfl ?_)
  show wpAny _ A.in1 (tryCatch (pyNext (.ref I)) _>>=_) _ _ s
  refine C0 (wpAny_tryCatch (W.item j s _ _ () hst λv h' tk hP hst' hk'=>?_))
  have hS':=hk' S _ hSw hS
  have ev:=hval _ _ hP
  subst ev
  have okh:OK h':=frame _ _ ok λb o b1 _ e=>hk' b o b1 e
  have go:∀(its:Array Value) (h2:Heap) (tk2 c2:Nat),zrT val lt (j+1) its->h2.get? S=some {cls:= .type "list",dict:=none,data:= .seq its c2,slots:= #[]}->St (j+1) h2->(∀b o,b∉wr->b≠S->s.heap.get? b=some o->h2.get? b=some o)->
   codeAny (model prog w) A (.builtin "min.loop" ⟨[.ref I, .none, .ref S],[]⟩) R {s with heap:=h2,toks:=tk2}:=λits h2 tk2 c2 hb2 hS2 st2 k2=>
   ih (j+1) {s with heap:=h2,toks:=tk2} its c2 () () st2 (frame _ _ ok k2) hb2 hS2 λm h3 tk3 hm hv k3=>hR m h3 tk3 hm hv λb o b1 b2 e=>k3 b o b1 b2 (k2 b o b1 b2 e)
  have put:∀(its:Array Value) (tk2:Nat),zrT val lt (j+1) its->codeAny (model prog w) A (.builtin "min.loop" ⟨[.ref I, .none, .ref S],[]⟩) R {s with heap:=h'.update S (Obj.mapSeq λ_=>its),toks:=tk2}:=λits tk2 hb2=>
   go its _ tk2 _ hb2 (Heap.get?_update_self _ hS' rfl) (W.frame _ _ _ hst' λb hbf o e=>(Heap.get?_update_other _ _ (λh:S=b=>hSf (by rw[h];exact hbf))).trans e) λb o b1 b2 e=>(Heap.get?_update_other _ _ (Ne.symm b2)).trans (hk' b o b1 e)
  rcases hb with⟨z,rfl⟩|⟨m,hm,rfl,hbest⟩
  ·subst z
   show wpAny _ A.in1 (updateSeq S (λ_=> #[val 0,val 0])>>=_) _ _ _
   refine C0 (wpAny_updateSeq hS' rfl ?_)
   rw[nm]
   exact K0 ⟨plainId_quiet F.plain_min_loop _,put _ _ (.inr ⟨0,(),rfl,λi hi ne=>()⟩)⟩
  ·show wpAny _ A.in1 (tryCatch (holding [val j,val j] (richCompare .Lt (val j) (val m)>>=_)) _>>=_) _ _ _
   refine C0 (wpAny_tryCatch (F3 (C0 (cmp j m {s with heap:=h',toks:=tk} _ _ () () () okh ?_))))
   refine C0 (F3 (K3 ?_))
   refine C0 (wpAny_letGo (K0 ?_))
   cases hbb:lt j m with
   |true=>
    simp only[if_true]
    refine C0 (wpAny_updateSeq hS' rfl (C0 (wpAny_letGo ?_)))
    rw[nm]
    refine K0 ⟨plainId_quiet F.plain_min_loop _,put _ _ (.inr ⟨j,(),rfl,λi hi ne=>?_⟩)⟩
    by_cases e:i=m
    ·rw[e];exact hbb
    ·exact tr _ _ _ hbb (hbest i () e)
   |false=>
    simp only[P3,if_false]
    refine C0 (wpAny_letGo ?_)
    rw[nm]
    refine K0 ⟨plainId_quiet F.plain_min_loop _,go _ _ _ c (.inr ⟨m,(),rfl,λi hi ne=>?_⟩) hS' hst' λb o b1 _ e=>hk' b o b1 e⟩
    by_cases e:i=j
    ·rw[e];exact tri _ _ () () () hbb
    ·exact hbest i () ne
end
theorem zo9(a:Value):argsOk "min" ⟨[a],[]⟩:=by unfold argsOk;kernel_rfl
theorem call_minL{its:Array Value}(hA:A.handled=none)(hl:s.heap.IsList l its)(val:Nat->Value)(lt:Nat->Nat->Bool)(hval:∀(i:Nat) (v:Value),its[i]?=some v->v=val i)(hn:0<its.size)
 (cmp:∀i j (s':Shared) (Q E:Value->Shared->Prop),i<its.size->j<its.size->i≠j->(∀b o,s.heap.get? b=some o->s'.heap.get? b=some o)->Q (.bool (lt i j)) s'->wpAny (model prog w) A.in1 (richCompare .Lt (val i) (val j)) Q E s')
 (tri:∀i j,i<its.size->j<its.size->i≠j->lt i j=false->lt j i=true) (tr:∀i j k,lt i j=true->lt j k=true->lt i k=true)
 (h:∀m h' tk,m<its.size->(∀i<its.size,i≠m->lt m i=true)->(∀b o,s.heap.get? b=some o->h'.get? b=some o)->Q (val m) {s with heap:=h',toks:=tk}):
 wpAny (model prog w) A (call (.builtin "min") [.ref l]) Q E s:=by
 have nm:(toString "min"++toString ".loop":String)="min.loop":=⋯
 refine wpAny_call (codeAny_call_builtin F.plain_min F.entry_min ?_)
 have ck:checkBuiltinCall "min" ⟨[.ref l],[]⟩=pure Unit.unit:=by
  simp only[checkBuiltinCall,F.kind_min]
  have ha:=zo9 (.ref l)
  unfold argsOk at ha
  cases hsig:Manifest.signature? "min"with
  |none=>rfl
  |some sig=>rw[hsig] at ha;exact ha
 refine wpAny_of_eq ck ?_
 have bp:Builtin.Builtins.bindParams "min" ["key","default"] 0 ⟨[],[]⟩=pure [none,none]:=by rfl
 show wpAny _ A.in1 (Builtin.Builtins.bindParams "min" ["key","default"] 0 ⟨[],[]⟩>>=_) _ _ s
 refine C0 (wpAny_of_eq bp ?_)
 refine C0 (K0 ?_)
 refine C0 (wpAny_pyIter_list hl ?_)
 refine C0 (K2 ?_)
 rw[nm]
 have hp:l≠s.heap.objs.size:=V1 (by obtain⟨o,ho,_⟩:=hl;exact Y0 ho)
 have sz:(s.heap.push {cls:= .type "list_iterator",data:= .fields #[.ref l, .int 0 0]}).objs.size=s.heap.objs.size+1:=Heap.size_push ..
 have llt:l<s.heap.objs.size:=by obtain⟨o,ho,_⟩:=hl;exact Y0 ho
 refine K0 ⟨plainId_quiet F.plain_min_loop _,?_⟩
 have nw:∀{b:Addr} {o:Obj},s.heap.get? b=some o->b∉ [s.heap.objs.size]:=λ{b o} e z=>by
  have:b=s.heap.objs.size:=by simpa using z
  exact absurd (Y0 e) (by rw[this];exact Nat.lt_irrefl _)
 have nS:∀{b:Addr} {o:Obj},s.heap.get? b=some o->b≠(s.heap.push {cls:= .type "list_iterator",data:= .fields #[.ref l, .int 0 0]}).objs.size:=λ{b o} e z=>by
  rw[sz] at z
  exact absurd (Y0 e) (by rw[z];exact Nat.not_lt.mpr (Nat.le_succ _))
 refine zrv (Walks.list (A:=A.in1) (show A.in1.handled=none from hA) s.heap.objs.size l hp its) val lt (λh=>∀b o,s.heap.get? b=some o->h.get? b=some o) (λi v e=>hval i v e) _ ?_ (λh h' ok k b o e=>k b o (nw e) (nS e) (ok b o e)) (λi j s' Q E hi hj ne ok q=>cmp i j s' Q E hi hj ne ok q) tri tr hn _ 0 _ #[] 0 rfl (Z1 _) ?_ ?_ (.inl ⟨rfl,rfl⟩) (Q0 _ rfl) λm h' tk hm hv k=>h m h' tk hm hv λb o e=>k b o (nw e) (nS e) (G0 _ (G0 _ e))
 ·show (s.heap.push _).objs.size∉_
  rw[sz]
  simp only[D1,O2,or_false,not_or]
  exact⟨Nat.ne_of_gt (Nat.lt_succ_self _),Nat.ne_of_gt (Nat.lt_succ_of_lt llt)⟩
 ·refine ⟨⟨_,G0 _ (Q0 _ rfl),rfl,rfl⟩,?_⟩
  obtain⟨o,ho,r⟩:=hl
  exact⟨o,G0 _ (G0 _ ho),r⟩
 ·exact λb o e=>G0 _ (G0 _ e)
theorem zbS{N:List α}(hN:N.Nodup){x:α}(a:N[i]?=some x)(b:N[j]?=some x):i=j:=by
 obtain⟨h1,e1⟩:=y1.mp a
 obtain⟨h2,e2⟩:=y1.mp b
 exact(List.getElem_inj hN).mp (e1.trans e2.symm)
def KmO(H:Hp)(b:Addr)(k:Ky)(v:V):Prop:=∃t,H b=some (.tup [.ref t,v])/\KeyO H t k
structure RawKm(h:Heap)(b:Addr)(k:Ky):Prop where
 at_:∃t u,IsTup h b #[.ref t,u]/\RawK h t k
theorem zrU{b:Addr}{k1 k2:Ky}(hu:A.units+64<cLine)(x:RawKm s.heap a k1)(y:RawKm s.heap b k2)(ne:k1≠k2)(q:Q (.bool (ltK k1 k2)) s):wpAny (model prog w) A (richCompare .Lt (.ref a) (.ref b)) Q E s:=by
 obtain⟨t,u,ha,x⟩:=x.at_
 obtain⟨t',u',hb,y⟩:=y.at_
 obtain⟨⟨c1,d1,e1,f1⟩,ho,hc,n,hd⟩:=id ha
 obtain⟨⟨c2,d2,e2,f2⟩,ho2,hc2,n2,hd2⟩:=id hb
 simp only at hc hd hc2 hd2
 subst hc hd hc2 hd2
 refine richCompare_meets_room (op:= .Lt) ⟨_,ho,rfl⟩ ⟨_,ho2,rfl⟩ F.slot_tuple_lt F.entry_tuple_lt (F.args_tuple_lt_2 _ _) (zef a b n n2 d1 d2 f1 f2 [.ref t,u] [.ref t',u'] 0 (ltK k1 k2)) ⟨ho,ho2,λprog w i x y hi=>absurd hi (Nat.not_lt_zero _),Z1 _,Z1 _, .inr ⟨_,_,rfl,rfl,λprog w E Q hq=>?_,λprog w E Q hq=>?_⟩,⟨(λx=>nomatch x),q⟩⟩ ()
 ·refine zsQ (by show A.units+1+62<cLine;lia) x y ?_
  rw[U0 ne];exact hq
 ·exact zsU (by show A.units+1+63<cLine;lia) x y hq
theorem KmO.raw(I:Inv X pins σ H s){b:Addr}{k:Ky}(x:KmO H b k v)(kp:∀b o,s.heap.get? b=some o->h'.get? b=some o):RawKm h' b k:=by
 obtain⟨t,e,o⟩:=x
 obtain⟨its,r1,t1,_⟩:=I.tuple (SqT.of e)
 obtain⟨_,_,rfl,x1,x2⟩:=zj7 r1
 cases x1
 exact⟨⟨t,_,zfG t1 kp,o.raw I kp⟩⟩
def zvL:List V->Hp->VK->Prop:=λxs H Q=>∃(l:Addr) (bs:List Addr) (ks:List Ky),xs=[.ref l]/\H l=some (.lst (bs.map V.ref))/\bs.length=ks.length/\(∀(i:Nat) (b:Addr) (k:Ky),bs[i]?=some b->ks[i]?=some k->∃v,KmO H b k v)/\ks.Nodup/\0<ks.length/\
 ∀(m:Nat) (b:Addr) (k:Ky),bs[m]?=some b->ks[m]?=some k->(∀k'∈ks,k'≠k->ltK k k'=true)->Q (.ref b) H
theorem znL(hc:X.calm=true)(hu:X.A.units+70<cLine):CallR X (.builtin "min") zvL:=by
 intro pins s σ H xs us Q I r h
 obtain⟨l,bs,ks,rfl,hl,hlen,hk,nd,h0,q⟩:=h
 obtain⟨u,rfl,ru⟩:=zdM r
 cases ru
 obtain⟨its,rv,pl,hz⟩:=I.list (SqL.of hl)
 have ei:=zqj rv
 subst ei
 have sz:(bs.map Value.ref).toArray.size=ks.length:=by simp[hlen]
 have gb:∀i,i<ks.length->bs[i]?=some (bs.getD i 0):=λi h=>by simp[show i<bs.length by lia]
 have gk:∀i,i<ks.length->ks[i]?=some (ks.getD i (0,0,[])):=λi h=>by simp[h]
 refine call_minL (I.ok.hd hc) pl.isList (λi=> .ref (bs.getD i 0)) (λi j=>ltK (ks.getD i (0,0,[])) (ks.getD j (0,0,[]))) (λi v e=>?_) (by rw[sz];exact h0) (λi j s' Q E hi hj ne kp hq=>?_) (λi j hi hj ne e=>?_) (λi j k a b=>zso a b) λm h' tk hm hb kp=>?_
 ·rw[List.getElem?_toArray,V0] at e
  cases e2:bs[i]? with
  |none=>rw[e2] at e;cases e
  |some b=>rw[e2] at e;cases e;simp[List.getD,e2]
 ·rw[sz] at hi hj
  obtain⟨v,o1⟩:=hk i _ _ (gb i hi) (gk i hi)
  obtain⟨v',o2⟩:=hk j _ _ (gb j hj) (gk j hj)
  refine zrU (by show X.A.units+1+64<cLine;lia) (o1.raw I kp) (o2.raw I kp) (λz=>ne ?_) hq
  have h1:=gk i hi
  rw[z] at h1
  exact zbS nd h1 (gk j hj)
 ·rw[sz] at hi hj
  refine zqp (λz=>ne ?_) e
  have h1:=gk i hi
  rw[z] at h1
  exact zbS nd h1 (gk j hj)
 ·rw[sz] at hm hb
  refine⟨.ref _,_,I.kept (t':=tk) kp,rfl,q m _ _ (gb m hm) (gk m hm) λk' hk' ne=>?_⟩
  obtain⟨i,hi,e⟩:=F2 hk'
  have:=hb i hi λz=>ne (by rw[←e,←z];simp[hi])
  rw[←e]
  simpa[List.getD,hi] using this
inductive TrX(K:W.Frag)(H:Hp):V->PyData->Prop
 |non:TrX K H .non .none
 |int (i:Int):TrX K H (.int i) (.int i)
 |str (x:Str) (h:PyData.strOk x=true):TrX K H (.str x) (.str x)
 |tup {p:Addr} {vs:List V} {ds:List PyData} (e:SqT K H p vs) (hl:vs.length=ds.length) (h:∀(i:Nat) (v:V) (d:PyData),vs[i]?=some v->ds[i]?=some d->TrX K H v d):TrX K H (.ref p) (.tuple ds)
 |lst {p:Addr} {vs:List V} {ds:List PyData} (e:H p=some (.lst vs)) (hl:vs.length=ds.length) (h:∀(i:Nat) (v:V) (d:PyData),vs[i]?=some v->ds[i]?=some d->TrX K H v d):TrX K H (.ref p) (.list ds)
noncomputable abbrev Hr:=Int×Option WM
noncomputable abbrev Tb:=List (Str×Hr)
noncomputable abbrev Lt:=Str×Hr
noncomputable def zJ(m:Tb)(x:Str):Option Hr:=(m.find? λp=>decide (p.1=x)).map (·.2)
noncomputable def zeC(m:Tb)(x:Str)(r:Hr):Tb:=if(m.any λp=>decide (p.1=x))=true then m.map (λp=>if p.1=x then(p.1,r)else p)else m ++ [(x,r)]
theorem zaz{p:Str×Hr}{m:Tb}(e:p.1=x):zJ (p::m) x=some p.2:=by simp[zJ,List.find?_cons,e]
theorem zaM{p:Str×Hr}{m:Tb}(e:¬p.1=x):zJ (p::m) x=zJ m x:=by simp[zJ,List.find?_cons,e]
theorem zdN(x:Str):∀m:Tb,(m.any λp=>decide (p.1=x))=(zJ m x).isSome
 |[]=>rfl
 |p::m=>by
  rw[List.any_cons,zdN x m]
  by_cases e:p.1=x
  ·rw[zaz e,P0 e];rfl
  ·rw[zaM e,U0 e];rfl
theorem zjF(x y:Str)(r:Hr):∀m:Tb,zJ (m.map λp=>if p.1=x then(p.1,r)else p) y=(zJ m y).map λz=>if y=x then r else z
 |[]=>rfl
 |p::m=>by
  rw[E2]
  by_cases e:p.1=y
  ·by_cases e2:p.1=x
   ·rw[R0 e2,zaz (p:=(p.1,r)) e,zaz e,Option.map_some,R0 (by rw[←e];exact e2)]
   ·rw[N0 e2,zaz e,zaz e,Option.map_some,N0 (by rw[←e];exact e2)]
  ·rw[zaM e,←zjF x y r m]
   by_cases e2:p.1=x
   ·rw[R0 e2,zaM (p:=(p.1,r)) e]
   ·rw[N0 e2,zaM e]
theorem ziC(x y:Str)(r:Hr):∀m:Tb,zJ m x=none->zJ (m ++ [(x,r)]) y=if y=x then some r else zJ m y
 |[],_=>by
  by_cases e:y=x
  ·rw[R0 e,e];exact zaz rfl
  ·rw[N0 e];exact zaM (p:=(x,r)) (λz=>e z.symm)
 |p::m,h=>by
  by_cases e2:p.1=x
  ·rw[zaz e2] at h;cases h
  ·rw[zaM e2] at h
   rw[List.cons_append]
   by_cases e:p.1=y
   ·rw[zaz e,zaz e,N0 (by rw[←e];exact e2)]
   ·rw[zaM e,zaM e];exact ziC x y r m h
theorem zpV(m:Tb)(x y:Str)(r:Hr):zJ (zeC m x r) y=if y=x then some r else zJ m y:=by
 unfold zeC
 rw[zdN]
 cases h:zJ m x with
 |none=>rw[N0 `Z3];exact ziC x y r m h
 |some z=>
  rw[R0 (show(some z).isSome=true from rfl),zjF]
  by_cases e:y=x
  ·rw[e,h,R0 rfl,Option.map_some,R0 rfl]
  ·rw[N0 e];cases zJ m y with
   |none=>rfl
   |some w=>rw[Option.map_some,N0 e]
theorem zj0(m:Tb)(x:Str)(r:Hr):(zJ m x=none->zeC m x r=m ++ [(x,r)])/\(zJ m x≠none->(zeC m x r).map (·.1)=m.map (·.1)):=by
 unfold zeC
 rw[zdN]
 refine⟨λh=>by rw[h,N0 `Z3],λh=>?_⟩
 cases e:zJ m x with
 |none=>exact absurd e h
 |some z=>
  rw[R0 (show(some z).isSome=true from rfl),List.map_map]
  refine List.map_congr_left λp _=>?_
  show(if p.1=x then(p.1,r)else p).1=p.1
  split<;>rfl
theorem zgF{m:Tb}{r:Hr}(h:zJ m x=some r):(x,r)∈m:=by
 unfold zJ at h
 cases e:m.find? λp=>decide (p.1=x)with
 |none=>rw[e] at h;cases h
 |some p=>
  rw[e] at h
  cases h
  have:=List.mem_of_find?_eq_some e
  have h2:p.1=x:=by simpa using List.find?_some e
  rw[←h2];exact this
theorem zf9:∀{m:Tb} {x:Str} {r:Hr},(m.map (·.1)).Nodup->(x,r)∈m->zJ m x=some r
 |p::m,x,r,nd,h=>by
  rw[E2,U2] at nd
  rcases D1.mp h with h|h
  ·rw[←h];exact zaz rfl
  ·rw[zaM λz=>nd.1 (by rw[z];exact X1.mpr ⟨_,h,rfl⟩)]
   exact zf9 nd.2 h
theorem zo6{m:Tb}:x∈m.map (·.1)↔zJ m x≠none:=by
 constructor
 ·intro h z
  obtain⟨p,hp,rfl⟩:=X1.mp h
  have:=zdN p.1 m
  rw[z] at this
  have h2:=List.any_eq_false.mp this p hp
  exact h2 (P0 rfl)
 ·intro h
  cases e:zJ m x with
  |none=>exact absurd e h
  |some r=>exact X1.mpr ⟨_,zgF e,rfl⟩
theorem zog{m:Tb}{r:Hr}(nd:(m.map (·.1)).Nodup):((zeC m x r).map (·.1)).Nodup:=by
 cases e:zJ m x with
 |none=>
  rw[(zj0 m x r).1 e,List.map_append]
  refine List.nodup_append.mpr ⟨nd,`Z3,λa ha b hb z=>?_⟩
  rw[E2,List.map_nil,C2] at hb
  rw[z,hb] at ha
  exact zo6.mp ha e
 |some z=>rw[(zj0 m x r).2 (by rw[e];exact λz=>nomatch z)];exact nd
noncomputable def zd9(r:Option Hr):Int:=match r with|none=>0|some r=>r.1
noncomputable def zfq(m:Tb)(l:Lt):Tb:=if l.2.1<=zd9 (zJ m l.1)then m else zeC m l.1 l.2
noncomputable def zeE(nm:Str)(rs:List D)(p:Str×Hr):Option WM:=match p.2.2 with|none=>none|some (w,ms)=>if nm∈w\/zc3 (zW (nm::w) ms rs)=true then none else some (nm::w,ms)
noncomputable def zdd(nm:Str)(rs:List D)(m:Tb):List WM:=m.filterMap (zeE nm rs)
def zh7(rs:List D)(es:List WM):Option WM->Prop
 |none=>es=[]
 |some e=>e∈es/\∀e'∈es,kE rs e'≠kE rs e->ltK (kE rs e) (kE rs e')=true
theorem zpZ{es es':List WM}(h:∀e,e∈es↔e∈es')(u:∀e∈es,∀e'∈es,e.1=e'.1->e=e'){b b':Option WM}(h1:zh7 rs es b)(h2:zh7 rs es' b'):b=b':=by
 cases b with
 |none=>
  cases b' with
  |none=>rfl
  |some e'=>
   have h1:es=[]:=h1
   have:=(h e').mpr h2.1
   rw[h1] at this;cases this
 |some e=>
  cases b' with
  |none=>
   have h2:es'=[]:=h2
   have:=(h e).mp h1.1
   rw[h2] at this;cases this
  |some e'=>
   by_cases c:kE rs e'=kE rs e
   ·have e1:e'.1=e.1:=E3 (λk:Ky=>k.2.2) c
    rw[u e h1.1 e' ((h _).mpr h2.1) e1.symm]
   ·have l1:=h1.2 e' ((h _).mpr h2.1) c
    have l2:=h2.2 e ((h _).mp h1.1) (Ne.symm c)
    rw[zt0 l1] at l2;cases l2
theorem zjE{nm:Str}{m:Tb}(nd:(m.map (·.1)).Nodup){e:WM}:e∈zdd nm rs m↔∃x r,zJ m x=some r/\zeE nm rs (x,r)=some e:=by
 unfold zdd
 rw[List.mem_filterMap]
 exact⟨λ⟨⟨x,r⟩,h,o⟩=>⟨x,r,zf9 nd h,o⟩,λ⟨x,r,h,o⟩=>⟨(x,r),zgF h,o⟩⟩
noncomputable def zeu(rs:List D)(b:Option WM)(o:Str):Option WM:=match b with|none=>none|some (w,ms)=>(zP w (some o) rs ms).map λt=>(w,t)
noncomputable def zay(tm:Tb)(o:Str):Option WM:=match zJ tm o with|none=>none|some r=>r.2
noncomputable def zdi(rs:List D)(b:Option WM)(tm:Tb)(o:Str):Tb:=if zeu rs b o=zay tm o then tm else zeC tm o (zd9 (zJ tm o)+1,zeu rs b o)
noncomputable def ziz(rs:List D)(b:Option WM)(tm:Tb)(o:Str):List Lt:=if zeu rs b o=zay tm o then [] else [(o,zd9 (zJ tm o)+1,zeu rs b o)]
theorem zhW{b:Option WM}{tm:Tb}{o:Str}:zay (zdi rs b tm o) y=if y=o then zeu rs b o else zay tm y:=by
 unfold zdi
 split
 ·rename_i h
  by_cases e:y=o
  ·rw[R0 e,e,h]
  ·rw[N0 e]
 ·show (match zJ (zeC tm o _) y with|none=>none|some r=>r.2)=_
  rw[zpV]
  by_cases e:y=o
  ·rw[R0 e,R0 e]
  ·rw[N0 e,N0 e];rfl
noncomputable def zft(T:List Lt)(o:Str):Option WM:=match(T.reverse.find? λp=>decide (p.1=o))with|none=>none|some p=>p.2.2
theorem znB{T:List Lt}{p:Lt}{o:Str}:zft (T ++ [p]) o=if p.1=o then p.2.2 else zft T o:=by
 unfold zft
 rw[List.reverse_append,List.reverse_singleton,List.singleton_append,List.find?_cons]
 by_cases e:p.1=o
 ·rw[P0 e,R0 e]
 ·rw[U0 e,N0 e]
theorem zpk{b:Option WM}{tm:Tb}{T:List Lt}{o:Str}(h:∀y,zft T y=zay tm y)(y:Str):zft (T ++ziz rs b tm o) y=zay (zdi rs b tm o) y:=by
 rw[zhW]
 unfold ziz
 split
 ·rename_i e
  rw[List.append_nil,h]
  by_cases c:y=o
  ·rw[R0 c,c,e]
  ·rw[N0 c]
 ·rw[znB]
  by_cases c:y=o
  ·rw[R0 c,R0 c.symm]
  ·rw[N0 c,N0 (λz=>c z.symm),h]
noncomputable def zcc(rs:List D)(b:Option WM)(tm:Tb)(os:List Str):Tb:=os.foldl (zdi rs b) tm
noncomputable def zbT(rs:List D)(b:Option WM):Tb->List Str->List Lt
 |_,[]=> []
 |tm,o::os=>ziz rs b tm o ++zbT rs b (zdi rs b tm o) os
theorem znI{b:Option WM}{tm:Tb}{os:List Str}{o:Str}:zcc rs b tm (os ++ [o])=zdi rs b (zcc rs b tm os) o:=by unfold zcc;rw[List.foldl_append];rfl
theorem zjX{rs:List D}{b:Option WM}{o:Str}:∀{os:List Str} {tm:Tb},zbT rs b tm (os ++ [o])=zbT rs b tm os ++ziz rs b (zcc rs b tm os) o
 |[],tm=>by rw[List.nil_append,zbT,zbT,zbT,List.append_nil,List.nil_append];rfl
 |p::os,tm=>by rw[List.cons_append,zbT,zjX (os:=os),zbT,List.append_assoc];rfl
theorem zsG{b:Option WM}{tm:Tb}{o:Str}:(ziz rs b tm o).length<=1:=by unfold ziz;split<;>simp
theorem zeG{rs:List D}{b:Option WM}:∀{os:List Str} {tm:Tb},(zbT rs b tm os).length<=os.length
 |[],tm=>S0 _
 |p::os,tm=>by
  rw[zbT,b0,L1]
  have h1:=zsG (rs:=rs) (b:=b) (tm:=tm) (o:=p)
  have h2:=zeG (rs:=rs) (b:=b) (os:=os) (tm:=zdi rs b tm p)
  lia
theorem zfV{rs:List D}{b:Option WM}{y:Str}:∀{os:List Str} {tm:Tb},zay (zcc rs b tm os) y=if y∈os then zeu rs b y else zay tm y
 |[],tm=>by rw[N0 `Z3];rfl
 |p::os,tm=>by
  show zay (zcc rs b (zdi rs b tm p) os) y=_
  rw[zfV (os:=os),zhW]
  by_cases h1:y∈os
  ·rw[R0 h1,R0 (F1 _ h1)]
  ·rw[N0 h1]
   by_cases h2:y=p
   ·rw[R0 h2,R0 (by rw[h2];exact N1),h2]
   ·rw[N0 h2,N0 (λz=>(D1.mp z).elim h2 h1)]
theorem zgN{rs:List D}{b:Option WM}:∀{os:List Str} {tm:Tb} {T:List Lt},(∀y,zft T y=zay tm y)->∀y,zft (T ++zbT rs b tm os) y=zay (zcc rs b tm os) y
 |[],tm,T,h,y=>by rw[zbT,List.append_nil];exact h y
 |p::os,tm,T,h,y=>by
  rw[zbT,←List.append_assoc]
  exact zgN (os:=os) (zpk h) y
structure TbOk(hs:List Str)(ok:Str->Hr->Prop)(tm:Tb):Prop where
 nd:(tm.map (·.1)).Nodup
 mem:∀p∈tm,p.1∈hs/\ok p.1 p.2
theorem TbOk.nil{ok:Str->Hr->Prop}:TbOk hs ok []:=⟨List.nodup_nil,λ_ z=>nomatch z⟩
theorem zjH{m:Tb}{r:Hr}{p:Str×Hr}(h:p∈zeC m x r):p∈m\/p=(x,r):=by
 unfold zeC at h
 split at h
 ·obtain ⟨q,hq,e⟩:=X1.mp h
  by_cases c:q.1=x
  ·rw[R0 c] at e;exact .inr (by rw[←e,c])
  ·rw[N0 c] at e;exact .inl (by rw[←e];exact hq)
 ·rcases Q2.mp h with h|h
  ·exact .inl h
  ·exact .inr (C2.mp h)
theorem TbOk.put{ok:Str->Hr->Prop}{tm:Tb}{r:Hr}(h:TbOk hs ok tm)(hx:x∈hs)(ho:ok x r):TbOk hs ok (zeC tm x r):=
 ⟨zog h.nd,λp hp=>by
   rcases zjH hp with h1|h1
   ·exact h.mem p h1
   ·rw[h1];exact⟨hx,ho⟩⟩
theorem TbOk.len{ok:Str->Hr->Prop}{tm:Tb}(h:TbOk hs ok tm):tm.length<=hs.length:=by
 have:=zcT h.nd (m:=hs) λx hx=>by
  obtain⟨p,hp,e⟩:=X1.mp hx
  rw[←e];exact(h.mem p hp).1
 rwa[D0] at this
theorem TbOk.look{ok:Str->Hr->Prop}{tm:Tb}{r:Hr}(h:TbOk hs ok tm)(e:zJ tm x=some r):ok x r:=(h.mem _ (zgF e)).2
section
variable{h:Heap}{b:Addr}{k:WKey}{xs:List (WKey×Addr×Value)}
end
inductive Alk(H:Hp):List (Key×V)->List (Key×V)->Prop
 |nil:Alk H [] []
 |cons {k:Key} {v v':V} {d:PyData} {r r':List (Key×V)}:Tr H v d->Tr H v' d->d.depth<=60->Alk H r r'->Alk H ((k,v)::r) ((k,v')::r')
theorem Alk.length{r r':List (Key×V)}(h:Alk H r r'):r.length=r'.length:=by
 induction h with
 |nil=>rfl
 |cons _ _ _ _ ih=>rw[L1,L1,ih]
theorem zor{K:Type}[DecidableEq K]{A:Around}{s:Shared}{kb:List (K×Value)}:∀{r:List (K×Value)},(∀p∈r,∃y,valueAt kb p.1=some y/\SeqAt.EqAt A s p.2 y true)->W.KeqHits A s kb r true
 |[],_=> .nil
 |(k,v)::r,h=>by
  obtain⟨y,h1,h2⟩:=h (k,v) N1
  exact .hit (e:=true) (b:=true) h1 h2 (zor λp hp=>h p (F1 _ hp))
noncomputable def ztg(tl:TE):TI:=λσ H R=>tl σ H λx H1=>∃d kvs,x= .ref d/\H1 d=some (.dK kvs)/\∀(o:Obj),(kvs.map (·.1)).Nodup->R (Iti d o (.dK kvs) (kvs.map λp=>(kV p.1,p.2))) (upd H1 d (.frz o (.dK kvs)))
theorem zmf{o:Expr}{to:TE}{k:Nat}{pos2:Pos}(ho:QE X o to)(hbase:autoParam (attributeBase o "items" X.env (eval o X.env)=eval o X.env) u4)(hline:autoParam ((apos.endLine==cpos.line)=true) u4):QI X (.Tuple elts k pos2) (.Call (.Attribute o "items" apos) [] [] cpos) (ztg to):=⟨by
 intro pins s σ H R I h
 refine wpAny_Call_method0_late hbase hline (thn (ho.o pins s σ H _ I h) λv s1 zq=>?_)
 obtain⟨x,H1,I1,r1,q1⟩:=zq
 obtain⟨d,kvs,rfl,e,q⟩:=q1
 cases r1
 obtain⟨hz,nsys,vs,rel,ob,es,ep,g,ex,dat,ko,pr,nd⟩:=zjW I1.hok e
 have nd':(kvs.map (·.1)).Nodup:=by rw[zkI rel];exact nd
 obtain⟨hll,hget⟩:=zen rel
 have vk:Vals (vs.map λkv=>kV kv.1) (es.toList.map (·.key)):=zi0 pr
 have ety:s1.TypeIs (.ref d) "dict":=⟨ob,g,ex.1⟩
 have raw:RawE s1.heap d (es.toList.map λe=>(e.key,e.val)) ep:=⟨ob,es,g,ex,dat,rfl⟩
 have dlt:d<s1.heap.objs.size:=Y0 g
 refine⟨"dict","dict.items",F.plainAttrs_dict,F.slot_dict_items,F.type_dict_items,ety,λa z=>?_,Calls.callWith_builtin rfl (PySem.evalArgs_none ?_)⟩
 ·cases z;exact⟨ob,g,ex.2.1⟩
 refine J3 F.slot_dict_items ety F.entry_dict_items (raw_items nsys raw ?_) (F.args_dict_items_1 _)
 have hv:Heap.IsItemsView (s1.heap.push {cls:= .type "dict_items",data:= .fields #[.ref d]}) s1.heap.objs.size d:=⟨_,Q0 _ rfl,rfl,rfl⟩
 have raw2:RawE (s1.heap.push {cls:= .type "dict_items",data:= .fields #[.ref d]}) d (es.toList.map λe=>(e.key,e.val)) ep:=⟨ob,es,G0 _ g,ex,dat,rfl⟩
 have I2:Inv X pins σ (upd H1 d (.frz ob (.dK kvs))) {s1 with heap:=s1.heap.push {cls:= .type "dict_items",data:= .fields #[.ref d]},toks:=s1.toks}:=(I1.frzK e g).kept (t':=s1.toks) λb o e=>G0 _ e
 refine raw_items_iter (s:={s1 with heap:=s1.heap.push {cls:= .type "dict_items",data:= .fields #[.ref d]}}) hv raw2 ?_
 have itn:(s1.heap.push {cls:= .type "dict_items",data:= .fields #[.ref d]}).objs.size=s1.heap.objs.size+1:=Heap.size_push ..
 have zl:(es.toList.map λe=>(e.key,e.val)).length=vs.length:=by rw[D0];exact pr.length
 refine⟨_,[(s1.heap.push {cls:= .type "dict_items",data:= .fields #[.ref d]}).objs.size],_,_,upd H1 d (.frz ob (.dK kvs)),rfl,I2.kept (t':=s1.toks) λb o e=>G0 _ e,znT d _ (by rw[itn];exact V1 (Nat.lt_succ_of_lt dlt)) ob (.dK kvs) (kvs.map λp=>(kV p.1,p.2)) (es.toList.map λe=>(e.key,e.val)) ep es ex dat rfl (λi v hv=>?_) (by rw[zl,D0];exact hll),⟨Z1 _,_,_,Q0 _ rfl⟩,λb hb=>?_,q ob nd'⟩
 ·rw[V0] at hv
  cases hz:kvs[i]? with
  |none=>rw[hz] at hv;cases hv
  |some p=>
   rw[hz] at hv;cases hv
   have hi:i<vs.length:=by have:=(y1.mp hz).1;lia
   have hie:i<es.toList.length:=by rw[pr.length];exact hi
   obtain⟨r1,r2⟩:=hget i p vs[i] hz (by simp[hi])
   obtain⟨k1,k2⟩:=pr.get? (i:=i) (e:=es.toList[i]) (k:=(vs[i]).1) (v:=(vs[i]).2) (F0 hie) (F0 hi)
   refine⟨_,by rw[V0,F0 hie];rfl,?_,by show RelV p.2 (es.toList[i]).val;rw[k2];exact r2⟩
   obtain⟨u,hu,ru⟩:=vk.get (i:=i) (x:=kV (vs[i]).1) (by rw[V0,F0 hi];rfl)
   rw[V0,F0 hie] at hu
   cases hu
   show RelV (kV p.1) (es.toList[i]).key
   rw[show p.1=(vs[i]).1 from r1]
   exact ru
 ·have:b=(s1.heap.push {cls:= .type "dict_items",data:= .fields #[.ref d]}).objs.size:=by simpa using hb
  subst this
  refine I2.fpOk (S0 _) ?_
  rw[ze (by rw[itn];exact Nat.ne_of_gt (Nat.lt_succ_of_lt dlt))]
  exact I1.hok.fresh (by rw[itn];exact Nat.le_succ _)⟩
theorem ObjOk.there{h:Heap}{o:HO}(x:ObjOk P w H h a o):∃u,h.get? a=some u:=by
 cases o with
 |lst xs=>obtain ⟨_,_,_,_,e⟩:=x;exact⟨_,e⟩
 |tup xs=>obtain ⟨_,_,_,⟨_,e,_⟩,_⟩:=x;exact⟨_,e⟩
 |dK kvs=>obtain ⟨_,_,_,_,o,_,_,e,_⟩:=x;exact⟨_,e⟩
 |dT kvs=>obtain ⟨_,_,_,_,o,_,_,e,_⟩:=x;exact⟨_,e⟩
 |set S n=>obtain ⟨o,_,_,_,e,_⟩:=x;exact⟨_,e⟩
 |ins C dx fs=>obtain ⟨_,_,_,e,_⟩:=x;exact⟨_,e⟩
 |own y=>obtain ⟨_,e⟩:=x;exact⟨_,e⟩
 |xd fs=>obtain ⟨_,⟨_,_,_,e,_⟩,_⟩:=x;exact⟨_,e⟩
 |rng lo hi=>obtain ⟨_,_,_,e⟩:=x;exact⟨_,e⟩
 |frz ob u=>obtain ⟨e,_⟩:=x;exact⟨_,e⟩
 |tbl ps=>exact ⟨_,show h.get? a=some _ from x⟩
 |met f y=>exact ⟨_,show h.get? a=some _ from x⟩
 |ext φ=>obtain ⟨_,⟨_,e⟩,_⟩:=x;exact⟨_,e⟩
theorem HOk.off{h:Heap}(x:HOk P w H h)(e:h.get? a=none):H a=none:=by
 cases q:H a with
 |none=>rfl
 |some u=>obtain ⟨_,z⟩:=(x a u q).there;rw[e] at z;cases z
def Xtr(h0 h:Heap)(H:Hp)(e C:Addr):Prop:=h0.get? e=none/\H e=none/\∃oe vs T oT ts,h.get? e=some oe/\oe.cls= .ref C/\oe.data= .fields vs/\vs[1]?=some (.ref T)/\h0.get? T=none/\H T=none/\T≠e/\h.get? T=some oT/\oT.data= .fields ts/\ts[3]?=some .none
noncomputable def CXe(P:Program)(w:World):CXT:=λouter H s E e s'=>∃a C H',e= .ref a/\s'.os=s.os/\AllBare s'.gens/\Un (frs outer) [] H H' s.heap s'.heap/\HOk P w H' s'.heap/\Xtr s.heap s'.heap H' a C/\E (.ref C) none H'
structure Lv(l:List Addr)(e T:Addr)(h h':Heap):Prop where
 keep:∀b o,h.get? b=some o->b∉l->b≠e->b≠T->h'.get? b=some o
 slot:∀b o,h.get? b=some o->b∈l->∃sl,h'.get? b=some {o with slots:=sl}
 there:∀b o,h.get? b=some o->b≠T->∃o',h'.get? b=some o'
theorem zfP{h:Heap}{b c:Addr}{o:Obj}(q:h.get? b=some o)(e:h.get? c=none):b≠c:=λz=>by rw[z,e] at q;cases q
theorem Lv.hok{l:List Addr}{e T:Addr}{h:Heap}(L:Lv l e T h h')(x:HOk P w H h)(hl:∀b∈l,H b=none)(he:H e=none)(hT:H T=none):HOk P w H h':=λb o q=>
 (x b o q).stay (λc u hc z=>by
   have hn:H c≠none:=λz=>by
    rcases hc with rfl|hc
    ·rw[q] at z;cases z
    ·rw[hc] at z;cases z
   exact L.keep c u z (λm=>hn (hl c m)) (λe=>hn (e▸he)) λe=>hn (e▸hT)) (λ_ q=>q) λ_ _ q=>q
theorem Lv.un{l:List Addr}{e T:Addr}{H0:Hp}{h0 h:Heap}(L:Lv l e T h h')(u:Un fs [] H0 H h0 h)(he:h0.get? e=none)(hT:h0.get? T=none)(hl:∀b∈l,b∈fs\/h0.get? b=none):Un fs [] H0 H h0 h':=by
 refine⟨λb o q n0 hb hx=>?_,λb o q n0 hb hx=>?_,u.free,λb o q hx=>?_,u.tups,u.frzs,u.tbls⟩
 ·exact L.keep b o (u.keep b o q n0 hb hx) (λm=>(hl b m).elim hb λz=>zfP q z rfl) (zfP q he) (zfP q hT)
 ·obtain ⟨sl,e1⟩:=u.slot b o q n0 hb hx
  by_cases m:b∈l
  ·obtain ⟨sl',e2⟩:=L.slot b _ e1 m
   exact⟨sl',e2⟩
  ·exact ⟨sl,L.keep b _ e1 m (zfP q he) (zfP q hT)⟩
 ·obtain ⟨o',e1⟩:=u.there b o q hx
  exact L.there b o' e1 (zfP q hT)
theorem zss{E:XK}{T:Addr}(J:Inv X pins σ H1 s')(hst:X.stack=X.env::X.outer)(hex:X.ex=[])
 (na:X.s₀.heap.get? a=none) (ha:H1 a=none) (nT:X.s₀.heap.get? T=none) (hT0:H1 T=none)
 (run:∀B:Heap,B.StaysIn s'.heap->s'.heap.FunFrames B (X.env::X.outer)->B.get? a=none->B.get? T=none->∀Q:Unit->Shared->Prop,(∀h',Heap.Left B (X.env::X.outer) a (.ref C) s'.heap h'->Q Unit.unit {s' with heap:=h'})->wpAny M X.A (leaving X.env (.ref a)) Q Ex s')
 (ee:E (.ref C) none H1):wpAny M X.A (leaving X.env (.ref a)) (λ_ s''=>CXe X.prog X.w X.outer X.H₀ X.s₀ E (.ref a) s'') Ex s':=by
 have FF:s'.heap.FunFrames (W.hideAll s'.heap (frs X.stack ++ [a,T])) X.stack:=W.funFrames_hide J.stack λenv he b hb=>List.mem_append_left _ (List.mem_filterMap.mpr ⟨env,he,hb⟩)
 have FF':s'.heap.FunFrames (W.hideAll s'.heap (frs X.stack ++ [a,T])) (X.env::X.outer):=by
  have FF:=FF
  generalize W.hideAll s'.heap (frs X.stack ++ [a,T])=B at FF⊢
  rw[hst] at FF
  exact FF
 refine run (W.hideAll s'.heap (frs X.stack ++ [a,T])) (λb o q=>W.of_hideAll _ q) FF' (W.hideAll_none _ `Z3) (W.hideAll_none _ `Z3) _ λh' hL=>?_
 obtain⟨k1,k2,k3,k4⟩:=hL
 rw[←hst] at k2
 have L:Lv (frs X.stack) a T s'.heap h':=by
  have sl:∀b o,s'.heap.get? b=some o->b∈frs X.stack->∃sl,h'.get? b=some {o with slots:=sl}:=λb o q m=>by
   obtain⟨_,o',e1,nf⟩:=FF.mem m
   rw[q] at e1;cases e1
   exact k4 b o q nf
  have kp:∀b o,s'.heap.get? b=some o->b∉frs X.stack->b≠a->b≠T->h'.get? b=some o:=λb o q m ne nt=>
   k1 b o (W.hideAll_get _ q (by simp[m,ne,nt]))
  refine⟨kp,sl,λb o q nt=>?_⟩
  by_cases m:b∈frs X.stack
  ·obtain ⟨sl',e⟩:=sl b o q m;exact⟨_,e⟩
  ·by_cases e:b=a
   ·subst e
    obtain⟨oe,_,_,_,_,z,_⟩:=k3
    exact⟨oe,z⟩
   ·exact ⟨o,kp b o q m e nt⟩
 have ub:=J.base
 rw[hex] at ub
 obtain⟨oe',vs',T',oT',ts',q1,q2,q3,q4,q5,q6,q7,q8,q9⟩:=k3
 have hT':X.s₀.heap.get? T'=none/\H1 T'=none:=by
  cases z:s'.heap.get? T' with
  |none=>
   refine⟨?_,J.hok.off z⟩
   cases zz:X.s₀.heap.get? T' with
   |none=>rfl
   |some o=>obtain ⟨_,z2⟩:=ub.there T' o zz `Z3;rw[z] at z2;cases z2
  |some o=>
   by_cases m:T'∈frs X.stack ++ [a,T]
   ·rcases Q2.mp m with m|m
    ·obtain ⟨_,o2,e2,nf⟩:=k2.mem m
     rw[q7] at e2;cases e2
     exact absurd q8 (nf _)
    ·rcases D1.mp m with e|m
     ·exact absurd e q6
     ·have e:T'=T:=by simpa using m
      subst e;exact⟨nT,hT0⟩
   ·rw[W.hideAll_get _ z m] at q5;cases q5
 refine⟨a,C,H1,rfl,J.os,J.bare,L.un ub na nT λb m=>?_,L.hok J.hok J.stkFree ha hT0,⟨na,ha,oe',vs',T',oT',ts',q1,q2,q3,q4,hT'.1,hT'.2,q6,q7,q8,q9⟩,ee⟩
 have m':=J.stkSub b m
 rcases D1.mp m' with e|m'
 ·rw[e];exact .inr (Heap.get?_none_of_le J.ok.above)
 ·exact .inl m'
theorem zmo{E:XK}{args:List Value}(I:Inv X pins σ H s)(hst:X.stack=X.env::X.outer)(hfr:X.env.frame=some X.env.locals)(hex:X.ex=[])
 (hx:Heap.MadeExcOf s.heap h' a (.ref C) args) (ee:E (.ref C) none H):wpAny M X.A (leaving X.env (.ref a)) (λ_ s''=>CXe X.prog X.w X.outer X.H₀ X.s₀ E (.ref a) s'') Ex {s with heap:=h'}:=by
 have J:Inv X pins σ H {s with heap:=h'}:=I.call' (ch:=[]) rfl (Un.kept hx.keeps) (I.hok.kept hx.keeps) I.bare (λb z=>absurd z `Z3)
 have up:∀{b:Addr},s.heap.get? b=none->X.s₀.heap.get? b=none:=λ{b} z=>by
  cases zz:X.s₀.heap.get? b with
  |none=>rfl
  |some o=>obtain ⟨_,z2⟩:=I.base.there b o zz (by rw[hex];simp);rw[z] at z2;cases z2
 obtain⟨t,he,_,_⟩:=hx.there
 exact zss (T:=a) J hst hex (up hx.new) (I.hok.off hx.new) (up hx.new) (I.hok.off hx.new) (λB st FF hen _ Q hQ=>wpAny_leaving_first (J.ok.frames.trans (by rw[hst])) FF hfr he st hen rfl rfl hQ) ee
theorem zll{h:Heap}{tb:List Value}(X:K.In h)(hm:mg x=some (.ref C))(q:W.excIn K C tb ni=true):OwnCls x C tb ni mg h:=by
 refine⟨hm,?_⟩
 unfold W.excIn at q
 split at q
 ·next dd z sl ho=>
  split at q
  ·next C1 tl j0 j1 j2 j3 nn j5 e1 e2=>
   rw[X0,X0,X0,X0,X0] at q
   obtain⟨⟨⟨⟨⟨qa,qb⟩,qc⟩,qd⟩,qe⟩,qf⟩:=q
   replace qa:C1=C:=eq_of_beq qa
   replace qb:nn=ni:=eq_of_beq qb
   replace qf:=eq_of_beq qf
   replace qc:z.hasDel=false:=by cases e:z.hasDel<;>simp[e] at qc⊢
   cases z
   dsimp only at e1 qc qe qf
   have es:sl= #[j0,j1,j2,j3,some (.builtin nn),j5]:=by
    cases sl
    exact E3 Array.mk e2
   subst es e1 qc qa qb
   exact⟨_,_,_,_,_,_,_,_,_,_,_,_,_,_,_,_,_,X _ _ ho, .of_isNs (W.isNs_of_in X qe),W.nsMap_none_of_in X qe qf,W.tail_of_in X qd⟩
  ·cases q
 ·cases q
structure Xok(X:Cx)(E:XK):Prop where
 st8:X.stack=X.env::X.outer
 fr8:X.env.frame=some X.env.locals
 ex8:X.ex=[]
 calm8:X.calm=true
 xe8:X.xe=λe s'=>wpAny (model X.prog X.w) X.A (leaving X.env e) (λ_ s''=>CXe X.prog X.w X.outer X.H₀ X.s₀ E e s'') (λe' s''=>CXe X.prog X.w X.outer X.H₀ X.s₀ E e' s'') s'
section
variable{E:XK}{id0 B:String}{tb:List Value}
theorem ztW(z:Xok X E)(hm:X.mg x=some (.ref C))(q:W.excIn X.K C tb ni=true)(FB:ExcBaseFacts B ni id0 tb)(hg:autoParam (Gl X x) u4)(hd:autoParam ((x==("__debug__":Str))=false) v5):
 QS X (.Raise (some (.Call (.Name x np) [] [] cpos)) none pos) (λ_ _ H=>E (.ref C) none H):=⟨by
 intro pins s σ H D I h
 obtain⟨tl,N,nm,qn,bs,hdct,sn,sub,ab,col,dd,k0,k1,k2,k3,k5,mN,hC,hN,hni,T⟩:=(zll (x:=x) (mg:=X.mg) I.kIn hm q).obj
 refine wpAny_Raise_call_subT (C:=C) (nm:=nm) (q:=qn) (N:=N) (bs:=bs) (bm:=tl) (hdct:=hdct) (sn:=sn) (sub:=sub) (ab:=ab) (col:=col) (dd:=dd) (k0:=k0) (k1:=k1) (k2:=k2) (k3:=k3) (k5:=k5)
  FB (mN:=mN) (T.hasType FB.hasBase) (I.ok.hd z.calm8) rfl hni (zf8 I hg hm ⟨rfl,?_⟩ hd)
 refine evalArgs_empty ⟨rfl,Z1 _,hC,hN,T,λh' e made=>?_⟩
 rw[z.xe8]
 exact zmo I z.st8 z.fr8 z.ex8 made h⟩
end
theorem Fun.okX{st:Stmt}{ps:List Str}{k:Nat}(F:Fun K x qual st f fd)(S:FnScope N ps (zd st))(len:∀vs H Q E,sp vs H Q E->vs.length=ps.length)
 (hbody:∀(cdv:Value) (A:Around) (outer:List Env) (s:Shared) (H:Hp) (vs:List V) (Q:VK) (E:XK),Room k (A.deeper (envOfC qual (zd st) s.heap.objs.size f cdv))->sp vs H Q E->Xok (zjs (CXe P w) P w K mg base N qual (zd st) f cdv A outer s H E) E->
   ∃t,QB (zjs (CXe P w) P w K mg base N qual (zd st) f cdv A outer s H E) (zaa st) t/\t {nx:=λ_ H'=>Q .non H',rt:=Q} (zev N vs) H):FnOk P w K mg base (CXe P w) (k+1) f fd ps sp:=by
 obtain⟨oc,od,kV,doc,pm,an,cdv,ct,osl,rfl,lk,hcd⟩:=F.ex
 refine zrs lk hcd S len λA outer s H vs Q E hr hsp=>?_
 obtain⟨t,h,q⟩:=hbody cdv A outer s H vs Q E hr hsp ⟨rfl,rfl,rfl,rfl,rfl⟩
 exact⟨t,h.o,q⟩
section
variable{nm q nm' q':Str}{N CR N':Addr}{bs bm bs' bm':List Value}{hdct hdct':Bool}{sn sn':List Str}{sub sub':List Value}{ab ab':Bool}{col col':Option Bool}{dd dd':Option Addr}{k0 k1 k2 k3 k5 j0 j1 j2 j3 j5:Option Value}{ni':String}
theorem ztD{h:Heap}{g:Array GenState}{d:Drawn}{t:Nat}{os:OsState}{e:Addr}{oe:Obj}{Q:Bool->Shared->Prop}
 (hC:h.get? C=some (excClassObj nm q C N bs bm hdct sn sub ab col dd k0 k1 k2 k3 k5 ni)) (hR:h.get? CR=some (excClassObj nm' q' CR N' bs' bm' hdct' sn' sub' ab' col' dd' j0 j1 j2 j3 j5 ni'))
 (he:h.get? e=some oe) (hcls:oe.cls= .ref C) (hB:bm'.contains (.type "BaseException")=true) (hin:(Value.ref C::bm).contains (.ref CR)=true)
 (hq:Q true ⟨h,g,d,t,os⟩):wpAny M A (excMatches (.ref e) (.ref CR)) Q E ⟨h,g,d,t,os⟩:=by
 have cB:(Value.ref CR::bm').contains (.type "BaseException")=true:=by rw[List.contains_cons,hB,Bool.or_true]
 have f:=tc_notTuple
 unfold excMatches
 repeat (first
  |(with_reducible refine wpAny_loadPart_at he ?_;rw[hcls])
  |with_reducible refine wpAny_loadPart_at hR ?_
  |(with_reducible refine wpAny_isSubtype_exc hR ?_;rw[cB])
  |(with_reducible refine wpAny_isSubtype_exc hC ?_;rw[hin])
  |wp_step)
 exact hq
end
theorem zpd{Q:Unit->Shared->Prop}(I:Inv X pins σ H s)(hN:X.N.Nodup)(hi:X.N[i]?=some x)(hk:X.env.scope.names.lookup x=some .local)(hv:σ[i]?=some (some v))
 (h:∀s',Inv X pins (σ.set i none) H s'->Q Unit.unit s'):wpAny M A (unbindName X.env x) Q E s:=by
 obtain⟨m,hn,hl⟩:=id I.loc
 have hcls:(X.env.scope.kind== .class||(X.env.scope.kind== .module&&X.env.locals !=X.env.globals))=false:=by rw[I.ok.kind];rfl
 have hiσ:i<σ.length:=by rw[I.len];exact(y1.mp hi).1
 have cne:=I.cne
 obtain⟨u0,_,hu0⟩:=hl i x v hi hv (.inl hk)
 have hm:∃u,m x=some u:=by
  rcases hu0 with⟨_,e⟩|⟨k,_⟩
  ·exact ⟨_,e⟩
  ·have k:X.env.scope.names.lookup x=some .cell\/X.env.scope.names.lookup x=some .free:=k
   rw[hk] at k
   rcases k with k|k<;>cases k
 obtain⟨u,hu⟩:=hm
 refine wpAny_unbindName_local hk hn hu hcls λh' u' hn' hs=>?_
 obtain⟨oL,_,_,hoL,_⟩:=id hn
 have below:∀{b:Addr} {o:Obj},X.s₀.heap.get? b=some o->b≠X.env.locals:=λe=>V1 (W1 (Y0 e) I.ok.above)
 refine h _ ⟨I.ok,I.os,I.bare,⟨λb o e n hb hx=>(hs.2 b (below e)).trans (I.base.keep b o e n hb hx),λb o e n hb hx=>?_,I.base.free,λb o e hx=>?_,I.base.tups,I.base.frzs,I.base.tbls⟩,⟨_,hn',λj y v' e1 e2 e3=>?_⟩,λy c e=>?_,I.free,I.freeC,λp hp=>?_,λb ob e=>?_,by simpa using I.len⟩
 ·obtain ⟨sl,e1⟩:=I.base.slot b o e n hb hx
  exact⟨sl,(hs.2 b (below e)).trans e1⟩
 ·obtain ⟨o',e1⟩:=I.base.there b o e hx
  exact⟨o',(hs.2 b (below e)).trans e1⟩
 ·by_cases hj:j=i
  ·subst hj
   rw[List.getElem?_set_self hiσ] at e2
   cases e2
  ·rw[List.getElem?_set_ne (Ne.symm hj)] at e2
   obtain⟨w',r',z⟩:=hl j y v' e1 e2 e3
   refine⟨w',r',?_⟩
   rcases z with⟨k,e⟩|⟨k,c,e,z⟩
   ·refine .inl ⟨k,?_⟩
    have:y≠x:=λe=>hj (zib hN e1 (e▸hi))
    simp[this,e]
   ·exact .inr ⟨k,c,e,z.sameBut hs (cne y c e)⟩
 ·obtain ⟨w',z⟩:=I.cell y c e
  exact⟨w',z.sameBut hs (cne y c e)⟩
 ·obtain ⟨e,n,ne,nf,d⟩:=I.pin p hp
  exact⟨(hs.2 p.1 ne).trans e,n,ne,nf,d⟩
 ·refine (I.hok b ob e).stay (λc w' hc z=>(hs.2 c ?_).trans z) (λ_ z=>z) λ_ _ z=>z
  rintro rfl
  have hf:=I.free
  rcases hc with rfl|hc
  ·rw[hf] at e;cases e
  ·rw[hf] at hc;cases hc
theorem ze8{Q:Unit->Shared->Prop}(I:Inv X pins σ H s)(hN:X.N.Nodup)(hi:X.N[i]?=some x)(hk:X.env.scope.names.lookup x=some .local)
 (h:∀s',Inv X pins (σ.set i none) H s'->Q Unit.unit s'):wpAny M A (do bindName X.env x .none;unbindBehindTheSuite X.env x pos) Q E s:=by
 have hiσ:i<σ.length:=by rw[I.len];exact(y1.mp hi).1
 refine C0 (wpAny_bindName (zda (v:= .non) I hN hi (.inl hk) rfl (λs1 I1=>?_) (.inr hk)))
 unfold unbindBehindTheSuite
 refine wpAny_onRaise (zpd I1 hN hi hk (List.getElem?_set_self hiσ) λs2 I2=>?_)
 rw[List.set_set] at I2
 exact h s2 I2
def ExcAt(C a:Addr):Heap->Prop:=λh=>∃oe vs,h.get? a=some oe/\oe.cls= .ref C/\oe.data= .fields vs
theorem ExcAt.obj{h:Heap}(x:ExcAt C a h):ObjOk P w H h a (.ext (ExcAt C a)):=
 ⟨x,let⟨oe,_,e,_⟩:=x;⟨oe,e⟩,λh1 h2 y k=>let ⟨oe,vs,e,c,d⟩:=y;⟨oe,vs,k _ e,c,d⟩⟩
theorem Un.track{h:Heap}{o:HO}(u:Un fs [] H H1 h h')(na:h.get? a=none)(ha:H1 a=none):Un fs [] H (upd H1 a o) h h':=
 ⟨u.keep,u.slot,λb ob q n hx=>by rw[ze (zfP q na)];exact u.free b ob q n hx,u.there,λb xs q=>by have:=u.tups b xs q;rw[ze (zj this ha)];exact this,
   λb o' x q=>by have:=u.frzs b o' x q;rw[ze (zj this ha)];exact this,λb ps q=>by obtain⟨m,this⟩:=u.tbls b ps q;exact⟨m,by rw[ze (zj this ha)];exact this⟩⟩
theorem HOk.track{h:Heap}{o:HO}(x:HOk P w H1 h)(ha:H1 a=none)(n:ObjOk P w (upd H1 a o) h a o):HOk P w (upd H1 a o) h:=λb u e=>by
 by_cases hb:b=a
 ·subst hb;rw[zc] at e;cases e;exact n
 ·rw[ze hb] at e
  exact(x b u e).stay (λ_ _ _ q=>q) (λc q=>by rw[ze (zj q ha)];exact q) λc xs q=>by rw[ze (zj q ha)];exact q
theorem Ok.re(o:X.Ok){c:Bool}(hd:c=true->A'.handled=none)(fr:A'.frames=some X.stack):Cx.Ok {X with A:=A',calm:=c,pn:=pn,xe:=xe}:=
 ⟨o.mod,o.kind,o.glob,o.blt,o.above,o.inj,o.has,o.cab,hd,fr,o.stk,o.exf,o.bs,o.bsz,o.noex,o.exfs,o.funs,o.frf⟩
theorem Inv.re(I:Inv X pins σ H s){c:Bool}(hd:c=true->A'.handled=none)(fr:A'.frames=some X.stack)
 (hp:∀p∈pn ++pins',p∈X.pn ++pins):Inv {X with A:=A',calm:=c,pn:=pn,xe:=xe} pins' σ H s:=
 ⟨Ok.re I.ok hd fr,I.os,I.bare,I.base,I.loc,I.cell,I.free,I.freeC,λp h=>I.pin p (hp p h),I.hok,I.len⟩
noncomputable def Cx.tryC(X:Cx)(pins:List (Addr×Obj))(E:XK):Cx:={X with pn:=X.pn ++pins,xe:=λe s1=>∃pins' σ H s,Inv {X with pn:=X.pn ++pins} pins' σ H s/\CXe X.prog X.w X.stack H s E e s1}
def Cx.suiteC(X:Cx)(a:Addr)(xe:Value->Shared->Prop):Cx:={X with A:=X.A.mark (some (.ref a)),calm:=false,xe:=xe}
theorem zsq{E:XK}:zcn (CXe X.prog X.w) (X.tryC pins E) E:=λpins' σ H s e s' I c=>
 ⟨pins',σ,H,s,Inv.re (X:=X.tryC pins E) I (A':=X.A) (c:=X.calm) (pn:=X.pn ++pins) (xe:=X.xe) I.ok.hd I.ok.frames λ_ h=>h,c⟩
theorem zwl{B h:Heap}{envs:List Env}{T:Addr}(FF:h.FunFrames B envs)(hB:B=W.hideAll h (frs envs ++ [a,T]))(k1:B.StaysIn h')(k4:h.UpToSlots h')(ka:∃o,h'.get? a=some o):Lv (frs envs) a T h h':=by
 have sl:∀b o,h.get? b=some o->b∈frs envs->∃sl,h'.get? b=some {o with slots:=sl}:=λb o q m=>by
  obtain⟨_,o',e1,nf⟩:=FF.mem m
  rw[q] at e1;cases e1
  exact k4 b o q nf
 have kp:∀b o,h.get? b=some o->b∉frs envs->b≠a->b≠T->h'.get? b=some o:=λb o q m ne nt=>
  k1 b o (by rw[hB];exact W.hideAll_get _ q (by simp[m,ne,nt]))
 refine⟨kp,sl,λb o q nt=>?_⟩
 by_cases m:b∈frs envs
 ·obtain ⟨sl',e⟩:=sl b o q m;exact⟨_,e⟩
 ·by_cases e:b=a
  ·subst e;exact ka
  ·exact ⟨o,kp b o q m e nt⟩
noncomputable def Ends.off(D:Ends)(i:Nat):Ends:={nx:=λσ H=>D.nx (σ.set i none) H,rt:=D.rt,bk:=λσ H=>D.bk (σ.set i none) H,ct:=λσ H=>D.ct (σ.set i none) H}
noncomputable def zw4(X:Cx)(CR:Addr)(i:Nat)(tb:XK->TS)(ts:TS):TS:=λD σ H=>∃E:XK,tb E D σ H/\∀Cv o H1,E Cv o H1->∃C,Cv= .ref C/\zoL X.K C CR/\
 ∀(σ':St) (a:Addr),σ'.length=X.N.length->H1 a=none->ts (D.off i) (σ'.set i (some (.ref a))) (upd H1 a (.ext (ExcAt C a)))
section
variable{n:Str}{CR:Addr}{tbl:List Value}{suite:List Stmt}{b₀:Stmt}{tb:XK->TS}{ts:TS}{hpos:Pos}
theorem zwT(hb:∀E pins,QB (X.tryC pins E) body (tb E))(hs:∀a xe,QB (X.suiteC a xe) (b₀::suite) ts)(hst:X.stack=X.env::X.outer)(hfr:X.env.frame=some X.env.locals)(hN:X.N.Nodup)(hi:X.N[i]?=some n)(hk:X.env.scope.names.lookup n=some .local)
 (hm:X.mg x=some (.ref CR)) (qR:W.excIn X.K CR tbl ni=true) (hbB:tbl.contains (.type "BaseException")=true) (hg:autoParam (Gl X x) u4) (hd:autoParam ((x==("__debug__":Str))=false) v5):
 QS X (.Try body [.ExceptHandler (some (.Name x np)) (some n) (b₀::suite) hpos] [] [] pos) (zw4 X CR i tb ts):=⟨by
 intro pins s0 σ0 H0 D I0 h
 obtain⟨E,h1,h2⟩:=h
 have I0':Inv (X.tryC pins E) [] σ0 H0 s0:=Inv.re I0 (A':=X.A) (c:=X.calm) (pn:=X.pn ++pins) I0.ok.hd I0.ok.frames λp hp=>by simpa using hp
 have back:∀{pins' σ H s},Inv (X.tryC pins E) pins' σ H s->Inv X pins σ H s:=λJ=>Inv.re (X:=X.tryC pins E) J (A':=X.A) (c:=X.calm) (pn:=X.pn) (xe:=X.xe) J.ok.hd J.ok.frames λp hp=>List.mem_append_left _ hp
 refine wpAny_Try_except (D3 ((hb E pins).o [] s0 σ0 H0 D I0' h1) (λf s1 z=>?_) λe s1 z=>?_)
 ·cases f with
  |next=>obtain ⟨σ',H',J,q⟩:=z;exact K0 ⟨σ',H',back J,q⟩
  |brk=>obtain ⟨σ',H',J,q⟩:=z;exact⟨σ',H',back J,q⟩
  |cont=>obtain ⟨σ',H',J,q⟩:=z;exact⟨σ',H',back J,q⟩
  |ret u=>obtain ⟨v,σ',H',J,q⟩:=z;exact⟨v,σ',H',back J,q⟩
 ·obtain ⟨pins',σ,H,s,I,c⟩:=z
  have I:Inv X pins σ H s:=Inv.re (X:={X with pn:=X.pn ++pins}) I (A':=X.A) (c:=X.calm) (pn:=X.pn) (xe:=X.xe) I.ok.hd I.ok.frames λp hp=>List.mem_append_left _ hp
  obtain⟨a,Cv,H1,rfl,os,bare,un,hok,⟨na,ha,oe,vs,T,oT,ts',he,hc,hdt,h1',nT,hT0,hTe,hT,hdT,h3⟩,ee⟩:=c
  obtain⟨C,eC,hsub,hh⟩:=h2 _ _ _ ee
  cases eC
  have J:Inv X pins σ H1 s1:=I.call' (ch:=[]) os un hok bare (λb z=>absurd z `Z3)
  have FF:s1.heap.FunFrames (W.hideAll s1.heap (frs X.stack ++ [a,T])) X.stack:=W.funFrames_hide J.stack λenv he b hb=>List.mem_append_left _ (List.mem_filterMap.mpr ⟨env,he,hb⟩)
  have FF':s1.heap.FunFrames (W.hideAll s1.heap (frs X.stack ++ [a,T])) (X.env::X.outer):=by
   have FF:=FF
   generalize W.hideAll s1.heap (frs X.stack ++ [a,T])=B at FF⊢
   rw[hst] at FF
   exact FF
  obtain⟨a0,h0⟩:∃a0,vs[0]?=some a0:=⟨vs[0]'(by have:=(Array.getElem?_eq_some_iff.mp h1').1;lia),Array.getElem?_eq_getElem _⟩
  have fl:Heap.FlyingW (W.hideAll s1.heap (frs X.stack ++ [a,T])) (X.env::X.outer) a (.ref Cv) a0 s1.heap:=
   ⟨λb o q=>W.of_hideAll _ q,W.hideAll_none _ `Z3,FF',oe,vs,T,oT,ts',he,⟨hc,h0⟩,hdt,h1',W.hideAll_none _ `Z3,hTe,hT,hdT,h3⟩
  have at_:∀{h':Heap},Heap.FlyingW (W.hideAll s1.heap (frs X.stack ++ [a,T])) (X.env::X.outer) a (.ref Cv) a0 h'->s1.heap.UpToSlots h'->
   Inv X pins σ H1 {s1 with heap:=h'}/\Un (frs X.stack) [] H H1 s.heap h'/\HOk X.prog X.w H1 h':=λ{h'} f sm=>by
   have L:=zwl FF rfl f.1 sm (let⟨o,e,_⟩:=f.there;⟨o,e⟩)
   have u:=L.un un na nT λb m=> .inl m
   have k:=L.hok hok J.stkFree ha hT0
   exact⟨I.call' (s':={s1 with heap:=h'}) (ch:=[]) os u k bare (λb z=>absurd z `Z3),u,k⟩
  refine wpAny_looks_onW (J.ok.frames.trans (by rw[hst])) hfr fl λh4 held4 sm4=>?_
  refine wpAny_landsW held4 λh5 fl5 sm5=>?_
  obtain⟨J5,_,_⟩:=at_ fl5 (sm4.trans sm5)
  have mk:∀{xe:Value->Shared->Prop} {H':Hp} {s':Shared} {σ':St},Inv X pins σ' H' s'->Inv (X.suiteC a xe) pins σ' H' s':=λK=>Inv.re K (A':=X.A.mark (some (.ref a))) (c:=false) (λz=>nomatch z) K.ok.frames λ_ z=>z
  refine wpAny_handleBy_cons (codeAny_handlers_test (zf8 (X:=X.suiteC a λ_ _=>False) (mk J5) hg hm ?_ hd)) (by intro z;cases z)
  obtain⟨tb1,ni1,dd1,cd1,sl1,qC,lC,mC⟩:=hsub
  obtain⟨tl,N,nm,qn,bs,hdct,sn,sub,ab,col,dd,k0,k1,k2,k3,k5,mN,hC,_,_,_⟩:=(zll (x:=x) (mg:=λ_=>some (.ref Cv)) J5.kIn rfl qC).obj
  obtain⟨tlR,NR,nmR,qnR,bsR,hdctR,snR,subR,abR,colR,ddR,i0,i1,i2,i3,i5,mNR,hCR,_,_,TR⟩:=(zll (x:=x) (mg:=X.mg) J5.kIn hm qR).obj
  have eqC:=J5.kIn _ _ lC
  have e2:(some (excClassObj nm qn Cv N bs tl hdct sn sub ab col dd k0 k1 k2 k3 k5 ni1):Option Obj)=some ⟨.type "type",dd1, .cls cd1,sl1⟩:=hC.symm.trans eqC
  have mC':(Value.ref Cv::tl).contains (.ref CR)=true:=by
   have e3:=E3 Obj.data (U1 e2)
   have e4:cd1.mro= .ref Cv::tl:=by
    unfold excClassObj at e3
    dsimp only at e3
    injection e3 with e3
    rw[←e3]
   rw[←e4];exact mC
  obtain⟨ob,hob,hobc⟩:=fl5.there
  refine ztD hC hCR hob hobc (TR.hasType hbB) mC' (codeAny_handlers_suite_as ?_)
  refine lands_againW fl5 λh6 fl6 sm6=>?_
  obtain⟨J6,u6,k6⟩:=at_ fl6 ((sm4.trans sm5).trans sm6)
  have ea:ExcAt Cv a h6:=by
   obtain⟨_,_,_,oe6,vs6,_,_,_,e1,e2,e3,_⟩:=fl6
   exact⟨oe6,vs6,e1,e2.1,e3⟩
  have K6:Inv X pins σ (upd H1 a (.ext (ExcAt Cv a))) {s1 with heap:=h6}:=I.call' (s':={s1 with heap:=h6}) (ch:=[]) os (u6.track na ha) (k6.track ha ea.obj) bare (λb z=>absurd z `Z3)
  refine zda (v:= .ref a) K6 hN hi (.inl hk) rfl (λs7 K7=>?_) (.inr hk)
  refine D3 ((hs a _).o pins s7 _ _ (D.off i) (mk K7) (hh σ a I.len ha)) (λf s8 z=>?_) λe s8 z=>z
  have bk:∀{xe:Value->Shared->Prop} {H':Hp} {s':Shared} {σ':St},Inv (X.suiteC a xe) pins σ' H' s'->Inv X pins σ' H' s':=λ{xe _ _ _} K=>Inv.re (X:=X.suiteC a xe) K (A':=X.A) (c:=X.calm) (pn:=X.pn) (xe:=X.xe) I.ok.hd I.ok.frames λ_ z=>z
  cases f with
  |next=>obtain ⟨σ',H',K,q⟩:=z;exact ze8 (bk K) hN hi hk λs9 K9=>⟨_,H',K9,q⟩
  |brk=>obtain ⟨σ',H',K,q⟩:=z;exact ze8 (bk K) hN hi hk λs9 K9=>⟨_,H',K9,q⟩
  |cont=>obtain ⟨σ',H',K,q⟩:=z;exact ze8 (bk K) hN hi hk λs9 K9=>⟨_,H',K9,q⟩
  |ret u=>obtain ⟨v,σ',H',K,r,q⟩:=z;exact ze8 (bk K) hN hi hk λs9 K9=>⟨v,_,H',K9,r,q⟩⟩
end
set_option maxHeartbeats 1000000
section
open PySem.W PySem.Builtin PySem.Builtin.ObjectAttr PySem.Builtin.Getset_descriptor
theorem zkW{h:Heap}(x:ExcAt C a h):Looks M h (typeOf (.ref a)) (.ref C):=by
 obtain⟨oe,_,h1,h2,_⟩:=x
 exact h2▸(Looks.ld h1).andThen .now
theorem zsS{R:Result->Shared->Prop}{tp:Value}(X:K.In s.heap)(x:ExcAt C a s.heap)(hm:W.mroIn K C (.type "object")=some true)(q:R (.ok (.ret (.ref C))) s):
 codeAny (model prog w) A (.call (.builtin "getset_descriptor.__get__") ⟨[.builtin "object.__class__", .ref a,tp],[]⟩) R s:=by
 obtain⟨hh,g,dr,t,os⟩:=s
 have T0:=zkW (M:=model prog w) x
 have T1:=looks_mroIn (M:=model prog w) X hm
 refine codeAny_call_builtin KF.slot_gs.plain KF.entry_gs ?_
 refine KF.slot_gs.check _ _ _ _ _ _ _ _ KF.type_class (KF.args_gs _ _ _) ?_
 unfold Builtin.«getset_descriptor.__get__»
 unfold descrGet
 rw[dga_obj]
 refine C0 (K0 ?_)
 unfold descrGetter descrCheckInstance
 unfold descrNameAndClass isInstance
 simp only[KF.owner_class]
 repeat lk
 refine⟨Code.quiet_builtin _ `Y3,?_⟩
 refine codeAny_builtin KF.entry_class ?_
 unfold Builtin.«object.__class__»
 unfold shownTypeOf
 repeat lk
 exact q
theorem zo5{tk:Tok}{Q:Fin->Shared->Prop}(X:K.In s.heap)(x:ExcAt C a s.heap)(c:ExCls K C)(q:Q (.done (.ret (.ref C))) s):
 wpAny (model prog w) A (Builtin.«object.__getattribute__» ⟨[.ref a, .str "__class__" tk],[]⟩) Q E s:=by
 obtain⟨hh,g,d,t,os⟩:=s
 have Lk0:=zkW (M:=model prog w) x
 have T1:=looks_findIn (M:=model prog w) X c.fc9
 have T2:Looks (model prog w) hh (getOf (some (.builtin "object.__class__"))) (some (.builtin "getset_descriptor.__get__")):=looks_specialIn X c.sp9
 have T3:=looks_takesIn (M:=model prog w) X c.tk9
 have Lk1:Looks (model prog w) hh (find (.ref a) (.ref C) "__class__") (.bind (.builtin "getset_descriptor.__get__") (.builtin "object.__class__")):=
  T1.andThen (T2.andThen ((show Looks (model prog w) hh (dataDescriptor? (some (.builtin "object.__class__")) (some (.builtin "getset_descriptor.__get__"))) (some _)from T3.andThen .now).andThen (Looks.tag .now)))
 unfold Builtin.«object.__getattribute__»
 refine C0 (K0 ?_)
 refine C0 (K0 (C0 (Lk0.at (C0 (Lk1.at ?_)))))
 show wpAny _ _ (holding [Value.builtin "object.__class__"] (call (.builtin "getset_descriptor.__get__") [.builtin "object.__class__", .ref a, .ref C])>>=ret) _ _ _
 exact C0 (F3 (wpAny_call (zsS X x c.mo9 (K0 q))))
theorem zpI{Q:Option Value->Shared->Prop}(X:K.In s.heap)(x:ExcAt C a s.heap)(c:ExCls K C)(q:Q (some (.ref C)) {s with toks:=s.toks+1}):wpAny (model prog w) A (getAttr? (.ref a) "__class__") Q E s:=by
 obtain⟨hh,g,d,t,os⟩:=s
 have Lk0:=zkW (M:=model prog w) x
 have Lk1:=looks_findIn (M:=model prog w) X c.ga9
 have Lk2:=looks_findIn (M:=model prog w) X c.gh9
 have L3:Looks (model prog w) hh (isInstance (.ref a) (.type "BaseException")) true:=Lk0.andThen (looks_mroIn X c.mb9)
 unfold getAttr? getAttrBy? getAttrBy
 refine C0 (wpAny_mkText (C0 (wpAny_attempt (F3 (C0 (Lk0.at (C0 (Lk1.at ?_))))))))
 show wpAny _ _ (getAttrByItsOwn _ _ _ _ _ _) _ _ _
 unfold getAttrByItsOwn
 refine C0 (Lk2.at ?_)
 refine C0 (wpAny_attempt (F3 ?_))
 show wpAny _ _ (boundAndCalled _ _ _) _ _ _
 unfold boundAndCalled
 rw[F.attr_ValueError.ga.bind]
 refine C0 (K0 ?_)
 refine wpAny_call ?_
 refine codeAny_call_builtin (id:="BaseException.__getattribute__") (b:=Builtin.«object.__getattribute__») F.attr_ValueError.ga.plain F.entry_bexc_ga ?_
 refine W.check_slot (i:="BaseException.__getattribute__") (owner:="BaseException") (n:="__getattribute__") ?_ ?_ L3 (F.args_bexc_ga _ _) ?_
 ·decide +kernel
 ·decide +kernel
 refine zo5 (s:=⟨hh,g,d,t+1,os⟩) (a:=a) (C:=C) (K:=K) X x c ?_
 refine K0 ?_
 exact K0 q
theorem zik(c:ExCls K C):KitX K (.ref a) (.ref C) (ExcAt C a) where
 ty:=λ_ _ _ x=>zkW x
 it:=λ_ _ X _=>by
  obtain⟨_,_,_,_,ho⟩:=c.cl9
  intro A' Q' E' s' k q
  unfold isType loadHead
  exact C0 (wpAny_loadPart (k _ _ (X _ _ ho)) (K0 q))
 ne:=λh tp dd its n sl X htp=>by
  obtain⟨_,_,_,_,ho⟩:=c.cl9
  cases z:(Value.ref C==Value.ref tp)with
  |false=>rfl
  |true=>
   have e:C=tp:=Value.ref.inj (eq_of_beq z)
   subst e
   have:=(X _ _ ho).symm.trans htp
   injection this with this
   have:=E3 Obj.data this
   cases this
 ca:=λX x q=>zpI X x c q
def zw3(K:W.Frag):List V->Hp->VK->Prop:=λxs H Q=>∃a C dv b,xs=[.ref a,dv]/\H a=some (.ext (ExcAt C a))/\ExCls K C/\
 ((∃D,dv= .ref D/\W.kitOne K (.ref C) (.ref D)=some b)\/(∃T,dv= .ty T/\W.kitOne K (.ref C) (.type T)=some b)\/
   ∃tp Ds,dv= .ref tp/\H tp=some (.tup (List.map V.ref Ds))/\W.kitAny K (.ref C) (List.map Value.ref Ds)=some b)/\Q (.bl b) H
theorem zi5:∀{Ds:List Addr} {us:List Value},Vals (Ds.map V.ref) us->us=Ds.map Value.ref
 |[],_, .nil=>rfl
 |_::_,_, .cons r t=>by rw[show _=Value.ref _ from r,zi5 t];rfl
theorem ziK:CallR X (.builtin "isinstance") (zw3 X.K):=by
 intro pins s σ H xs us Q I r h
 obtain⟨a,C,dv,b,rfl,ha,c,hd,q⟩:=h
 obtain⟨u,w',rfl,ru,rw'⟩:=zj7 r
 cases(show u=Value.ref a from ru)
 have ea:ExcAt C a s.heap:=(show ObjOk X.prog X.w H s.heap a (.ext (ExcAt C a))from I.hok a _ ha).1
 rcases hd with⟨D,rfl,e⟩|⟨T,rfl,e⟩|⟨tp,Ds,rfl,ht,e⟩
 ·cases (show w'=Value.ref D from rw')
  exact W.kia_one (zik c) I.kIn ea e (λz=>nomatch z) λtk=>⟨.bl b,H,I.tok _,rfl,q⟩
 ·cases (show w'=Value.type T from rw')
  exact W.kia_one (zik c) I.kIn ea e (λz=>nomatch z) λtk=>⟨.bl b,H,I.tok _,rfl,q⟩
 ·cases (show w'=Value.ref tp from rw')
  obtain⟨_,its,rv,⟨o,h1,h2,n,h3⟩,_⟩:=(show ObjOk X.prog X.w H s.heap tp (.tup (List.map V.ref Ds))from I.hok tp _ ht)
  obtain rfl:=zi5 rv
  obtain⟨oc,od,dt,sl⟩:=o
  cases(show oc=Value.type "tuple"from h2)
  cases(show dt=Data.seq _ n from h3)
  exact W.kia_tup (zik c) I.kIn ea h1 e (λz=>nomatch z) λtk=>⟨.bl b,H,I.tok _,rfl,q⟩
end
set_option maxHeartbeats 4000000
theorem zjh:bootBuiltins "ValueError"=some (.type "ValueError"):=`Y3
inductive Eqw(H:Hp):V->V->Prop
 |tree {v v':V} {d:PyData}:Tr H v d->Tr H v' d->d.depth<=60->Eqw H v v'
 |same {a:Addr}:Eqw H (.ref a) (.ref a)
 |dict {a b:Addr} {kvs kvs':List (Key×V)}:H a=some (.dK kvs)->H b=some (.dK kvs')->Alk H kvs kvs'->Eqw H (.ref a) (.ref b)
def EqA(prog:Program)(w:World)(A:Around)(s:Shared)(y x:Value):Prop:=∀(E:Value->Shared->Prop) (Q:Bool->Shared->Prop),Q true s->wpAny (model prog w) A (eqBool y x) Q E s
theorem zrh{b:Addr}(hne:l≠b)(h:∀(E:Value->Shared->Prop) (Q:Value->Shared->Prop),Q (.bool true) s->wpAny (model prog w) A (richCompare .Eq (.ref l) (.ref b)) Q E s):EqA prog w A s (.ref l) (.ref b):=λE Q hq=>by
 unfold eqBool
 refine F3 (wpAny_ite_split (λz=>absurd (Value.ref.inj (eq_of_beq z)) hne) λ_=>?_)
 exact C0 (h E _ (K3 hq))
theorem zu8{b:Addr}{xs ys:Array Value}{n:Nat}{dd dd2:Option Addr}
 (hl:s.heap.get? l=some ⟨.type "tuple",dd, .seq xs n,sl⟩) (hb:s.heap.get? b=some ⟨.type "tuple",dd2, .seq ys n2,sl2⟩) (hz:xs.size=ys.size) (hu:A.units<cLine)
 (he:∀j (h1:j<xs.size) (h2:j<ys.size),EqA prog w A.in1 s xs[j] ys[j]) (h:Q (.bool false) s):wpAny (model prog w) A (richCompare .NotEq (.ref l) (.ref b)) Q E s:=by
 refine wpAny_richCompare_same_room (op:= .NotEq) ⟨_,hl,rfl⟩ ⟨_,hb,rfl⟩ F.slot_tuple_ne (J3 F.slot_tuple_ne ⟨_,hl,rfl⟩ F.entry_tuple_ne ?_ (F.args_tuple_ne_2 _ _)) hu
 obtain⟨hp,g,d,tk,os⟩:=s
 have f2:=AutoSeq1.sub_tuple_tuple
 have hZ:(xs.toList.zip ys.toList).length=xs.size:=by simp[hz]
 wp_walk using wpAny_loadPart' hl,wpAny_loadPart' hb,wpAny_forIn_list _ (λrest c s'=>c.1=none/\s'=⟨hp,g,d,tk,os⟩/\∃i,rest=(xs.toList.zip ys.toList).drop i) _
 case turn=>
  rintro⟨y,x⟩ rest c s' ⟨hc,rfl,i,hr⟩
  have hi:i<xs.size:=by
   rcases D2 i xs.size with z|z
   ·exact z
   ·rw[List.drop_of_length_le ()] at hr;cases hr
  rw[List.drop_eq_getElem_cons ()] at hr
  injection hr with e1 e2
  have ey:y=xs[i]:=by have:=E3 Prod.fst e1;simpa using this
  have ex:x=ys[i]'():=by have:=E3 Prod.snd e1;simpa using this
  subst ey ex
  refine C0 (he i hi () _ _ ?_)
  wp_walk
  exact⟨rfl,rfl,i+1,e2⟩
 case fin=>
  rintro⟨c1,c2⟩ s' ⟨hc,rfl,i,hr⟩
  simp only at hc
  subst hc
  wp_walk
  exact⟨_,rfl,by simpa[Builtin.Tuple.tupleCompareSizes,hz] using h⟩
 case h=>
  exact⟨rfl,rfl,0,rfl⟩
theorem zqA(I:Inv X pins σ H s)(hu:A.units+62<cLine){d:PyData}(t:Tr H v d)(t':Tr H v' d)(hd:d.depth<=60)(r:RelV v u)(r':RelV v' u'):SeqAt.EqAt A s u u' true:=by
 obtain⟨as,x1⟩:=t.reads I _ r
 obtain⟨bs,x2⟩:=t'.reads I _ r'
 have x:=SeqAt.eqAt_reads _ _ A s _ _ as bs x1 x2 t.can t'.can ()
 rw[SeqAt.eqv_refl _ t.can] at x
 exact x
theorem zvv(I:Inv X pins σ H s)(hu:A.units+62<cLine)(a:Alk H kvs kvs'):∀{vs vs':List (Key×Value)},KV kvs vs->KV kvs' vs'->
 ∀(i:Nat) (k:Key) (v:Value),vs[i]?=some (k,v)->∃y,vs'[i]?=some (k,y)/\SeqAt.EqAt A s v y true:=by
 induction a with
 |nil=>
  intro vs vs' r r' i k v e
  cases r
  cases e
 |cons t t' hd a ih=>
  intro vs vs' r r' i k v e
  cases r with
  | @cons p q ps qs r1 r=>
    cases r' with
    | @cons p' q' ps' qs' r1' r'=>
      cases i with
      |zero=>
       obtain⟨q1,q2⟩:=q
       obtain⟨q1',q2'⟩:=q'
       cases e
       obtain⟨rk,rv⟩:=r1
       obtain⟨rk',rv'⟩:=r1'
       exact⟨q2',by dsimp only at rk rk';rw[List.getElem?_cons_zero,←rk',←rk],zqA I hu t t' hd rv rv'⟩
      |succ i=>exact ih r r' i k v e
theorem Eqw.at (I:Inv X pins σ H s)(hu:A.units+63<cLine)(e:Eqw H v v')(r:RelV v u)(r':RelV v' u'):EqA X.prog X.w A s u u':=by
 cases e with
 |tree t t' hd=>exact λE Q hq=>zqA I () t t' hd r r' X.prog X.w E Q hq
 |same=>
  cases r
  cases r'
  exact λE Q hq=>SeqAt.EqAt.same _ X.prog X.w E Q hq
 | @dict a b kvs kvs' ea eb al=>
   cases r
   cases r'
   by_cases hab:a=b
   ·subst hab;exact λE Q hq=>SeqAt.EqAt.same _ X.prog X.w E Q hq
   ·refine zrh hab λE Q hq=>?_
    obtain⟨z,sa,vs,rel,dd⟩:=zjW I.hok ea
    obtain⟨z',sb,vs',rel',dd'⟩:=zjW I.hok eb
    have hl:vs.length=vs'.length:=by rw[←rel.length,←rel'.length,al.length]
    have nd:(vs'.map (·.1)).Nodup:=by obtain⟨_,_,_,_,_,_,_,_,nd⟩:=dd';exact nd
    refine W.keq_eq (r:=true) sa sb dd dd' () (λ_=>zor λp hp=>?_) ?_
    ·obtain ⟨i,hi,ei⟩:=F2 hp
     obtain⟨y,h1,h2⟩:=zvv I (A:=A.in1) (by show A.units+1+62<cLine;lia) al rel rel' i p.1 p.2 (by rw[F0 hi,ei])
     exact⟨y,valueAt_of_get nd h1,h2⟩
    ·rw[hl,beq_self_eq_true];exact hq
theorem zv5(hu:X.A.units+66<cLine):OpR X (compareOp .NotEq) (λx y H Q=>∃a b xs ys,x= .ref a/\y= .ref b/\H a=some (.tup xs)/\H b=some (.tup ys)/\xs.length=ys.length/\(∀(i:Nat) (v v':V),xs[i]?=some v->ys[i]?=some v'->Eqw H v v')/\Q (.bl false) H):=by
 intro pins s σ H x y u v Q I rx ry h
 obtain⟨a,b,xs,ys,rfl,rfl,e,e',hl,al,q⟩:=h
 cases rx
 cases ry
 obtain⟨_,its,rv,⟨⟨c1,d1,dt1,sl1⟩,o1,h1,n1,g1⟩,_⟩:=(show ObjOk X.prog X.w H s.heap a (.tup xs)from I.hok a _ e)
 obtain⟨_,its',rv',⟨⟨c2,d2,dt2,sl2⟩,o2,h2,n2,g2⟩,_⟩:=(show ObjOk X.prog X.w H s.heap b (.tup ys)from I.hok b _ e')
 cases(show c1=Value.type "tuple"from h1)
 cases(show c2=Value.type "tuple"from h2)
 cases(show dt1=Data.seq _ n1 from g1)
 cases(show dt2=Data.seq _ n2 from g2)
 have hz:its.length=its'.length:=by rw[←rv.length,←rv'.length,hl]
 refine zu8 o1 o2 (by simpa using hz) () (λj h1 h2=>?_) ⟨.bl _,H,I,rfl,q⟩
 have h1':j<its.length:=by simpa using h1
 have h2':j<its'.length:=by simpa using h2
 have k1':its[j]?=some its[j]:=F0 h1'
 have k2':its'[j]?=some its'[j]:=F0 h2'
 have hx:j<xs.length:=by rw[rv.length];exact h1'
 have hy:j<ys.length:=by rw[rv'.length];exact h2'
 obtain⟨u1,k1,r1⟩:=rv.get (F0 hx)
 obtain⟨u2,k2,r2⟩:=rv'.get (F0 hy)
 rw[k1'] at k1;cases k1
 rw[k2'] at k2;cases k2
 exact(al j _ _ (F0 hx) (F0 hy)).at I (A:=X.A.in1) (by show X.A.units+1+63<cLine;lia) r1 r2
section
variable{q:Str}{h:Heap}{st:Stmt}{ps:List Str}
theorem erA(E:Er K x st)(X:K.In h)(G:h.Ns mainGlobals mg)
 (hb:∀(kV doc pm:Value) (an:Option Addr) (cdv ct:Value) (us:List Value),us.length=ps.length->bindArgs (W.fnOf x x (zar st) (zaa st) (zd st) .none kV doc pm an cdv ct) ⟨us,[]⟩=pure (ps.zip us)):
 At K mg x st ps E.f9 (W.fnOf x x (zar st) (zaa st) (zd st) .none E.kV9 E.dc9 E.pm9 E.an9 E.cd9 E.ct9):=
 ⟨zke E.l9 E.c9 E.k9,(zke E.l9 E.c9 E.k9).binds hb,Z2 X G E.a9,E.k9⟩
theorem erD(E:ErD K x st)(m:Nat)(X:K.In h)(G:h.Ns mainGlobals mg)(hm:ps.length=m+1)
 (hb:∀(dt:Addr) (kV doc pm:Value) (an:Option Addr) (cdv ct:Value) (us:List Value),us.length=m+1->∃k:Option (Array Value)->Sem (List (Str×Value)),bindArgs (W.fnOf x x (zar st) (zaa st) (zd st) (.ref dt) kV doc pm an cdv ct) ⟨us,[]⟩=seqItems? (.ref dt)>>=k/\k (some #[.none])=pure (ps.zip (us ++ [])))
 (hd:∀(dt:Addr) (kV doc pm:Value) (an:Option Addr) (cdv ct:Value) (us:List Value),us.length=m->∃k:Option (Array Value)->Sem (List (Str×Value)),bindArgs (W.fnOf x x (zar st) (zaa st) (zd st) (.ref dt) kV doc pm an cdv ct) ⟨us,[]⟩=seqItems? (.ref dt)>>=k/\k (some #[.none])=pure (ps.zip (us ++ [.none]))):
 AtD K mg x st ps E.f9 (W.fnOf x x (zar st) (zaa st) (zd st) (.ref E.dt9) E.kV9 E.dc9 E.pm9 E.an9 E.cd9 E.ct9):=
 ⟨zkm E.l9 E.d9 E.c9 E.k9,(zkm E.l9 E.d9 E.c9 E.k9).binds (m+1) hm hb,(zkm E.l9 E.d9 E.c9 E.k9).binds m hm hd,Z2 X G E.a9,E.k9⟩
theorem erM(E:Em K C x q st)
 (hb:∀(kV doc pm:Value) (an:Option Addr) (cdv ct:Value) (us:List Value),us.length=ps.length->bindArgs (W.fnOf x q (zar st) (zaa st) (zd st) .none kV doc pm an cdv ct) ⟨us,[]⟩=pure (ps.zip us)):
 MAt K C x q st ps E.f9 (W.fnOf x q (zar st) (zaa st) (zd st) .none E.kV9 E.dc9 E.pm9 E.an9 E.cd9 E.ct9):=
 ⟨zke E.l9 E.c9 E.k9,(zke E.l9 E.c9 E.k9).binds hb,⟨E.a9,E.i9,E.k9⟩⟩
theorem erN(E:En K x)(H:Hp):SqT K H E.f9 [.int 0, .non, .ref E.e9]:= .inr ⟨_,_,E.n9,E.l9,rfl,rfl,by show 3<=sizeLine;decide, .cons ⟨E.tk9,rfl⟩ (.cons rfl (.cons rfl .nil))⟩
theorem erN0(E:En K x)(H:Hp):SqT K H E.e9 []:= .inr ⟨_,_,E.ne9,E.d9,rfl,rfl,by show 0<=sizeLine;decide, .nil⟩
end
theorem zlO{xs:List Str}{vs:List Value}(h:TxV xs vs):Vals (xs.map V.str) vs/\vs.length=xs.length:=by
 induction h with
 |nil=>exact ⟨.nil,rfl⟩
 |cons h ih=>exact ⟨.cons ⟨_,rfl⟩ ih.1,by rw[L1,L1,ih.2]⟩
theorem erT{xs:List Str}(E:Et K x xs)(hl:xs.length<=sizeLine)(H:Hp):SqT K H E.f9 (xs.map V.str):=
 .inr ⟨_,_,E.n9,E.l9,rfl,rfl,by show E.us9.size<=sizeLine;rw[←Array.length_toList,(zlO E.d9).2];exact hl,(zlO E.d9).1⟩
noncomputable abbrev zjy:List Str:=["thing"]
noncomputable abbrev zcS:List Str:=["thing"]
theorem zo3:FnScope zjy zcS (zd zff):=`V3
noncomputable def zlL:Scope:={kind:= .function,names:=[(".0", .local),("sign", .local)],isGenerator:=false,isCoroutine:=false,more:=[]}
theorem zg7:CompOk zjy (zd zff) ["sign"] [none] zlL:=⟨rfl,`Y3,`Y3,`Y3,`Y3,rfl,`Y3⟩
noncomputable abbrev zmK:List Str:=["thing"]
noncomputable abbrev zbi:List Str:=["thing"]
theorem zg3:FnScope zmK zbi (zd zeT):=`V3
noncomputable abbrev znk:List Str:=["thing","low","high"]
noncomputable abbrev zbc:List Str:=["thing","low","high"]
theorem ziS:FnScope znk zbc (zd zfy):=`V3
noncomputable abbrev zqs:List Str:=["thing","fewest","most"]
noncomputable abbrev zbJ:List Str:=["thing","fewest","most"]
theorem zsH:FnScope zqs zbJ (zd zh1):=`V3
noncomputable abbrev zmO:List Str:=["thing","many"]
noncomputable abbrev zaP:List Str:=["thing","many"]
theorem zlz:FnScope zmO zaP (zd zez):=`V3
noncomputable abbrev zhj:List Str:=["thing","word","about"]
noncomputable abbrev za8:List Str:=["thing"]
theorem zct:FnScope zhj za8 (zd zck):=`V3
noncomputable abbrev zqk:List Str:=["thing"]
noncomputable abbrev zfb:List Str:=["thing"]
theorem zpG:FnScope zqk zfb (zd zgV):=`V3
noncomputable abbrev zg2:List Str:=["thing"]
noncomputable abbrev zb9:List Str:=["thing"]
theorem zme:FnScope zg2 zb9 (zd zds):=`V3
noncomputable def zjd:Scope:={kind:= .function,names:=[(".0", .local),("cond", .local),("is_cond", .globalImplicit)],isGenerator:=false,isCoroutine:=false,more:=[]}
theorem zfl:CompOk zg2 (zd zds) ["cond"] [none] zjd:=⟨rfl,`Y3,`Y3,`Y3,`Y3,rfl,`Y3⟩
noncomputable abbrev zpi:List Str:=["cond"]
noncomputable abbrev zbO:List Str:=["cond"]
theorem zjL:FnScope zpi zbO (zd zgY):=`V3
noncomputable abbrev zmV:List Str:=["thing"]
noncomputable abbrev zdV:List Str:=["thing"]
theorem znp:FnScope zmV zdV (zd zfF):=`V3
noncomputable abbrev zhi:List Str:=["thing"]
noncomputable abbrev zdn:List Str:=["thing"]
theorem zlY:FnScope zhi zdn (zd zdu):=`V3
noncomputable def zjc:Scope:={kind:= .function,names:=[(".0", .local),("cond", .local),("asks_to", .globalImplicit)],isGenerator:=false,isCoroutine:=false,more:=[]}
theorem zfm:CompOk zhi (zd zdu) ["cond"] [none] zjc:=⟨rfl,`Y3,`Y3,`Y3,`Y3,rfl,`Y3⟩
noncomputable abbrev zsz:List Str:=["thing"]
noncomputable abbrev zgi:List Str:=["thing"]
theorem zq7:FnScope zsz zgi (zd zif):=`V3
noncomputable abbrev zpg:List Str:=["thing"]
noncomputable abbrev zfa:List Str:=["thing"]
theorem zqf:FnScope zpg zfa (zd zgJ):=`V3
noncomputable abbrev zsP:List Str:=["cond","way","marks","to","word","about"]
noncomputable abbrev zeh:List Str:=["cond","way","marks","to"]
theorem zhG:FnScope zsP zeh (zd zle):=`V3
noncomputable abbrev znF:List Str:=["conds","way","marks","to","cond"]
noncomputable abbrev zc6:List Str:=["conds","way","marks","to"]
theorem zhV:FnScope znF zc6 (zd zfK):=`V3
noncomputable abbrev zm2:List Str:=["houses","thing"]
noncomputable abbrev zeo:List Str:=["houses","thing"]
theorem znP:FnScope zm2 zeo (zd zfN):=`V3
noncomputable abbrev zfo:List Str:=["thing"]
noncomputable abbrev zb1:List Str:=["thing"]
theorem zjl:FnScope zfo zb1 (zd zb7):=`V3
noncomputable def zhs:Scope:={kind:= .function,names:=[(".0", .local),("rule", .local),("is_liking", .globalImplicit)],isGenerator:=false,isCoroutine:=false,more:=[]}
theorem zes:CompOk zfo (zd zb7) ["rule"] [none] zhs:=⟨rfl,`Y3,`Y3,`Y3,`Y3,rfl,`Y3⟩
noncomputable abbrev zg0:List Str:=["thing"]
noncomputable abbrev zdr:List Str:=["thing"]
theorem zms:FnScope zg0 zdr (zd zdh):=`V3
noncomputable def zjg:Scope:={kind:= .function,names:=[(".0", .local),("rule", .local),("is_hand", .globalImplicit)],isGenerator:=false,isCoroutine:=false,more:=[]}
theorem zfp:CompOk zg0 (zd zdh) ["rule"] [none] zjg:=⟨rfl,`Y3,`Y3,`Y3,`Y3,rfl,`Y3⟩
noncomputable abbrev zkn:List Str:=["town","house"]
noncomputable abbrev zcy:List Str:=["town","house"]
theorem zk5:FnScope zkn zcy (zd zd8):=`V3
noncomputable abbrev zn0:List Str:=["town","house"]
noncomputable abbrev zdY:List Str:=["town","house"]
theorem znD:FnScope zn0 zdY (zd zfJ):=`V3
noncomputable abbrev zne:List Str:=["town","house","ties"]
noncomputable abbrev zgS:List Str:=["town","house"]
theorem zrQ:FnScope zne zgS (zd zhN):=`V3
noncomputable def zrk:Scope:={kind:= .function,names:=[(".0", .local),("a", .local),("b", .local),("house", .free)],isGenerator:=false,isCoroutine:=false,more:=[]}
theorem zig:CompOk zne (zd zhN) ["a","b","house"] [none,none,some 1] zrk:=⟨rfl,`Y3,`Y3,`Y3,`Y3,rfl,`Y3⟩
noncomputable def zr4:Scope:={kind:= .function,names:=[(".0", .local),("a", .local),("b", .local),("house", .free)],isGenerator:=false,isCoroutine:=false,more:=[]}
theorem zhX:CompOk zne (zd zhN) ["a","b","house"] [none,none,some 1] zr4:=⟨rfl,`Y3,`Y3,`Y3,`Y3,rfl,`Y3⟩
noncomputable abbrev zpb:List Str:=["town","thing","word","house","about"]
noncomputable abbrev zdG:List Str:=["town","thing"]
theorem zfe:FnScope zpb zdG (zd zgv):=`V3
noncomputable abbrev ziT:List Str:=["deed"]
noncomputable abbrev zaS:List Str:=["deed"]
theorem zi4:FnScope ziT zaS (zd zc7):=`V3
noncomputable abbrev zpc:List Str:=["town","rows","house","rules","at"]
noncomputable abbrev zfc:List Str:=["town","rows","house","rules"]
theorem zj4:FnScope zpc zfc (zd zgW):=`V3
noncomputable abbrev zfr:List Str:=["town","deed","goal","houses","ties","likings","hands","word","house","about","pair"]
noncomputable abbrev zb6:List Str:=["town","deed"]
theorem zG:FnScope zfr zb6 (zd zbZ):=`V3
noncomputable def zhk:Scope:={kind:= .function,names:=[(".0", .local),("one", .local),("pair", .free)],isGenerator:=false,isCoroutine:=false,more:=[]}
theorem zep:CompOk zfr (zd zbZ) ["one","pair"] [none,some 10] zhk:=⟨rfl,`Y3,`Y3,`Y3,`Y3,rfl,`Y3⟩
noncomputable abbrev zeW:List Str:=["marks","act","word","mark","others"]
noncomputable abbrev zbt:List Str:=["marks","act"]
theorem zbx:FnScope zeW zbt (zd zbp):=`V3
noncomputable def zgx:Scope:={kind:= .function,names:=[(".0", .local),("one", .local),("mark", .free)],isGenerator:=false,isCoroutine:=false,more:=[]}
theorem zdF:CompOk zeW (zd zbp) ["one","mark"] [none,some 3] zgx:=⟨rfl,`Y3,`Y3,`Y3,`Y3,rfl,`Y3⟩
noncomputable abbrev zrE:List Str:=["town","way","marks","to","told","conds","act"]
noncomputable abbrev zgq:List Str:=["town","way","marks","to"]
theorem zeI:FnScope zrE zgq (zd ziG):=`V3
noncomputable abbrev ztn:List Str:=["town","way","marks","conds","told"]
noncomputable abbrev zgf:List Str:=["town","way","marks"]
theorem zkA:FnScope ztn zgf (zd zkh):=`V3
noncomputable abbrev zkz:List Str:=["town","way","marks"]
noncomputable abbrev zcM:List Str:=["town","way","marks"]
theorem zk8:FnScope zkz zcM (zd zeg):=`V3
noncomputable abbrev zgd:List Str:=["town","marked","keys","key","marks"]
noncomputable abbrev zcN:List Str:=["town","marked"]
theorem zcz:FnScope zgd zcN (zd zcL):=`V3
noncomputable def zh6:Scope:={kind:= .function,names:=[(".0", .local),("way", .local),("marks", .local),("liking_key", .globalImplicit),("town", .free)],isGenerator:=false,isCoroutine:=false,more:=[]}
theorem zc0:CompOk zgd (zd zcL) ["way","marks","town"] [none,none,some 0] zh6:=⟨rfl,`Y3,`Y3,`Y3,`Y3,rfl,`Y3⟩
noncomputable abbrev zgT:List Str:=["self","town","name"]
noncomputable abbrev zaU:List Str:=["self","town","name"]
theorem zgt:FnScope zgT zaU (zd zbR):=`V3
noncomputable abbrev zlt:List Str:=["self"]
noncomputable abbrev zdw:List Str:=["self"]
theorem zmP:FnScope zlt zdw (zd zeU):=`V3
noncomputable abbrev zjo:List Str:=["self","other"]
noncomputable abbrev za5:List Str:=["self","other"]
theorem zi7:FnScope zjo za5 (zd zdD):=`V3
noncomputable abbrev zjm:List Str:=["self"]
noncomputable abbrev zb4:List Str:=["self"]
theorem zjb:FnScope zjm zb4 (zd zdC):=`V3
noncomputable abbrev zkQ:List Str:=["self","letter","one","to","nr","way","marks"]
noncomputable abbrev zcK:List Str:=["self","letter"]
theorem zaV:FnScope zkQ zcK (zd zem):=`V3
noncomputable abbrev zh9:List Str:=["self"]
noncomputable abbrev zaQ:List Str:=["self"]
theorem zim:FnScope zh9 zaQ (zd zc8):=`V3
noncomputable abbrev zfZ:List Str:=["self","found","nr","way","marks"]
noncomputable abbrev zaN:List Str:=["self"]
theorem zaw:FnScope zfZ zaN (zd zbE):=`V3
noncomputable abbrev zi9:List Str:=["self","going"]
noncomputable abbrev za2:List Str:=["self","going"]
theorem zjk:FnScope zi9 za2 (zd zdA):=`V3
noncomputable abbrev zjq:List Str:=["self","other","way","marks","told"]
noncomputable abbrev zb0:List Str:=["self","other"]
theorem zbY:FnScope zjq zb0 (zd zdE):=`V3
noncomputable abbrev zhq:List Str:=["self","found","other","nr","way","marks","offer"]
noncomputable abbrev zaI:List Str:=["self"]
theorem zai:FnScope zhq zaI (zd zcm):=`V3
noncomputable abbrev zho:List Str:=["self","town"]
noncomputable abbrev za9:List Str:=["self","town"]
theorem zhm:FnScope zho za9 (zd zcu):=`V3
noncomputable abbrev zh4:List Str:=["self","other"]
noncomputable abbrev zny:List Str:=["road","k"]
noncomputable abbrev zek:List Str:=["road","k"]
theorem znV:FnScope zny zek (zd zfM):=`V3
noncomputable abbrev zeH:List Str:=["self","town","name"]
noncomputable abbrev zbD:List Str:=["self","town"]
theorem zeB:FnScope zeH zbD (zd zbq):=`V3
noncomputable def zgC:Scope:={kind:= .function,names:=[(".0", .local),("name", .local),("House", .globalImplicit),("town", .free)],isGenerator:=false,isCoroutine:=false,more:=[]}
theorem zdH:CompOk zeH (zd zbq) ["name","town"] [none,some 1] zgC:=⟨rfl,`Y3,`Y3,`Y3,`Y3,rfl,`Y3⟩
noncomputable abbrev zmU:List Str:=["self"]
noncomputable abbrev zdc:List Str:=["self"]
theorem zm4:FnScope zmU zdc (zd zfB):=`V3
noncomputable abbrev zgo:List Str:=["self"]
noncomputable abbrev zcE:List Str:=["self"]
theorem zkM:FnScope zgo zcE (zd zcw):=`V3
noncomputable def ziQ:Scope:={kind:= .function,names:=[(".0", .local),("name", .local),("house", .local)],isGenerator:=false,isCoroutine:=false,more:=[]}
theorem zc9:CompOk zgo (zd zcw) ["name","house"] [none,none] ziQ:=⟨rfl,`Y3,`Y3,`Y3,`Y3,rfl,`Y3⟩
noncomputable abbrev zfi:List Str:=["self"]
noncomputable abbrev zb3:List Str:=["self"]
theorem zjp:FnScope zfi zb3 (zd zb5):=`V3
noncomputable def zhp:Scope:={kind:= .function,names:=[(".0", .local),("name", .local),("house", .local)],isGenerator:=false,isCoroutine:=false,more:=[]}
theorem zco:CompOk zfi (zd zb5) ["name","house"] [none,none] zhp:=⟨rfl,`Y3,`Y3,`Y3,`Y3,rfl,`Y3⟩
noncomputable abbrev znz:List Str:=["self"]
noncomputable abbrev zcY:List Str:=["self"]
theorem zn4:FnScope znz zcY (zd zfI):=`V3
noncomputable abbrev zhl:List Str:=["self","letter","one","to","nr"]
noncomputable abbrev za7:List Str:=["self","letter"]
theorem zba:FnScope zhl za7 (zd zcr):=`V3
noncomputable abbrev zno:List Str:=["self","k","letter"]
noncomputable abbrev zd4:List Str:=["self","k"]
theorem ziL:FnScope zno zd4 (zd zfE):=`V3
noncomputable abbrev ze2:List Str:=["self"]
noncomputable abbrev zbu:List Str:=["self"]
theorem zis:FnScope ze2 zbu (zd zbz):=`V3
noncomputable def zgH:Scope:={kind:= .function,names:=[(".0", .local),("letter", .local),("self", .free)],isGenerator:=false,isCoroutine:=false,more:=[]}
theorem zdK:CompOk ze2 (zd zbz) ["letter","self"] [none,some 0] zgH:=⟨rfl,`Y3,`Y3,`Y3,`Y3,rfl,`Y3⟩
noncomputable abbrev zlj:List Str:=["self","deed","house","named","name"]
noncomputable abbrev zaX:List Str:=["self","deed"]
theorem zbr:FnScope zlj zaX (zd zd2):=`V3
noncomputable abbrev znW:List Str:=["self","pair"]
noncomputable abbrev zlu:List Str:=["_law_script","_law_k","_law_cell"]
noncomputable abbrev zdl:List Str:=["_law_script","_law_k"]
theorem zeK:FnScope zlu zdl (zd zeQ):=`V3
noncomputable abbrev znx:List Str:=["_law_script","_law_hand_here","_law_digits","_law_far","_law_k","_law_other"]
noncomputable abbrev zec:List Str:=["_law_script"]
theorem zaT:FnScope znx zec (zd zfz):=`V3
noncomputable abbrev zlX:List Str:=["_law_hand_here","_law_many","_law_digit","_law_turn","_law_mixed","_law_other"]
noncomputable abbrev z9:List Str:=["_law_hand_here","_law_many"]
theorem zbj:FnScope zlX z9 (zd zew):=`V3
noncomputable abbrev zmq:List Str:=["_law_hand_here","_law_some"]
noncomputable abbrev zU:List Str:=["_law_hand_here","_law_some"]
theorem zhh:FnScope zmq zU (zd zeR):=`V3
noncomputable abbrev zgp:List Str:=["_law_hand_here","_law_many","_law_letters","_law_first","_law_step","_law_names_here","_law_kept","_law_spot","_law_k"]
noncomputable abbrev zcH:List Str:=["_law_hand_here","_law_many"]
theorem zau:FnScope zgp zcH (zd zcP):=`V3
noncomputable def ziq:Scope:={kind:= .function,names:=[(".0", .local),("_law_k", .local),("_law_first", .free),("_law_letters", .free),("_law_step", .free)],isGenerator:=false,isCoroutine:=false,more:=[]}
theorem zey:CompOk zgp (zd zcP) ["_law_k","_law_first","_law_letters","_law_step"] [none,some 3,some 2,some 4] ziq:=⟨rfl,`Y3,`Y3,`Y3,`Y3,rfl,`Y3⟩
noncomputable abbrev zl3:List Str:=["_law_hand_here","_law_houses","_law_marks","_law_to","_law_way","_law_cond_here"]
noncomputable abbrev zdv:List Str:=["_law_hand_here","_law_houses","_law_marks","_law_to"]
theorem zaC:FnScope zl3 zdv (zd zeY):=`V3
noncomputable abbrev zf1:List Str:=["_law_hand_here","_law_houses","_law_marks","_law_to","_law_many"]
noncomputable abbrev zbs:List Str:=["_law_hand_here","_law_houses","_law_marks","_law_to"]
theorem zfX:FnScope zf1 zbs (zd zcF):=`V3
noncomputable def zhY:Scope:={kind:= .function,names:=[(".0", .local),("_law_k", .local),("_law_cond", .globalImplicit),("_law_hand_here", .free),("_law_houses", .free),("_law_marks", .free),("_law_to", .free)],isGenerator:=false,isCoroutine:=false,more:=[]}
theorem zeP:CompOk zf1 (zd zcF) ["_law_k","_law_hand_here","_law_houses","_law_marks","_law_to"] [none,some 0,some 1,some 2,some 3] zhY:=⟨rfl,`Y3,`Y3,`Y3,`Y3,rfl,`Y3⟩
noncomputable abbrev ziU:List Str:=["_law_hand_here","_law_houses","_law_marks","_law_some","_law_k","_law_number"]
noncomputable abbrev zbG:List Str:=["_law_hand_here","_law_houses","_law_marks"]
theorem zbw:FnScope ziU zbG (zd zc2):=`V3
noncomputable abbrev zlb:List Str:=["_law_hand_here","_law_houses","_law_marks","_law_some","_law_k","_law_act"]
noncomputable abbrev zcD:List Str:=["_law_hand_here","_law_houses","_law_marks"]
theorem zcC:FnScope zlb zcD (zd zee):=`V3
noncomputable abbrev zmF:List Str:=["_law_hand_here","_law_houses","_law_more","_law_ties_here","_law_k","_law_a","_law_b"]
noncomputable abbrev zdt:List Str:=["_law_hand_here","_law_houses","_law_more"]
theorem zbg:FnScope zmF zdt (zd zeM):=`V3
noncomputable abbrev zet:List Str:=["_law_hand_here","_law_many","_law_names_here","_law_houses","_law_marks","_law_ties_here","_law_goal","_law_rising","_law_likings_here","_law_hands_here"]
noncomputable abbrev zdq:List Str:=["_law_hand_here"]
theorem zan:FnScope zet zdq (zd zca):=`V3
noncomputable def zju:Scope:={kind:= .function,names:=[(".0", .local),("_law_house", .local),("_law_likings", .globalImplicit),("_law_hand_here", .free),("_law_marks", .free),("_law_names_here", .free)],isGenerator:=false,isCoroutine:=false,more:=[]}
theorem zfk:CompOk zet (zd zca) ["_law_house","_law_hand_here","_law_marks","_law_names_here"] [none,some 0,some 4,some 2] zju:=⟨rfl,`Y3,`Y3,`Y3,`Y3,rfl,`Y3⟩
noncomputable def zje:Scope:={kind:= .function,names:=[(".0", .local),("_law_house", .local),("_law_hands", .globalImplicit),("_law_hand_here", .free),("_law_marks", .free),("_law_names_here", .free)],isGenerator:=false,isCoroutine:=false,more:=[]}
theorem zfh:CompOk zet (zd zca) ["_law_house","_law_hand_here","_law_marks","_law_names_here"] [none,some 0,some 4,some 2] zje:=⟨rfl,`Y3,`Y3,`Y3,`Y3,rfl,`Y3⟩
noncomputable abbrev zmY:List Str:=["_law_hand_here","_law_town_here","_law_a","_law_b","_law_rule","_law_hold","_law_some"]
noncomputable abbrev zeb:List Str:=["_law_hand_here","_law_town_here"]
theorem zah:FnScope zmY zeb (zd zfS):=`V3
noncomputable abbrev ziD:List Str:=["_law_run","_law_deed","_law_caught","e"]
noncomputable abbrev zbF:List Str:=["_law_run","_law_deed"]
theorem zbB:FnScope ziD zbF (zd zdb):=`V3
noncomputable abbrev zlH:List Str:=["_law_run"]
noncomputable abbrev zdp:List Str:=["_law_run"]
theorem zmA:FnScope zlH zdp (zd zeF):=`V3
noncomputable abbrev zwf:List Str:=["_law_script","_law_hand_here","_law_town_here","_law_run","_law_k","_law_told_here","_law_many","_law_house","_law_at"]
noncomputable abbrev zrb:List Str:=["_law_script"]
theorem zfY:FnScope zwf zrb (zd zoP):=`V3
set_option genInjectivity false in
set_option genSizeOfSpec false in
set_option genSizeOf false in
structure Ev(K:W.Frag)(mg:Str->Option Value) where
 c_House:Addr
 k_House:Cls K c_House
 m_House:mg "House"=some (.ref c_House)
 n_House_place:NoAttr K c_House "place"
 n_House_name:NoAttr K c_House "name"
 n_House_hearings:NoAttr K c_House "hearings"
 n_House_tellings:NoAttr K c_House "tellings"
 n_House_going:NoAttr K c_House "going"
 n_House_times:NoAttr K c_House "times"
 c_Run:Addr
 k_Run:Cls K c_Run
 m_Run:mg "Run"=some (.ref c_Run)
 n_Run_place:NoAttr K c_Run "place"
 n_Run_people:NoAttr K c_Run "people"
 n_Run_waiting:NoAttr K c_Run "waiting"
 a_is_name:Addr
 d_is_name:FuncData
 is_name:At K mg "is_name" zff zcS a_is_name d_is_name
 a_is_number:Addr
 d_is_number:FuncData
 is_number:At K mg "is_number" zeT zbi a_is_number d_is_number
 a_is_whole:Addr
 d_is_whole:FuncData
 is_whole:At K mg "is_whole" zfy zbc a_is_whole d_is_whole
 a_is_row:Addr
 d_is_row:FuncData
 is_row:At K mg "is_row" zh1 zbJ a_is_row d_is_row
 a_is_worded:Addr
 d_is_worded:FuncData
 is_worded:At K mg "is_worded" zez zaP a_is_worded d_is_worded
 a_is_plain_cond:Addr
 d_is_plain_cond:FuncData
 is_plain_cond:At K mg "is_plain_cond" zck za8 a_is_plain_cond d_is_plain_cond
 a_is_cond:Addr
 d_is_cond:FuncData
 is_cond:At K mg "is_cond" zgV zfb a_is_cond d_is_cond
 a_are_conds:Addr
 d_are_conds:FuncData
 are_conds:At K mg "are_conds" zds zb9 a_are_conds d_are_conds
 a_asks_to:Addr
 d_asks_to:FuncData
 asks_to:At K mg "asks_to" zgY zbO a_asks_to d_asks_to
 a_is_worth:Addr
 d_is_worth:FuncData
 is_worth:At K mg "is_worth" zfF zdV a_is_worth d_is_worth
 a_is_liking:Addr
 d_is_liking:FuncData
 is_liking:At K mg "is_liking" zdu zdn a_is_liking d_is_liking
 a_is_act:Addr
 d_is_act:FuncData
 is_act:At K mg "is_act" zif zgi a_is_act d_is_act
 a_is_hand:Addr
 d_is_hand:FuncData
 is_hand:At K mg "is_hand" zgJ zfa a_is_hand d_is_hand
 a_holds:Addr
 d_holds:FuncData
 holds:AtD K mg "holds" zle zeh a_holds d_holds
 a_all_hold:Addr
 d_all_hold:FuncData
 all_hold:AtD K mg "all_hold" zfK zc6 a_all_hold d_all_hold
 a_is_house:Addr
 d_is_house:FuncData
 is_house:At K mg "is_house" zfN zeo a_is_house d_is_house
 a_are_likings:Addr
 d_are_likings:FuncData
 are_likings:At K mg "are_likings" zb7 zb1 a_are_likings d_are_likings
 a_are_hands:Addr
 d_are_hands:FuncData
 are_hands:At K mg "are_hands" zdh zdr a_are_hands d_are_hands
 a_likings_of:Addr
 d_likings_of:FuncData
 likings_of:At K mg "likings_of" zd8 zcy a_likings_of d_likings_of
 a_hands_of:Addr
 d_hands_of:FuncData
 hands_of:At K mg "hands_of" zfJ zdY a_hands_of d_hands_of
 a_tied:Addr
 d_tied:FuncData
 tied:At K mg "tied" zhN zgS a_tied d_tied
 a_is_deed:Addr
 d_is_deed:FuncData
 is_deed:At K mg "is_deed" zgv zdG a_is_deed d_is_deed
 a_houses_named:Addr
 d_houses_named:FuncData
 houses_named:At K mg "houses_named" zc7 zaS a_houses_named d_houses_named
 a_put_for:Addr
 d_put_for:FuncData
 put_for:At K mg "put_for" zgW zfc a_put_for d_put_for
 a_town_behind:Addr
 d_town_behind:FuncData
 town_behind:At K mg "town_behind" zbZ zb6 a_town_behind d_town_behind
 a_marks_behind:Addr
 d_marks_behind:FuncData
 marks_behind:At K mg "marks_behind" zbp zbt a_marks_behind d_marks_behind
 a_handed:Addr
 d_handed:FuncData
 handed:At K mg "handed" ziG zgq a_handed d_handed
 a_worth:Addr
 d_worth:FuncData
 worth:At K mg "worth" zkh zgf a_worth d_worth
 a_liking_key:Addr
 d_liking_key:FuncData
 liking_key:At K mg "liking_key" zeg zcM a_liking_key d_liking_key
 a_most_liked:Addr
 d_most_liked:FuncData
 most_liked:At K mg "most_liked" zcL zcN a_most_liked d_most_liked
 a_House___init__:Addr
 d_House___init__:FuncData
 House___init__:MAt K c_House "__init__" "House.__init__" zbR zaU a_House___init__ d_House___init__
 a_House_way:Addr
 d_House_way:FuncData
 House_way:MAt K c_House "way" "House.way" zeU zdw a_House_way d_House_way
 a_House_heard:Addr
 d_House_heard:FuncData
 House_heard:MAt K c_House "heard" "House.heard" zdD za5 a_House_heard d_House_heard
 a_House_begin:Addr
 d_House_begin:FuncData
 House_begin:MAt K c_House "begin" "House.begin" zdC zb4 a_House_begin d_House_begin
 a_House_hear:Addr
 d_House_hear:FuncData
 House_hear:MAt K c_House "hear" "House.hear" zem zcK a_House_hear d_House_hear
 a_House_choose:Addr
 d_House_choose:FuncData
 House_choose:MAt K c_House "choose" "House.choose" zc8 zaQ a_House_choose d_House_choose
 a_House_open_ways:Addr
 d_House_open_ways:FuncData
 House_open_ways:MAt K c_House "open_ways" "House.open_ways" zbE zaN a_House_open_ways d_House_open_ways
 a_House_go_by:Addr
 d_House_go_by:FuncData
 House_go_by:MAt K c_House "go_by" "House.go_by" zdA za2 a_House_go_by d_House_go_by
 a_House_offer:Addr
 d_House_offer:FuncData
 House_offer:MAt K c_House "offer" "House.offer" zdE zb0 a_House_offer d_House_offer
 a_House_letters:Addr
 d_House_letters:FuncData
 House_letters:MAt K c_House "letters" "House.letters" zcm zaI a_House_letters d_House_letters
 a_House_move_to:Addr
 d_House_move_to:FuncData
 House_move_to:MAt K c_House "move_to" "House.move_to" zcu za9 a_House_move_to d_House_move_to
 a_House_forget:Addr
 d_House_forget:FuncData
 House_forget:MAt K c_House "forget" "House.forget" zeA zh4 a_House_forget d_House_forget
 a_at_place:Addr
 d_at_place:FuncData
 at_place:At K mg "at_place" zfM zek a_at_place d_at_place
 a_Run___init__:Addr
 d_Run___init__:FuncData
 Run___init__:MAt K c_Run "__init__" "Run.__init__" zbq zbD a_Run___init__ d_Run___init__
 a_Run_road:Addr
 d_Run_road:FuncData
 Run_road:MAt K c_Run "road" "Run.road" zfB zdc a_Run_road d_Run_road
 a_Run_choice:Addr
 d_Run_choice:FuncData
 Run_choice:MAt K c_Run "choice" "Run.choice" zcw zcE a_Run_choice d_Run_choice
 a_Run_changes:Addr
 d_Run_changes:FuncData
 Run_changes:MAt K c_Run "changes" "Run.changes" zb5 zb3 a_Run_changes d_Run_changes
 a_Run_town:Addr
 d_Run_town:FuncData
 Run_town:MAt K c_Run "town" "Run.town" zfI zcY a_Run_town d_Run_town
 a_Run_was_heard:Addr
 d_Run_was_heard:FuncData
 Run_was_heard:MAt K c_Run "was_heard" "Run.was_heard" zcr za7 a_Run_was_heard d_Run_was_heard
 a_Run_come:Addr
 d_Run_come:FuncData
 Run_come:MAt K c_Run "come" "Run.come" zfE zd4 a_Run_come d_Run_come
 a_Run_is_still:Addr
 d_Run_is_still:FuncData
 Run_is_still:MAt K c_Run "is_still" "Run.is_still" zbz zbu a_Run_is_still d_Run_is_still
 a_Run_change:Addr
 d_Run_change:FuncData
 Run_change:MAt K c_Run "change" "Run.change" zd2 zaX a_Run_change d_Run_change
 a_Run_part:Addr
 d_Run_part:FuncData
 Run_part:MAt K c_Run "part" "Run.part" ziY znW a_Run_part d_Run_part
 a__law_hand:Addr
 d__law_hand:FuncData
 _law_hand:At K mg "_law_hand" zeQ zdl a__law_hand d__law_hand
 a__law_all:Addr
 d__law_all:FuncData
 _law_all:At K mg "_law_all" zfz zec a__law_all d__law_all
 a__law_take:Addr
 d__law_take:FuncData
 _law_take:At K mg "_law_take" zew z9 a__law_take d__law_take
 a__law_pick:Addr
 d__law_pick:FuncData
 _law_pick:At K mg "_law_pick" zeR zU a__law_pick d__law_pick
 a__law_names:Addr
 d__law_names:FuncData
 _law_names:At K mg "_law_names" zcP zcH a__law_names d__law_names
 a__law_cond:Addr
 d__law_cond:FuncData
 _law_cond:At K mg "_law_cond" zeY zdv a__law_cond d__law_cond
 a__law_conds:Addr
 d__law_conds:FuncData
 _law_conds:At K mg "_law_conds" zcF zbs a__law_conds d__law_conds
 a__law_likings:Addr
 d__law_likings:FuncData
 _law_likings:At K mg "_law_likings" zc2 zbG a__law_likings d__law_likings
 a__law_hands:Addr
 d__law_hands:FuncData
 _law_hands:At K mg "_law_hands" zee zcD a__law_hands d__law_hands
 a__law_ties:Addr
 d__law_ties:FuncData
 _law_ties:At K mg "_law_ties" zeM zdt a__law_ties d__law_ties
 a__law_town:Addr
 d__law_town:FuncData
 _law_town:At K mg "_law_town" zca zdq a__law_town d__law_town
 a__law_odd:Addr
 d__law_odd:FuncData
 _law_odd:At K mg "_law_odd" zfS zeb a__law_odd d__law_odd
 a__law_refused:Addr
 d__law_refused:FuncData
 _law_refused:At K mg "_law_refused" zdb zbF a__law_refused d__law_refused
 a__law_told:Addr
 d__law_told:FuncData
 _law_told:At K mg "_law_told" zeF zdp a__law_told d__law_told
 a_law:Addr
 d_law:FuncData
 law:At K mg "law" zoP zrb a_law d_law
 mk_House:Mk K c_House a_House___init__
 mk_Run:Mk K c_Run a_Run___init__
 X_NoDeed:Addr
 m_NoDeed:mg "NoDeed"=some (.ref X_NoDeed)
 X_RestError:Addr
 m_RestError:mg "RestError"=some (.ref X_RestError)
 X_Forged:Addr
 m_Forged:mg "Forged"=some (.ref X_Forged)
 X_HasRing:Addr
 m_HasRing:mg "HasRing"=some (.ref X_HasRing)
 X_Needed:Addr
 m_Needed:mg "Needed"=some (.ref X_Needed)
 X_NoLetter:Addr
 m_NoLetter:mg "NoLetter"=some (.ref X_NoLetter)
 X_NoRow:Addr
 m_NoRow:mg "NoRow"=some (.ref X_NoRow)
 X_NoText:Addr
 m_NoText:mg "NoText"=some (.ref X_NoText)
 X_TooMany:Addr
 m_TooMany:mg "TooMany"=some (.ref X_TooMany)
 e_NoDeed:W.excIn K X_NoDeed [.type "ValueError", .type "Exception", .type "BaseException", .type "object"] "ValueError.__new__"=true
 e_RestError:W.excIn K X_RestError [.type "ValueError", .type "Exception", .type "BaseException", .type "object"] "ValueError.__new__"=true
 i_NoDeed:ExCls K X_NoDeed
 u_NoDeed_RestError:zoL K X_NoDeed X_RestError
 j_NoDeed:W.kitAny K (.ref X_NoDeed) [.ref X_Forged, .ref X_HasRing, .ref X_Needed, .ref X_NoLetter, .ref X_NoRow, .ref X_NoText, .ref X_TooMany]=some false
 k_NoDeed_ValueError:W.kitOne K (.ref X_NoDeed) (.type "ValueError")=some true
 a_NOTHING:Addr
 e_NOTHING:Addr
 m_NOTHING:mg "NOTHING"=some (.ref a_NOTHING)
 t_NOTHING:∀H,SqT K H a_NOTHING [.int 0, .non, .ref e_NOTHING]
 u_NOTHING:∀H,SqT K H e_NOTHING []
 v_LONGEST:Value
 m_LONGEST:mg "LONGEST"=some v_LONGEST
 r_LONGEST:RelV (.int 8) v_LONGEST
 v_MOST_CONDS:Value
 m_MOST_CONDS:mg "MOST_CONDS"=some v_MOST_CONDS
 r_MOST_CONDS:RelV (.int 4) v_MOST_CONDS
 v_LONGEST_ASKED:Value
 m_LONGEST_ASKED:mg "LONGEST_ASKED"=some v_LONGEST_ASKED
 r_LONGEST_ASKED:RelV (.int 99) v_LONGEST_ASKED
 v_GREATEST_WORTH:Value
 m_GREATEST_WORTH:mg "GREATEST_WORTH"=some v_GREATEST_WORTH
 r_GREATEST_WORTH:RelV (.int 999) v_GREATEST_WORTH
 v_MOST_RULES:Value
 m_MOST_RULES:mg "MOST_RULES"=some v_MOST_RULES
 r_MOST_RULES:RelV (.int 90) v_MOST_RULES
 a_TAKEN:Addr
 m_TAKEN:mg "TAKEN"=some (.ref a_TAKEN)
 t_TAKEN:∀H,SqT K H a_TAKEN [.str "if", .str "and", .str "not", .str "never"]
 a_NAMING:Addr
 m_NAMING:mg "NAMING"=some (.ref a_NAMING)
 t_NAMING:∀H,SqT K H a_NAMING [.str "by", .str "from", .str "to", .str "mark"]
 ValueError:mg "ValueError"=none
 all:mg "all"=none
 any:mg "any"=none
 bool:mg "bool"=none
 dict:mg "dict"=none
 int:mg "int"=none
 isinstance:mg "isinstance"=none
 len:mg "len"=none
 list:mg "list"=none
 max:mg "max"=none
 min:mg "min"=none
 range:mg "range"=none
 sorted:mg "sorted"=none
 str:mg "str"=none
 tuple:mg "tuple"=none
section
noncomputable def zdB:Sp:=λvs H Q _=>∃(a:Addr) (k n:Int),vs=[.ref a, .int k]/\Hand H a n/\n<2^40/\0<k/\k<1073741824/\∀d H',0<=d->d<k->Hand H' a (n+1)->Keep a H H'->Q (.int d) H'
theorem zcO(Y:Ev K mg):FnOk P w K mg base CX0 1 Y.a__law_take Y.d__law_take z9 zdB:=by
 refine Y._law_take.fn.okQ zbj (λvs H Q E h=>?_) `W3
 ·obtain ⟨a,k,n,rfl,_⟩:=h
  rfl
 ·obtain ⟨a,k,n,rfl,⟨x,m,t,hH,m0,m1,t0,t1⟩,hn,k0,k1,q⟩:=h
  refine⟨_,(zf (zae (zK zmn (zM zaq (qv 0) zg) zg) (zf (zx 2 zbj.nd (zF zcs (zM zaq (qv 0) zg) (qv 1)))
   (zf (zcg (zF zk7 (zM zaq (qv 0) zg) (qv 1)) (zmc (qv 0) zg ze3))
   (zi (zr (qv 2))))) zO)
   (zf (zcg (zF zap (zM zaq (qv 0) zg) zg) (zmc (qv 0) zg ze3))
   (zf (zx 3 zbj.nd (zM zaq (qv 0) zg))
   (zf (zx 4 zbj.nd (zF zcs (zF zbl (zM zaq (qv 0) zg) (zF zap (zF zap zg (zF zbl (zF zbl zg (qv 3)) (qv 3))) (zF zbl zg (qv 3)))) zg))
   (zf (zx 5 zbj.nd (zF zap (zF zap (zF zcs (qv 4) zg) (zF zbl (qv 3) zg)) zg))
   (zf (zx 4 zbj.nd (zF zcs (zF zbl (qv 4) (qv 5)) zg))
   (zi (zr (zF zcs (zF zap (zF zk7 (qv 4) zg) (zF zk7 (qv 4) zg)) (qv 1)))))))))),?_⟩
  repeat (first|with_reducible_and_instances refine⟨_,rfl,?_⟩|refine⟨_,rfl,?_⟩|refine⟨_,_,rfl,rfl,?_⟩|refine⟨_,_,_,_,rfl,rfl,SqL.of (by assumption),rfl,?_⟩|refine⟨_,_,_,_,rfl,rfl,(by assumption),rfl,?_⟩|refine .inl ⟨_,rfl,?_⟩|refine .inr ⟨_,rfl,?_⟩|refine⟨(by first|assumption|decide|lia|exact few rfl|exact .inl ⟨⋯,⋯⟩|exact .inr ⟨⋯,⋯⟩|exact .inl ⟨(),()⟩|exact .inr ⟨(),()⟩|exact⟨(),()⟩),?_⟩)
  refine zat (λhx=>?_) (λhx=>?_)
  ·repeat (first|with_reducible_and_instances refine⟨_,rfl,?_⟩|refine⟨_,rfl,?_⟩|refine⟨_,_,rfl,rfl,?_⟩|refine⟨_,_,_,_,rfl,rfl,SqL.of (by assumption),rfl,?_⟩|refine⟨_,_,_,_,rfl,rfl,(by assumption),rfl,?_⟩|refine .inl ⟨_,rfl,?_⟩|refine .inr ⟨_,rfl,?_⟩|refine⟨(by first|assumption|decide|lia|exact few rfl|exact .inl ⟨⋯,⋯⟩|exact .inr ⟨⋯,⋯⟩|exact .inl ⟨(),()⟩|exact .inr ⟨(),()⟩|exact⟨(),()⟩),?_⟩)
   exact q _ _ (Int.emod_nonneg _ ()) (Int.emod_lt_of_pos _ k0) ⟨_,m,t,zc,m0,m1,t0,()⟩ (Keep.upd _ _ _)
  ·refine ⟨_,rfl,a,_,_,_,rfl,rfl,SqL.of hH,rfl,_,_,rfl,rfl,_,rfl,a,_,_,_,rfl,rfl,hH,rfl,?_⟩
   have h2:upd H a (.lst [.int x, .int m, .int (t+1)]) a=some (.lst [.int x, .int m, .int (t+1)]):=zc
   repeat (first|with_reducible_and_instances refine⟨_,rfl,?_⟩|refine⟨_,rfl,?_⟩|refine⟨_,_,rfl,rfl,?_⟩|refine⟨_,_,_,_,rfl,rfl,SqL.of (by assumption),rfl,?_⟩|refine⟨_,_,_,_,rfl,rfl,(by assumption),rfl,?_⟩|refine .inl ⟨_,rfl,?_⟩|refine .inr ⟨_,rfl,?_⟩|refine⟨(by first|assumption|decide|lia|exact few rfl|exact .inl ⟨⋯,⋯⟩|exact .inr ⟨⋯,⋯⟩|exact .inl ⟨(),()⟩|exact .inr ⟨(),()⟩|exact⟨(),()⟩),?_⟩)
   exact q _ _ (Int.emod_nonneg _ ()) (Int.emod_lt_of_pos _ k0) ⟨_,m,_,zc,m0,m1,(),()⟩ (Keep.upd _ _ _)
noncomputable def zbn(K:W.Frag):Sp:=λvs H Q _=>∃(a:Addr) (n:Int),Hand H a n/\n<2^40/\
 ((∃(b:Addr) (xs:List V),vs=[.ref a, .ref b]/\b≠a/\SqL K H b xs/\0<xs.length/\xs.length<1000/\∀v H',v∈xs->Hand H' a (n+1)->Keep a H H'->Q v H')\/
  (∃z:Str,vs=[.ref a, .str z]/\0<z.length/\z.length<1000/\∀c H',c∈z.cps.toList->Hand H' a (n+1)->Keep a H H'->Q (.str (one c)) H'))
theorem zcA(Y:Ev K mg):FnOk P w K mg base CX0 2 Y.a__law_pick Y.d__law_pick zU (zbn K):=by
 have G__law_take:FnOk P w K mg base CX0 1 Y.a__law_take Y.d__law_take z9 zdB:=zcO Y
 refine Y._law_pick.fn.okQ zhh (λvs H Q E h=>?_) `W3
 ·obtain ⟨a,n,_,_,⟨b,xs,rfl,_⟩|⟨z,rfl,_⟩⟩:=h<;>rfl
 ·obtain ⟨a,n,hH,hn,h⟩:=h
  have hl:∀m:Nat,m<1000->m<=sizeLine:=λm h=>P2 (zp (P2 h))
  rcases h with⟨b,xs,rfl,hb,hS,x0,x1,q⟩|⟨z,rfl,z0,z1,q⟩
  ·refine ⟨_,(zi (zr (zM zn1 (qv 1) (zh G__law_take `U3 Y._law_take.mg Y._law_take.kp Y._law_take.b .nil zk (za (qv 0) (za (zv z8 Y.len za0 (za (qv 1) zb)) zb)))))),?_⟩
   refine⟨_,rfl,_,rfl,_,rfl, .inl ⟨b,xs,rfl, .inl hS,a,_,n,rfl,hH,hn,(),(),λd H' h0 h1 hH' kp=>?_⟩⟩
   obtain⟨v,e,hv⟩:=zga h0 h1
   exact .inl ⟨b,xs,d,v,rfl,rfl,kp.sqL hb hS,e,q v H' hv hH' kp⟩
  ·refine ⟨_,(zi (zr (zM zn1 (qv 1) (zh G__law_take `U3 Y._law_take.mg Y._law_take.kp Y._law_take.b .nil zk (za (qv 0) (za (zv z8 Y.len za0 (za (qv 1) zb)) zb)))))),?_⟩
   refine⟨_,rfl,_,rfl,_,rfl, .inr ⟨z,rfl,hl _ z1,a,_,n,rfl,hH,hn,(),(),λd H' h0 h1 hH' kp=>?_⟩⟩
   obtain⟨c,e,hc⟩:=zga (xs:=z.cps.toList) h0 (by simpa[Str.length] using h1)
   exact .inr (.inr ⟨z,d,c,rfl,rfl,hl _ z1,e,q c H' hc hH' kp⟩)
noncomputable def zqn(K:W.Frag):Sp:=λvs H Q _=>∃(b:Addr) (ns:List Int) (k:Int),vs=[.ref b, .int k]/\SqL K H b (ns.map V.int)/\0<=k/\k<1000/\∀a H',H a=none->Hand H' a 0->Same H H'->Q (.ref a) H'
theorem zud(Y:Ev K mg):FnOk P w K mg base CX0 1 Y.a__law_hand Y.d__law_hand zdl (zqn K):=by
 refine Y._law_hand.fn.okQ zeK (λvs H Q E h=>?_) `W3
 ·obtain ⟨a,k,n,rfl,_⟩:=h
  rfl
 ·obtain ⟨b,ns,k,rfl,hS,k0,k1,q⟩:=h
  refine⟨_,(zf (zx 2 zeK.nd zg)
   (zf (zae (zK zwm (qv 1) (zv z8 Y.len za0 (za (qv 0) zb))) (zi (zx 2 zeK.nd (zM zaq (qv 0) (qv 1)))) zO)
   (zi (zr (zaR (za (zF zbl (qv 2) (zaj ze9 Y.int zgG (za (zaY zuy (qv 2) (zF zii zg zg)) zb))) (za (zF zap (zF zap (zF zcs (qv 2) zg) (zF zbl zg (qv 1))) zg) (za zg zb)))))))),?_⟩
  refine⟨_,rfl,_,rfl, .inl ⟨b,_,rfl, .inl hS,_,_,rfl,rfl,_,rfl,?_⟩⟩
  refine zat (λhx=>?_) (λhx=>?_)
  ·have hx':k<((ns.map V.int).length:Int):=O0 hx
   obtain⟨v,e,hv⟩:=zga k0 hx'
   obtain⟨c,_,rfl⟩:=X1.mp hv
   refine⟨_,rfl,_,rfl,b,_,k,_,rfl,rfl,hS,e,?_⟩
   repeat (first|with_reducible_and_instances refine⟨_,rfl,?_⟩|refine⟨_,rfl,?_⟩|refine⟨_,_,rfl,rfl,?_⟩|refine⟨_,_,_,_,rfl,rfl,SqL.of (by assumption),rfl,?_⟩|refine⟨_,_,_,_,rfl,rfl,(by assumption),rfl,?_⟩|refine .inl ⟨_,rfl,?_⟩|refine .inr ⟨_,rfl,?_⟩|refine⟨(by first|assumption|decide|lia|exact few rfl|exact .inl ⟨⋯,⋯⟩|exact .inr ⟨⋯,⋯⟩|exact .inl ⟨(),()⟩|exact .inr ⟨(),()⟩|exact⟨(),()⟩),?_⟩)
   intro p hp
   exact q p _ hp ⟨_,_,_,zc,(),(),⋯,⋯⟩ (λb' o hb'=>by rw[ze (zj hb' hp)];exact hb')
  ·repeat (first|with_reducible_and_instances refine⟨_,rfl,?_⟩|refine⟨_,rfl,?_⟩|refine⟨_,_,rfl,rfl,?_⟩|refine⟨_,_,_,_,rfl,rfl,SqL.of (by assumption),rfl,?_⟩|refine⟨_,_,_,_,rfl,rfl,(by assumption),rfl,?_⟩|refine .inl ⟨_,rfl,?_⟩|refine .inr ⟨_,rfl,?_⟩|refine⟨(by first|assumption|decide|lia|exact few rfl|exact .inl ⟨⋯,⋯⟩|exact .inr ⟨⋯,⋯⟩|exact .inl ⟨(),()⟩|exact .inr ⟨(),()⟩|exact⟨(),()⟩),?_⟩)
   intro p hp
   exact q p _ hp ⟨_,_,_,zc,(),(),⋯,⋯⟩ (λb' o hb'=>by rw[ze (zj hb' hp)];exact hb')
theorem zri:∀x∈zfn,x≠"nobody":=`Y3
theorem zsm(f st sp j k:Nat):zby f st sp j k≠"nobody":=by
 unfold zby
 split
 ·exact zri _ (znX sp k)
 ·intro z
  have e:zoa "nobody"=false:=`Y3
  rw[←z] at e
  unfold nmS at e
  rw[zlq] at e
  cases e
noncomputable def zlV:Sp:=λvs H Q _=>∃(a:Addr) (n:Int) (m:Nat),vs=[.ref a, .int m]/\Hand H a n/\n<2^39/\4<=m/\m<=13/\∀(l:Addr) (xs:List Str) (H':Hp),H l=none->H' l=some (.lst (xs.map V.str))->xs.length=m->(∀x∈xs,zm x=true)->xs.Nodup->(∀x∈xs,x≠"nobody")->Hand H' a (n+4)->Keep a H H'->Q (.ref l) H'
theorem zpD(Y:Ev K mg):FnOk P w K mg base CX0 3 Y.a__law_names Y.d__law_names zcH zlV:=by
 have G__law_take:FnOk P w K mg base CX0 1 Y.a__law_take Y.d__law_take z9 zdB:=zcO Y
 have G__law_pick:FnOk P w K mg base CX0 2 Y.a__law_pick Y.d__law_pick zU (zbn K):=zcA Y
 refine Y._law_names.fn.okQ zau (λvs H Q E h=>?_) `W3
 ·obtain ⟨a,n,m,rfl,_⟩:=h;rfl
 ·obtain ⟨a,n,m,rfl,hH,hn,m4,m13,q⟩:=h
  refine⟨_,(zf (zh8 2 zau.nd zu)
   (zf (zh8 3 zau.nd (zh G__law_take `U3 Y._law_take.mg Y._law_take.kp Y._law_take.b .nil zk (za (qv 0) (za zg zb))))
   (zf (zh8 4 zau.nd (zh G__law_pick `U3 Y._law_pick.mg Y._law_pick.kp Y._law_pick.b .nil zk (za (qv 0) (za (zix [V.int 1,V.int 3,V.int 5,V.int 7,V.int 9,V.int 11] `Y3) zb))))
   (zf (zgI 5 (src:=[none,some 3,some 2,some 4]) zey rfl rfl zau.nd (zfw Y.range (za (qv 1) zb)) (λ_ _ _ _ _=>(zo 0 zey.nd)) (λ_ _ _ _ _=>zdj) (λ_ _ _ _ _=>(zF zmg (zM zrM (qc 2) (zF zcs (zF zap (qc 1) (zF zbl (qc 3) (qv 0))) zg)) (zF zap zg (zF zcs (zF zap (zF zbl (qv 0) (qv 0)) (qc 1)) zg)))))
   (zhS (zae (zK zac (zh G__law_take `U3 Y._law_take.mg Y._law_take.kp Y._law_take.b .nil zk (za (qv 0) (za zg zb))) zg) (zf (zx 6 zau.nd (zix [V.str "goal",V.str "to",V.str "by",V.str "houses",V.str "tie",V.str "like",V.str "hand",V.str "keep",V.str "put",V.str "mark",V.str "long",V.str "from",V.str "strike"] `Y3))
   (zf (zx 7 zau.nd (zh G__law_take `U3 Y._law_take.mg Y._law_take.kp Y._law_take.b .nil zk (za (qv 0) (za zg zb))))
   (zi (zcZ O3 rfl (zfw Y.range (za (zv (zgR rfl) Y.min zgz (za (qv 1) (za zg zb))) zb)) (zo 8 zau.nd) (zi (zcg (zM zaq (qv 6) (zF zcs (zF zap (qv 7) (zF zbl zg (qv 8))) zg)) (zmc (qv 5) (qv 8) ze3))))))) zO)
   (zi (zr (qv 5)))))))),?_⟩
  refine⟨_,rfl,a,26,n,rfl,hH,(),⋯,⋯,λf' H1 f0 f26 hH1 k1=>?_⟩
  obtain⟨f,rfl⟩:∃f:Nat,f'=(f:Int):=⟨f'.toNat,()⟩
  refine⟨_,rfl,⋯,λpl hpl=>⟨a,n+1,hH1.new hpl,(), .inl ⟨pl,_,rfl,hH1.ne hpl,SqL.of zc,⋯,⋯,λv H2 hv hH2 k2=>?_⟩⟩⟩
  obtain⟨st,rfl,st0,st11⟩:∃st:Nat,v= .int (st:Int)/\st∈zsu/\st<=11:=by
   simp only[D1,O2,or_false] at hv
   rcases hv with rfl|rfl|rfl|rfl|rfl|rfl
   ·exact ⟨1,rfl,⋯,⋯⟩
   ·exact ⟨3,rfl,⋯,⋯⟩
   ·exact ⟨5,rfl,⋯,⋯⟩
   ·exact ⟨7,rfl,⋯,⋯⟩
   ·exact ⟨9,rfl,⋯,⋯⟩
   ·exact ⟨11,rfl,⋯,⋯⟩
  have kp2:Keep a H H2:=k1.trans ((Keep.new hpl).trans k2)
  refine⟨_,rfl,m,rfl,(),(),?_⟩
  refine zcx zdZ (λl i ys σ' H'=>(∃o,σ'=[o,some (.int (f:Int)),some (.str zch),some (.int (st:Int))])/\ys=((List.range i).map (nmS f st)).map V.str/\Hand H' a (n+1+1)/\Keep a H2 H') ?_ (λ_ _ _ _ _ _ _=>trivial) ?_ ?_
  ·exact λl hl=>⟨⟨_,rfl⟩,rfl,hH2.new hl,Keep.new hl⟩
  ·rintro l i y ys σ' H' hl hi rfl ⟨⟨o,rfl⟩,rfl,hH',k'⟩ hl'
   have hi13:i<13:=by have:i<m:=()
                      lia
   have hr26:(f+st*i)%26<26:=Nat.mod_lt _ ⋯
   have ei:((f:Int)+(st:Int)*(0+(i:Int)))%26=(((f+st*i)%26:Nat):Int):=by rw[Int.zero_add];push_cast;rfl
   have ec:atI zch.cps.toList (((f:Int)+(st:Int)*(0+(i:Int)))%26)=some (97+(f+st*i)%26):=by
    rw[ei];exact zZ (zin _ (List.mem_range.mpr hr26))
   have en:(1+((0+(i:Int))*(0+(i:Int))+(f:Int))%8)=((1+(i*i+f)%8:Nat):Int):=by rw[Int.zero_add];push_cast;rfl
   have g8:(i*i+f)%8<8:=Nat.mod_lt _ ⋯
   refine⟨_,rfl,_,rfl,_,rfl,_,rfl,_,_,rfl,rfl, .inl ⟨(),()⟩,_,_,rfl,rfl,_,_,rfl,rfl,(by decide:(0:Int)<26),zch,_,_,rfl,rfl,by rw[zlr];decide,ec,_,rfl,_,rfl,_,_,rfl,rfl, .inl ⟨(),()⟩,_,rfl,_,_,rfl,rfl,_,_,rfl,rfl,(by decide:(0:Int)<8),_,_,rfl,rfl,one (97+(f+st*i)%26),_,rfl,rfl,by rw[en];lia,by rw[en];lia,by rw[zot];decide,by rw[zot];decide,?_⟩
   have nl:=hH2.ne hl
   refine⟨hl',?_,⟨_,rfl⟩,?_,hH'.updNe nl,k'.updNew hl⟩
   ·rw[D0,D0,List.length_range];exact zp ()
   ·rw[en,Int.toNat_natCast,List.range_succ,List.map_append,List.map_append];rfl
  ·rintro l ys σ' H3 hl ⟨⟨o,rfl⟩,rfl,hH3,k3⟩ hl'
   have nl:=hH2.ne hl
   rw[Int.toNat_natCast] at hl'
   have e0:(List.range m).map (nmS f st)=(List.range m).map (zby f st 0 0):=by
    apply List.map_congr_left
    intro k _
    unfold zby
    rw[N0 ()]
   have hln:H l=none:=by
    cases e:H l with
    |none=>rfl
    |some o=>exact absurd (kp2 l o nl e) (by rw[hl];exact λz=>nomatch z)
   refine⟨λσ' H'=>(∃o6 o7 o8,σ'=[some (.ref a),some (.int m),some (.str zch),some (.int (f:Int)),some (.int (st:Int)),some (.ref l),o6,o7,o8])/\(∃sp j:Nat,H' l=some (.lst (((List.range m).map (zby f st sp j)).map V.str))/\sp<13/\j<=4)/\Hand H' a (n+4)/\Keep a H H',?_,?_⟩
   ·refine ⟨_,rfl,a,6,n+1+1,rfl,hH3,(),⋯,⋯,λd H4 d0 d6 hH4 k4=>⟨rfl,_,rfl,zat (λ_=>?_) (λ_=>?_)⟩⟩
    ·have hl4:=k4 _ _ nl hl'
     have kp4:Keep a H H4:=(kp2.trans k3).trans k4
     refine⟨⋯,λpk hpk=>?_⟩
     have npl:pk≠l:=λz=>by rw[z,hl4] at hpk;cases hpk
     have npa:=hH4.ne hpk
     refine⟨_,rfl,a,13,n+1+1+1,rfl,hH4.new hpk,(),⋯,⋯,λsp' H5 sp0 sp13 hH5 k5=>?_⟩
     obtain⟨sp,rfl⟩:∃f:Nat,sp'=(f:Int):=⟨sp'.toNat,()⟩
     refine⟨_,rfl,_,_,rfl,_,rfl,?_,?_,?_⟩
     ·split<;>lia
     ·split<;>lia
     have e4:(if(4:Int)<(m:Int)then(4:Int)else(m:Int)).toNat=4:=by split<;>lia
     rw[e4]
     refine zbe zdZ (λi σ' H'=>(∃o8,σ'=[some (.ref a),some (.int m),some (.str zch),some (.int (f:Int)),some (.int (st:Int)),some (.ref l),some (.ref pk),some (.int (sp:Int)),o8])/\H' l=some (.lst (((List.range m).map (zby f st sp i)).map V.str))/\Hand H' a (n+4)/\Keep a H H'/\H' pk=some (.lst (zfn.map V.str))) ?_ (λ_ _ _ _=>trivial) ?_ ?_
     ·refine ⟨⟨_,rfl⟩,?_,hH5.mono (),kp4.trans ((Keep.new hpk).trans k5),k5 _ _ npa zc⟩
      have e0':(List.range m).map (nmS f st)=(List.range m).map (zby f st sp 0):=by
       apply List.map_congr_left
       intro k _
       unfold zby
       rw[N0 ()]
      rw[←e0']
      exact k5 _ _ nl (by rw[ze (Ne.symm npl)];exact hl4)
     ·rintro i y σ' H6 hi4 rfl ⟨⟨o8,rfl⟩,hz,hH6,k6,hp6⟩
      have ek:((sp:Int)+3*(0+(i:Int)))%13=(((sp+3*i)%13:Nat):Int):=by rw[Int.zero_add];push_cast;rfl
      have ev:atI (zfn.map V.str) (((sp:Int)+3*(0+(i:Int)))%13)=some (.str (kwS sp i)):=by
       rw[ek];exact zZ (by rw[V0,ztL];rfl)
      have hix:ixN (((List.range m).map (zby f st sp i)).map V.str).length (0+(i:Int))=some i:=by
       unfold ixN
       rw[R0 (),R0 (by rw[D0,D0,List.length_range];lia)]
       congr 1
       lia
      refine⟨_,rfl,_,rfl,_,rfl,_,_,rfl,rfl, .inl ⟨⋯,⋯⟩,_,_,rfl,rfl,_,_,rfl,rfl,(by decide:(0:Int)<13),pk,_,_,_,rfl,rfl,SqL.of hp6,ev,_,rfl,_,rfl,l,_,_,i,rfl,rfl,hz,hix,?_⟩
      refine⟨⟨_,rfl⟩,?_,hH6.updNe nl,k6.updNew hln,by rw[ze npl];exact hp6⟩
      rw[zc,←List.map_set,zrK ()]
     ·rintro σ' H6 ⟨⟨o8,rfl⟩,hz,hH6,k6,_⟩
      exact⟨⟨_,_,_,rfl⟩,⟨sp,4,hz,(),⋯⟩,hH6,k6⟩
    ·rw[e0] at hl'
     exact⟨⟨_,_,_,rfl⟩,⟨0,0,k4 _ _ nl hl',⋯,⋯⟩,hH4.mono (),(kp2.trans k3).trans k4⟩
   ·rintro σ' H' ⟨⟨o6,o7,o8,rfl⟩,⟨sp,j,hz,hsp,hj⟩,hH',k'⟩
    refine⟨_,rfl,q l _ H' hln hz (by rw[D0,List.length_range]) (λx hx=>?_) (zl2 () st0 hsp hj m13) (λx hx=>?_) hH' k'⟩
    ·obtain ⟨k,_,rfl⟩:=X1.mp hx
     exact zsZ _ _ _ _ _
    ·obtain ⟨k,_,rfl⟩:=X1.mp hx
     exact zsm _ _ _ _ _
def NL(O:List Str)(H:Hp)(l:Addr):Prop:=∃xs:List Str,H l=some (.lst (xs.map V.str))/\0<xs.length/\xs.length<=100/\∀x∈xs,zm x=true/\x∈O
theorem NL.keep(h:NL O H l)(k:Keep a H H')(n:l≠a):NL O H' l:=let⟨xs,e,r⟩:=h;⟨xs,k _ _ n e,r⟩
theorem NL.same(h:NL O H l)(k:Same H H'):NL O H' l:=let⟨xs,e,r⟩:=h;⟨xs,k _ _ e,r⟩
theorem zdI{n:Int}{Q:VK}(hH:Hand H a n)(hn:n<2^40)(hl:NL O H l)(hla:l≠a)(q:∀x H',(zm x=true/\x∈O)->Hand H' a (n+1)->Keep a H H'->Q (.str x) H'):zbn K [.ref a, .ref l] H Q E0:=by
 obtain⟨xs,e,x0,x1,hx⟩:=hl
 refine⟨a,n,hH,hn, .inl ⟨l,_,rfl,hla,SqL.of e,by rw[D0];exact x0,by rw[D0];lia,λv H' hv hH' k'=>?_⟩⟩
 obtain⟨x,hxx,rfl⟩:=X1.mp hv
 exact q x H' (hx x hxx) hH' k'
theorem zX(h:zm x=true):x.length<=1000:=by
 unfold zm at h
 simp only[X0,decide_eq_true_eq] at h
 lia
theorem zfT(hy:y∈zbA)(hx:zm x=true):zE (.tup [.str y, .str x])=true:=by
 have h1:¬y="long":=by
  intro z
  subst z
  revert hy
  decide +kernel
 have h2:(zbA.any λz=>decide (z=y))=true:=List.any_eq_true.mpr ⟨y,hy,P0 rfl⟩
 rw[zcV,N0 h1,h2,zdS,hx];rfl
theorem zm6(h:zE d=true):zD d=true:=by
 obtain⟨x,e,rfl⟩:=zbb d h
 by_cases hx:x="not"
 ·subst hx;rw[zdR] at h;cases h
 ·rw[zdW,N0 hx];exact h
theorem znU(h:zE d=true)(ha:zeV d=false):zc1 d=false:=by
 obtain⟨x,e,rfl⟩:=zbb d h
 by_cases hx:x="not"
 ·subst hx;rw[zdR] at h;cases h
 ·show (if x="not"then zeV e else decide (x="to"))=false
  rw[N0 hx];exact ha
noncomputable def zrO:Sp:=λvs H Q _=>∃(a h m:Addr) (n:Int) (to:Bool) (O:List Str),vs=[.ref a, .ref h, .ref m, .bl to]/\Hand H a n/\n<2^39/\NL O H h/\NL O H m/\h≠a/\m≠a/\∀v d H',Rep H' v d->(zD d=true/\zbP O d=true)->(to=false->zc1 d=false)->Hand H' a (n+4)->Keep a H H'->Q v H'
theorem zte(Y:Ev K mg):FnOk P w K mg base CX0 3 Y.a__law_cond Y.d__law_cond zdv zrO:=by
 have G__law_take:FnOk P w K mg base CX0 1 Y.a__law_take Y.d__law_take z9 zdB:=zcO Y
 have G__law_pick:FnOk P w K mg base CX0 2 Y.a__law_pick Y.d__law_pick zU (zbn K):=zcA Y
 refine Y._law_cond.fn.okQ zaC (λvs H Q E h=>?_) `W3
 ·obtain ⟨a,h,m,n,to,O,rfl,_⟩:=h;rfl
 ·obtain ⟨a,h,m,n,to,O,rfl,hH,hn,hh,hm,nh,nm,q⟩:=h
  refine⟨_,(zf (zx 4 zaC.nd (zh G__law_take `U3 Y._law_take.mg Y._law_take.kp Y._law_take.b .nil zk (za (qv 0) (za (zF zap zg (zaj ze9 Y.int zgG (za (qv 3) zb))) zb))))
   (zf (zx 5 zaC.nd (zn (za zu (za (zh G__law_pick `U3 Y._law_pick.mg Y._law_pick.kp Y._law_pick.b .nil zk (za (qv 0) (za (qv 1) zb))) zb))))
   (zhS (zae (t_w (zmd (zK zac (qv 4) zg) (zhd (zK zac (qv 4) zg)))) (zi (zx 5 zaC.nd (zn (za zu (za (zh G__law_pick `U3 Y._law_pick.mg Y._law_pick.kp Y._law_pick.b .nil zk (za (qv 0) (za (qv 1) zb))) zb))))) (zi (zae (zK zac (qv 4) zg) (zi (zx 5 zaC.nd (zn (za zu (za (zh G__law_pick `U3 Y._law_pick.mg Y._law_pick.kp Y._law_pick.b .nil zk (za (qv 0) (za (zix [V.int 0,V.int 1,V.int 2,V.int 3,V.int 4,V.int 99] `Y3) zb))) zb))))) (zi (zae (zK zac (qv 4) zg) (zi (zx 5 zaC.nd (zn (za zu (za (zh G__law_pick `U3 Y._law_pick.mg Y._law_pick.kp Y._law_pick.b .nil zk (za (qv 0) (za (qv 2) zb))) zb))))) (zi (zae (zK zac (qv 4) zg) (zi (zx 5 zaC.nd (zn (za zu (za (zh G__law_pick `U3 Y._law_pick.mg Y._law_pick.kp Y._law_pick.b .nil zk (za (qv 0) (za (qv 1) zb))) zb))))) zO)))))))
   (zhS (zae (zK zac (zh G__law_take `U3 Y._law_take.mg Y._law_take.kp Y._law_take.b .nil zk (za (qv 0) (za zg zb))) zg) (zi (zx 5 zaC.nd (zn (za zu (za (qv 5) zb))))) zO)
   (zi (zr (qv 5))))))),?_⟩
  refine⟨_,rfl,_,rfl, .inr ⟨to,rfl,_,_,rfl,rfl,a,_,n,rfl,hH,(),by split<;>lia,by split<;>lia,λt H1 t0 t5 hH1 k1=>?_⟩⟩
  refine⟨_,rfl,_,rfl,zdI hH1 () (hh.keep k1 nh) nh λx H2 hx hH2 k2=>⟨few rfl,λp2 hp2=>?_⟩⟩
  have mk2:∀{H0:Hp} {p:Addr} {y x:Str},y.length<=1000->(zm x=true/\x∈O)->Rep (upd H0 p (.tup [.str y, .str x])) (.ref p) (.tup [.str y, .str x]):=λhy hx=> .mk2 zc (.str _ hy) (.str _ (zX hx.1))
  have hh2:NL O (upd H2 p2 (.tup [.str "by", .str x])) h:=((hh.keep k1 nh).keep k2 nh).same (Same.new hp2)
  have hm2:NL O (upd H2 p2 (.tup [.str "by", .str x])) m:=((hm.keep k1 nm).keep k2 nm).same (Same.new hp2)
  have hH2':=hH2.new (o:= .tup [.str "by", .str x]) hp2
  have kp2:Keep a H (upd H2 p2 (.tup [.str "by", .str x])):=(k1.trans k2).trans (Keep.new hp2)
  refine⟨λσ' H'=>∃v d,σ'=[some (.ref a),some (.ref h),some (.ref m),some (.bl to),some (.int t),some v]/\Rep H' v d/\(zE d=true/\zaf O d=true)/\(to=false->zeV d=false)/\Hand H' a (n+3)/\Keep a H H',?_,?_⟩
  ·have ap:∀{y x:Str},¬y="to"->zeV (.tup [.str y, .str x])=false:=λh=>U0 h
   have br:∀{y:Str},y.length<=1000->y∈zbA->¬y="to"->∀(l:Addr),l≠a->NL O (upd H2 p2 (.tup [.str "by", .str x])) l->∀R:V->Hp->Prop,(∀v d H',Rep H' v d->(zE d=true/\zaf O d=true)->(to=false->zeV d=false)->Hand H' a (n+3)->Keep a H H'->R v H')->
    zbn K [.ref a, .ref l] (upd H2 p2 (.tup [.str "by", .str x])) (λv H3=> [V.str y,v].length<=sizeLine/\∀p,H3 p=none->R (.ref p) (upd H3 p (.tup [V.str y,v]))) E0:=by
    intro y hy hyn hyt l nl hl R hR
    refine zdI hH2' () hl nl λx3 H3 hx3 hH3 k3=>⟨few rfl,λp3 hp3=>?_⟩
    exact hR _ _ _ (mk2 hy hx3) ⟨zfT hyn hx3.1,zci hx3.2⟩ (λ_=>ap hyt) ((hH3.new hp3).mono ()) ((kp2.trans k3).trans (Keep.new hp3))
   have fin:∀v d H',Rep H' v d->(zE d=true/\zaf O d=true)->(to=false->zeV d=false)->Hand H' a (n+3)->Keep a H H'->(λ(v:V) (H':Hp)=>∃v0 d,[some (V.ref a),some (.ref h),some (.ref m),some (.bl to),some (.int t),some v]=[some (.ref a),some (.ref h),some (.ref m),some (.bl to),some (.int t),some v0]/\Rep H' v0 d/\(zE d=true/\zaf O d=true)/\(to=false->zeV d=false)/\Hand H' a (n+3)/\Keep a H H') v H':=
    λv d H' h1 h2 h3 h4 h5=>⟨v,d,rfl,h1,h2,h3,h4,h5⟩
   refine⟨_,rfl,rfl,_,rfl,zat (λ_=>?_) (λ_=>⟨_,rfl,rfl,_,rfl,zat (λ_=>?_) (λ_=>?_)⟩)⟩
   ·exact ⟨_,rfl,_,rfl,br ⋯ ⋯ `Y3 h nh hh2 _ fin⟩
   ·exact ⟨_,rfl,_,rfl,br ⋯ ⋯ `Y3 h nh hh2 _ fin⟩
   refine⟨_,rfl,rfl,_,rfl,zat (λ_=>?_) (λ_=>⟨_,rfl,rfl,_,rfl,zat (λ_=>?_) (λ_=>⟨_,rfl,rfl,_,rfl,zat (λh5=>?_) (λ_=>?_)⟩)⟩)⟩
   ·refine ⟨_,rfl,⋯,λpl hpl=>⟨a,n+2,(hH2'.mono ()).new hpl,(), .inl ⟨pl,_,rfl,hH2'.ne hpl,SqL.of zc,⋯,⋯,λv H3 hv hH3 k3=>⟨few rfl,λp3 hp3=>?_⟩⟩⟩⟩
    have hk:∃j:Int,v= .int j/\0<=j/\j<=99:=by
     simp only[D1,O2,or_false] at hv
     rcases hv with rfl|rfl|rfl|rfl|rfl|rfl<;>exact ⟨_,rfl,⋯,⋯⟩
    obtain⟨j,rfl,j0,j9⟩:=hk
    refine fin _ (.tup [.str "long", .int j]) _ (.mk2 zc (.str _ ⋯) (.int _)) ?_ (λ_=>(by decide +kernel:decide (("long":Str)="to")=false)) ((hH3.new hp3).mono ()) ((kp2.trans ((Keep.new hpl).trans k3)).trans (Keep.new hp3))
    refine⟨?_,rfl⟩
    rw[zcV,R0 rfl]
    show(decide (0<=j)&&decide (j<=99))=true
    rw[P0 j0,P0 j9];rfl
   ·exact ⟨_,rfl,_,rfl,br ⋯ ⋯ `Y3 m nm hm2 _ fin⟩
   ·refine ⟨_,rfl,_,rfl,zdI hH2' () hh2 nh λx3 H3 hx3 hH3 k3=>⟨few rfl,λp3 hp3=>?_⟩⟩
    refine fin _ _ _ (mk2 ⋯ hx3) ⟨zfT ⋯ hx3.1,zci hx3.2⟩ (λz=>?_) ((hH3.new hp3).mono ()) ((kp2.trans k3).trans (Keep.new hp3))
    subst z
    have e5:t=5:=V.int.inj (O0 h5)
    simp at t5
    lia
   ·exact fin _ _ _ (mk2 ⋯ hx) ⟨zfT ⋯ hx.1,zci hx.2⟩ (λ_=>ap `Y3) (hH2'.mono ()) kp2
  ·rintro σ' H3 ⟨v,d,rfl,hv,hd,hto,hH3,k3⟩
   refine⟨λσ' H'=>∃v d,σ'=[some (.ref a),some (.ref h),some (.ref m),some (.bl to),some (.int t),some v]/\Rep H' v d/\(zD d=true/\zbP O d=true)/\(to=false->zc1 d=false)/\Hand H' a (n+4)/\Keep a H H',?_,?_⟩
   ·refine ⟨_,rfl,a,4,n+3,rfl,hH3,(),⋯,⋯,λd4 H4 _ _ hH4 k4=>⟨rfl,_,rfl,zat (λ_=>?_) (λ_=>?_)⟩⟩
    ·have hv4:=hv.mono (Mono.keep k4 hH3 hH4)
     refine⟨_,rfl,few rfl,λp5 hp5=>⟨_, .tup [.str "not",d],rfl, .mk2 zc (.str _ ⋯) (hv4.mono (.new hp5)),?_,?_,(hH4.new hp5).mono (),(k3.trans k4).trans (Keep.new hp5)⟩⟩
     ·exact ⟨by rw[zdW,R0 rfl];exact hd.1,zm8 hd.2⟩
     ·exact λz=>hto z
    ·refine ⟨_,d,rfl,hv.mono (Mono.keep k4 hH3 hH4),⟨zm6 hd.1,zpT hd.1 hd.2⟩,λz=>znU hd.1 (hto z),hH4.mono (),k3.trans k4⟩
   ·rintro σ' H4 ⟨v,d,rfl,hv,hd,hto,hH4,k4⟩
    exact⟨_,rfl,q v d H4 hv hd hto hH4 k4⟩
theorem zmz(hl:ds.length<=4)(h:∀d∈ds,zD d=true):zad (.tup ds)=true:=by
 rw[zeO,P0 hl,N2.mpr h];rfl
theorem zit{P:α->Prop}{ds:List α}(h:∀(i:Nat) (d:α),ds[i]?=some d->P d):∀d∈ds,P d:=λd hd=>by
 obtain⟨i,hi,e⟩:=F2 hd
 exact h i d (by rw[F0 hi,e])
noncomputable def zkL:Sp:=λvs H Q _=>∃(a h m:Addr) (n:Int) (to:Bool) (O:List Str),vs=[.ref a, .ref h, .ref m, .bl to]/\Hand H a n/\n<2^38/\NL O H h/\NL O H m/\h≠a/\m≠a/\∀v ds H',Rep H' v (.tup ds)->ds.length<=4->(∀d∈ds,zD d=true)->(∀d∈ds,zbP O d=true)->(to=false->∀d∈ds,zc1 d=false)->Hand H' a (n+17)->Keep a H H'->Q v H'
theorem zmp(Y:Ev K mg):FnOk P w K mg base CX0 4 Y.a__law_conds Y.d__law_conds zbs zkL:=by
 have G__law_pick:FnOk P w K mg base CX0 2 Y.a__law_pick Y.d__law_pick zU (zbn K):=zcA Y
 have G__law_cond:FnOk P w K mg base CX0 3 Y.a__law_cond Y.d__law_cond zdv zrO:=zte Y
 refine Y._law_conds.fn.okQ zfX (λvs H Q E h=>?_) `W3
 ·obtain ⟨a,h,m,n,to,O,rfl,_⟩:=h;rfl
 ·obtain ⟨a,h,m,n,to,O,rfl,hH,hn,hh,hm,nh,nm,q⟩:=h
  refine⟨_,(zf (zx 4 zfX.nd (zh G__law_pick `U3 Y._law_pick.mg Y._law_pick.kp Y._law_pick.b .nil zk (za (qc 0) (za (zix [V.int 1,V.int 1,V.int 1,V.int 2,V.int 0,V.int 4] `Y3) zb))))
   (zi (zr (zaj zS Y.tuple zaK (za (zcp (src:=[none,some 0,some 1,some 2,some 3]) zeP rfl rfl (zfw Y.range (za (qv 4) zb)) (λ_ _ _ _ _=>(zo 0 zeP.nd)) (λ_ _ _ _ _=>zdj) (λ_ _ _ _ _=>(zh G__law_cond `U3 Y._law_cond.mg Y._law_cond.kp Y._law_cond.b .nil zk (za (qc 1) (za (qc 2) (za (qc 3) (za (qc 4) zb))))))) zb))))),?_⟩
  refine⟨_,rfl,⋯,λpl hpl=>⟨a,n,hH.new hpl,(), .inl ⟨pl,_,rfl,hH.ne hpl,SqL.of zc,⋯,⋯,λv H1 hv hH1 k1=>?_⟩⟩⟩
  obtain⟨c,rfl,c4⟩:∃c:Nat,v= .int (c:Int)/\c<=4:=by
   simp only[D1,O2,or_false] at hv
   rcases hv with rfl|rfl|rfl|rfl|rfl|rfl
   ·exact ⟨1,rfl,⋯⟩
   ·exact ⟨1,rfl,⋯⟩
   ·exact ⟨1,rfl,⋯⟩
   ·exact ⟨2,rfl,⋯⟩
   ·exact ⟨0,rfl,⋯⟩
   ·exact ⟨4,rfl,⋯⟩
  have kp1:Keep a H H1:=(Keep.new hpl).trans k1
  have hh1:=(hh.same (Same.new (o:= .lst [V.int 1,V.int 1,V.int 1,V.int 2,V.int 0,V.int 4]) hpl)).keep k1 nh
  have hm1:=(hm.same (Same.new (o:= .lst [V.int 1,V.int 1,V.int 1,V.int 2,V.int 0,V.int 4]) hpl)).keep k1 nm
  refine⟨_,rfl,c,rfl,(),(),?_⟩
  rw[Int.toNat_natCast]
  refine znf (a:=a) (m:=n+1) (c:=4) (Pd:=λ_ d=>(zD d=true/\zbP O d=true)/\(to=false->zc1 d=false)) (σr:=[some (.ref a),some (.ref h),some (.ref m),some (.bl to)]) rfl hH1 () ⋯ (λj H2 Q1 hj hH2 k2 q1=>?_) (λl vs ds H2 hl hl2 r2 hds pd hH2 k2=>?_)
  ·exact ⟨_,rfl,_,rfl,_,rfl,_,rfl,a,h,m,_,to,O,rfl,hH2,(),hh1.keep k2 nh,hm1.keep k2 nm,nh,nm,λv d H3 rv hc ht hH3 k3=>q1 v d H3 rv ⟨hc,ht⟩ hH3 k3⟩
  ·refine ⟨l,vs,rfl, .inl ⟨SqL.of hl2,λp hp=>?_⟩⟩
   have pd':=zit (P:=λd=>(zD d=true/\zbP O d=true)/\(to=false->zc1 d=false)) pd
   exact q _ ds _ (.mkL zc () (r2.mono (.new hp))) () (λd hd=>(pd' d hd).1.1) (λd hd=>(pd' d hd).1.2) (λz d hd=>(pd' d hd).2 z) ((hH2.new hp).mono ()) ((kp1.trans k2).trans (Keep.new hp))
def zuE(g:D->Bool)(H':Hp)(ls:Addr)(i:Nat):Prop:=∃(zs:List V) (ds:List D),H' ls=some (.lst zs)/\RepL H' zs ds/\ds.length=i/\∀d∈ds,g d=true
noncomputable def zhv(g:List Str->D->Bool):Sp:=λvs H Q _=>∃(a h m:Addr) (n:Int) (O:List Str),vs=[.ref a, .ref h, .ref m]/\Hand H a n/\n<2^37/\NL O H h/\NL O H m/\h≠a/\m≠a/\∀v ds H',Rep H' v (.tup ds)->ds.length<=12->(∀d∈ds,g O d=true)->Hand H' a (n+400)->Keep a H H'->Q v H'
theorem zo2{x:D}(hl:ds.length<=4)(h:∀d∈ds,zD d=true)(ha:∀d∈ds,zc1 d=false)(hx:za6 x=true):zC (.tup [.tup ds,x])=true:=by
 rw[zdP,zmz hl h,hx]
 have:zd3 (.tup ds)=false:=by
  show ds.any zc1=false
  rw[List.any_eq_false]
  exact λd hd z=>by rw[ha d hd] at z;cases z
 rw[this];rfl
theorem znm(Y:Ev K mg):FnOk P w K mg base CX0 5 Y.a__law_likings Y.d__law_likings zbG (zhv zk3):=by
 have G__law_take:FnOk P w K mg base CX0 1 Y.a__law_take Y.d__law_take z9 zdB:=zcO Y
 have G__law_pick:FnOk P w K mg base CX0 2 Y.a__law_pick Y.d__law_pick zU (zbn K):=zcA Y
 have G__law_conds:FnOk P w K mg base CX0 4 Y.a__law_conds Y.d__law_conds zbs zkL:=zmp Y
 refine Y._law_likings.fn.okQ zbw (λvs H Q E h=>?_) `W3
 ·obtain ⟨a,h,m,n,O,rfl,_⟩:=h;rfl
 ·obtain ⟨a,h,m,n,O,rfl,hH,hn,hh,hm,nh,nm,q⟩:=h
  refine⟨_,(zf (zx 3 zbw.nd (zaR zb))
   (zf (zcZ O3 rfl (zfw Y.range (za (zF zap (zh G__law_take `U3 Y._law_take.mg Y._law_take.kp Y._law_take.b .nil zk (za (qv 0) (za zg zb))) (zF zbl zg (zaj ze9 Y.int zgG (za (zaY zac (zh G__law_take `U3 Y._law_take.mg Y._law_take.kp Y._law_take.b .nil zk (za (qv 0) (za zg zb))) zg) zb)))) zb)) (zo 4 zbw.nd) (zf (zx 5 zbw.nd (zh G__law_pick `U3 Y._law_pick.mg Y._law_pick.kp Y._law_pick.b .nil zk (za (qv 0) (za (zaR (za zg (za zg (za zg (za (zr1 ziM zg) (za zg (za zg (za (zr1 ziM zg) (za zcj zb))))))))) zb))))
   (zi (zaZ (zgO F.plainAttrs_list F.slot_list_append F.type_list_append zbQ (qv 3) (za (zn (za (zh G__law_conds `U3 Y._law_conds.mg Y._law_conds.kp Y._law_conds.b .nil zk (za (qv 0) (za (qv 1) (za (qv 2) (za zgc zb))))) (za (qv 5) zb))) zb))))))
   (zi (zr (zaj zS Y.tuple zaK (za (qv 3) zb)))))),?_⟩
  refine⟨few rfl,λls hls=>?_⟩
  have nls:=hH.ne hls
  refine⟨_,rfl,a,4,n,rfl,hH.new hls,(),⋯,⋯,λt H1 t0 t4 hH1 k1=>⟨_,rfl,a,8,n+1,rfl,hH1,(),⋯,⋯,λu H2 u0 u8 hH2 k2=>?_⟩⟩
  have hl1:H1 ls=some (.lst []):=k1 _ _ nls zc
  have hl2:H2 ls=some (.lst []):=k2 _ _ nls hl1
  have kp2:Keep a H H2:=((Keep.new hls).trans k1).trans k2
  refine⟨rfl, .inr ⟨_,rfl,_,_,rfl,rfl, .inl ⟨⋯,⋯⟩,_,_,rfl,rfl,_,rfl,?_,?_,?_⟩⟩
  ·split<;>lia
  ·split<;>lia
  have hN:(t+9*(if decide (V.int u=V.int 0)=true then(1:Int)else 0)).toNat<=12:=by split<;>lia
  generalize (t+9*(if decide (V.int u=V.int 0)=true then(1:Int)else 0)).toNat=N at *
  refine zbe zdZ (λi σ' H'=>(∃o1 o2,σ'=[some (.ref a),some (.ref h),some (.ref m),some (.ref ls),o1,o2])/\zuE (zk3 O) H' ls i/\Hand H' a (n+2+18*i)/\Keep a H H') ?_ (λ_ _ _ _=>trivial) ?_ ?_
  ·exact ⟨⟨_,_,rfl⟩,⟨[],[],hl2,RepL.nil,rfl,λ_ z=>nomatch z⟩,hH2.mono (),kp2⟩
  ·rintro i y σ' H3 hi rfl ⟨⟨o1,o2,rfl⟩,⟨zs,ds,hz,rz,hdl,hds⟩,hH3,k3⟩
   have rz1:=rz.1
   refine⟨_,rfl,zvJ (ds:=[.int 5, .int 5, .int 1, .int (-3), .int 0, .int 999, .int (-999), .non]) `X3 λl4 vs4 H4 s4 e4 r4=>?_⟩
   refine⟨a,_,hH3.same s4,(), .inl ⟨l4,_,rfl,zni (hH3.same s4) e4 r4 ⋯,SqL.of e4,by rw[r4.1];decide,by rw[r4.1];decide,λv H5 hv hH5 k5=>?_⟩⟩
   obtain⟨dn,rn,hw,hwo⟩:∃dn,Rep H5 v dn/\za6 dn=true/\zaf O dn=true:=by
    obtain⟨j,hj,ej⟩:=F2 hv
    obtain⟨d,hd,rd⟩:=r4.get (i:=j) (v:=v) (by rw[F0 hj,ej])
    refine⟨d,rd.mono (.keep k5 (hH3.same s4) hH5),?_⟩
    have key:∀d∈([.int 5, .int 5, .int 1, .int (-3), .int 0, .int 999, .int (-999), .non]:List D),za6 d=true/\zaf O d=true:=by (repeat' (first|exact znN|refine List.forall_mem_append.mpr ⟨?_,?_⟩|refine List.forall_mem_cons.mpr ⟨?_,?_⟩))<;>exact ⟨⋯,rfl⟩
    exact key d (Z0 hd)
   have k35:Keep a H3 H5:=(Keep.of s4).trans k5
   have hz5:=k35 _ _ nls hz
   have hh5:=(hh.keep k3 nh).keep k35 nh
   have hm5:=(hm.keep k3 nm).keep k35 nm
   refine⟨_,rfl, .inl ⟨rfl,_,SqL.of hz5⟩,_,rfl,_,rfl,_,rfl,a,h,m,_,false,O,rfl,hH5,(),hh5,hm5,nh,nm,λvc dc H6 rc lc hc hco hto hH6 k6=>⟨_,rfl,few rfl,λp7 hp7=>?_⟩⟩
   have m36:Mono H3 H6:=(Mono.keep k35 hH3 hH5).trans (.keep k6 hH5 hH6)
   have hz7:upd H6 p7 (.tup [vc,v]) ls=some (.lst zs):=by rw[ze (zj (k6 _ _ nls hz5) hp7)];exact k6 _ _ nls hz5
   refine⟨ls,_,_,rfl,rfl,hz7,zp (),⟨_,_,rfl⟩,⟨_,ds ++ [.tup [.tup dc,dn]],zc,?_,?_,?_⟩,?_,?_⟩
   ·exact RepL.mono (.append ((rz.mono m36).mono (.new hp7)) (.cons (.mk2 zc (rc.mono (.new hp7)) ((rn.mono (.keep k6 hH5 hH6)).mono (.new hp7))) .nil)) (.lset hz7)
   ·rw[b0,hdl];rfl
   ·intro d hd
    rcases Q2.mp hd with hd|hd
    ·exact hds d hd
    ·rw[C2.mp hd];exact X0 _ _▸⟨zo2 lc hc (hto rfl) hw,zjT hco hwo⟩
   ·exact ((hH6.new hp7).updNe nls).mono (by rw[show((i+1:Nat):Int)=(i:Int)+1 by lia];lia)
   ·exact Keep.updNew ((k3.trans (k35.trans k6)).trans (Keep.new hp7)) hls
  ·rintro σ' H3 ⟨⟨o1,o2,rfl⟩,⟨zs,ds,hz,rz,hdl,hds⟩,hH3,k3⟩
   refine⟨_,rfl,ls,zs,rfl, .inl ⟨SqL.of hz,λp hp=>?_⟩⟩
   exact q _ ds _ (.mkL zc () (rz.mono (.new hp))) () hds ((hH3.new hp).mono ()) (k3.trans (Keep.new hp))
theorem ztS{x:D}(hl:ds.length<=4)(h:∀d∈ds,zD d=true)(hx:za1 x=true):zal (.tup [.tup ds,x])=true:=by
 rw[zkx,zmz hl h,hx];rfl
theorem zsn(hx:zm x=true)(hy:y="put"\/y="strike"):za1 (.tup [.str y, .str x])=true:=by
 rw[zmS,zdS,hx]
 rcases hy with rfl|rfl<;>decide +kernel
theorem zrm(Y:Ev K mg):FnOk P w K mg base CX0 5 Y.a__law_hands Y.d__law_hands zcD (zhv zkN):=by
 have G__law_take:FnOk P w K mg base CX0 1 Y.a__law_take Y.d__law_take z9 zdB:=zcO Y
 have G__law_pick:FnOk P w K mg base CX0 2 Y.a__law_pick Y.d__law_pick zU (zbn K):=zcA Y
 have G__law_conds:FnOk P w K mg base CX0 4 Y.a__law_conds Y.d__law_conds zbs zkL:=zmp Y
 refine Y._law_hands.fn.okQ zcC (λvs H Q E h=>?_) `W3
 ·obtain ⟨a,h,m,n,O,rfl,_⟩:=h;rfl
 ·obtain ⟨a,h,m,n,O,rfl,hH,hn,hh,hm,nh,nm,q⟩:=h
  refine⟨_,(zf (zx 3 zcC.nd (zaR zb))
   (zf (zcZ O3 rfl (zfw Y.range (za (zF zap (zh G__law_pick `U3 Y._law_pick.mg Y._law_pick.kp Y._law_pick.b .nil zk (za (qv 0) (za (zix [V.int 0,V.int 0,V.int 1,V.int 2] `Y3) zb))) (zF zbl zg (zaj ze9 Y.int zgG (za (zaY zac (zh G__law_take `U3 Y._law_take.mg Y._law_take.kp Y._law_take.b .nil zk (za (qv 0) (za zg zb))) zg) zb)))) zb)) (zo 4 zcC.nd) (zf (zx 5 zcC.nd (zh G__law_pick `U3 Y._law_pick.mg Y._law_pick.kp Y._law_pick.b .nil zk (za (qv 0) (za (zaR (za (zn (za zu zb)) (za (zn (za zu (za (zh G__law_pick `U3 Y._law_pick.mg Y._law_pick.kp Y._law_pick.b .nil zk (za (qv 0) (za (qv 2) zb))) zb))) (za (zn (za zu (za (zh G__law_pick `U3 Y._law_pick.mg Y._law_pick.kp Y._law_pick.b .nil zk (za (qv 0) (za (qv 2) zb))) zb))) zb)))) zb))))
   (zi (zaZ (zgO F.plainAttrs_list F.slot_list_append F.type_list_append zbQ (qv 3) (za (zn (za (zh G__law_conds `U3 Y._law_conds.mg Y._law_conds.kp Y._law_conds.b .nil zk (za (qv 0) (za (qv 1) (za (qv 2) (za zgc zb))))) (za (qv 5) zb))) zb))))))
   (zi (zr (zaj zS Y.tuple zaK (za (qv 3) zb)))))),?_⟩
  refine⟨few rfl,λls hls=>?_⟩
  have nls:=hH.ne hls
  have hH0:=hH.new (o:= .lst []) hls
  refine⟨_,rfl,⋯,λpk hpk=>⟨a,n,hH0.new hpk,(), .inl ⟨pk,_,rfl,hH0.ne hpk,SqL.of zc,⋯,⋯,λv H1 hv hH1 k1=>?_⟩⟩⟩
  obtain⟨c,rfl,c0,c4⟩:∃c:Int,v= .int c/\0<=c/\c<=4:=by
   simp only[D1,O2,or_false] at hv
   rcases hv with rfl|rfl|rfl|rfl<;>exact ⟨_,rfl,⋯,⋯⟩
  refine⟨_,rfl,a,8,n+1,rfl,hH1,(),⋯,⋯,λu H2 u0 u8 hH2 k2=>?_⟩
  have hl0:upd H ls (.lst []) ls=some (.lst []):=zc
  have hl1:H1 ls=some (.lst []):=k1 _ _ nls (by rw[ze (zj hl0 hpk)];exact hl0)
  have hl2:H2 ls=some (.lst []):=k2 _ _ nls hl1
  have kp2:Keep a H H2:=((Keep.new hls).trans ((Keep.new hpk).trans k1)).trans k2
  refine⟨rfl, .inr ⟨_,rfl,_,_,rfl,rfl, .inl ⟨⋯,⋯⟩,_,_,rfl,rfl,_,rfl,?_,?_,?_⟩⟩
  ·split<;>lia
  ·split<;>lia
  have hN:(c+8*(if decide (V.int u=V.int 0)=true then(1:Int)else 0)).toNat<=12:=by split<;>lia
  generalize (c+8*(if decide (V.int u=V.int 0)=true then(1:Int)else 0)).toNat=N at *
  refine zbe zdZ (λi σ' H'=>(∃o1 o2,σ'=[some (.ref a),some (.ref h),some (.ref m),some (.ref ls),o1,o2])/\zuE (zkN O) H' ls i/\Hand H' a (n+2+20*i)/\Keep a H H') ?_ (λ_ _ _ _=>trivial) ?_ ?_
  ·exact ⟨⟨_,_,rfl⟩,⟨[],[],hl2,RepL.nil,rfl,λ_ z=>nomatch z⟩,hH2.mono (),kp2⟩
  ·rintro i y σ' H3 hi rfl ⟨⟨o1,o2,rfl⟩,⟨zs,ds,hz,rz,hdl,hds⟩,hH3,k3⟩
   have rz1:=rz.1
   refine⟨_,rfl,few rfl,λp1 hp1=>?_⟩
   have S1:Same H3 (upd H3 p1 (.tup [.str "keep"])):=Same.new hp1
   have hm3:=hm.keep k3 nm
   have hh3:=hh.keep k3 nh
   refine⟨_,rfl,_,rfl,zdI (hH3.new hp1) () (hm3.same S1) nm λx H4 hx hH4 k4=>⟨few rfl,λp2 hp2=>?_⟩⟩
   have S2:Same H4 (upd H4 p2 (.tup [.str "put", .str x])):=Same.new hp2
   refine⟨_,rfl,_,rfl,zdI (hH4.new hp2) () (((hm3.same S1).keep k4 nm).same S2) nm λy H5 hy hH5 k5=>⟨few rfl,λp3 hp3=>⟨few rfl,λp4 hp4=>?_⟩⟩⟩
   have S3:Same H5 (upd H5 p3 (.tup [.str "strike", .str y])):=Same.new hp3
   have S4:Same (upd H5 p3 (.tup [.str "strike", .str y])) (upd (upd H5 p3 (.tup [.str "strike", .str y])) p4 (.lst [.ref p1, .ref p2, .ref p3])):=Same.new hp4
   have hH6:=(hH5.new (o:= .tup [.str "strike", .str y]) hp3).new (o:= .lst [.ref p1, .ref p2, .ref p3]) hp4
   refine⟨a,_,hH6,(), .inl ⟨p4,_,rfl,Hand.ne (hH5.new hp3) hp4,SqL.of zc,(by decide:0<3),(by decide:3<1000),λv H7 hv hH7 k7=>?_⟩⟩
   have M2:Mono (upd H3 p1 (.tup [.str "keep"])) H4:=Mono.keep k4 (hH3.new hp1) hH4
   have M3:=Mono.keep k5 (hH4.new hp2) hH5
   have M5:=Mono.keep k7 hH6 hH7
   have M45:=((Mono.of S3).trans (Mono.of S4)).trans M5
   have k37:Keep a H3 H7:=(((((Keep.of S1).trans k4).trans (Keep.of S2)).trans k5).trans ((Keep.of S3).trans (Keep.of S4))).trans k7
   obtain⟨da,ra,haa,hao⟩:∃da,Rep H7 v da/\za1 da=true/\zaf O da=true:=by
    simp only[D1,O2,or_false] at hv
    rcases hv with rfl|rfl|rfl
    ·exact ⟨.tup [.str "keep"],Rep.mono (.mk1 zc (.str _ ⋯)) (((M2.trans (.of S2)).trans M3).trans M45),`Y3,rfl⟩
    ·exact ⟨.tup [.str "put", .str x],Rep.mono (.mk2 zc (.str _ ⋯) (.str _ (zX hx.1))) (M3.trans M45),zsn hx.1 (.inl rfl),zci hx.2⟩
    ·exact ⟨.tup [.str "strike", .str y],Rep.mono (.mk2 zc (.str _ ⋯) (.str _ (zX hy.1))) ((Mono.of S4).trans M5),zsn hy.1 (.inr rfl),zci hy.2⟩
   have hz7:=k37 _ _ nls hz
   refine⟨_,rfl, .inl ⟨rfl,_,SqL.of hz7⟩,_,rfl,_,rfl,_,rfl,a,h,m,_,true,O,rfl,hH7,(),hh3.keep k37 nh,hm3.keep k37 nm,nh,nm,λvc dc H8 rc lc hc hco hto hH8 k8=>⟨_,rfl,few rfl,λp9 hp9=>?_⟩⟩
   have m38:Mono H3 H8:=(Mono.keep k37 hH3 hH7).trans (.keep k8 hH7 hH8)
   have hz9:upd H8 p9 (.tup [vc,v]) ls=some (.lst zs):=by rw[ze (zj (k8 _ _ nls hz7) hp9)];exact k8 _ _ nls hz7
   refine⟨ls,_,_,rfl,rfl,hz9,zp (),⟨_,_,rfl⟩,⟨_,ds ++ [.tup [.tup dc,da]],zc,?_,?_,?_⟩,?_,?_⟩
   ·exact RepL.mono (.append ((rz.mono m38).mono (.new hp9)) (.cons (.mk2 zc (rc.mono (.new hp9)) ((ra.mono (.keep k8 hH7 hH8)).mono (.new hp9))) .nil)) (.lset hz9)
   ·rw[b0,hdl];rfl
   ·intro d hd
    rcases Q2.mp hd with hd|hd
    ·exact hds d hd
    ·rw[C2.mp hd];exact X0 _ _▸⟨ztS lc hc haa,zjT hco hao⟩
   ·exact ((hH8.new hp9).updNe nls).mono (by rw[show((i+1:Nat):Int)=(i:Int)+1 by lia];lia)
   ·exact Keep.updNew ((k3.trans (k37.trans k8)).trans (Keep.new hp9)) hls
  ·rintro σ' H3 ⟨⟨o1,o2,rfl⟩,⟨zs,ds,hz,rz,hdl,hds⟩,hH3,k3⟩
   refine⟨_,rfl,ls,zs,rfl, .inl ⟨SqL.of hz,λp hp=>?_⟩⟩
   exact q _ ds _ (.mkL zc () (rz.mono (.new hp))) () hds ((hH3.new hp).mono ()) (k3.trans (Keep.new hp))
def TD(H:Hp)(d:Addr)(xs:List Str)(c:Nat):Prop:=∃(kvs:List (List Key×V)) (ps:List (Str×Str)),H d=some (.dT kvs)/\kvs.map (·.1)=ps.map zjr/\ps.length<=c/\∀p∈ps,p.1∈xs/\p.2∈xs/\ltS p.1 p.2=true
theorem zp0{kvs:List (List Key×V)}{k:List Key}:(zaB kvs k v).map (·.1)=kvs.map (·.1)\/(zaB kvs k v).map (·.1)=kvs.map (·.1)++ [k]:=by
 unfold zaB
 by_cases h:(kvs.any λkv=>decide (kv.1=k))=true
 ·rw[R0 h]
  refine .inl ?_
  rw[List.map_map]
  apply List.map_congr_left
  intro x _
  show(if x.1=k then(x.1,v)else x).1=x.1
  split<;>rfl
 ·rw[N0 h,List.map_append]
  exact .inr rfl
theorem TD.put{d:Addr}{xs:List Str}{p:Str×Str}{kvs:List (List Key×V)}(h1:kvs.map (·.1)=ps.map zjr)(h2:ps.length<=c)(h3:∀p∈ps,p.1∈xs/\p.2∈xs/\ltS p.1 p.2=true)(hp:p.1∈xs/\p.2∈xs/\ltS p.1 p.2=true):
 TD (upd H d (.dT (zaB kvs (zjr p) v))) d xs (c+1):=by
 rcases zp0 (kvs:=kvs) (k:=zjr p) (v:=v)with e|e
 ·exact ⟨_,ps,zc,e.trans h1,(),h3⟩
 ·refine ⟨_,ps ++ [p],zc,by rw[e,h1,List.map_append];rfl,by rw[b0];show ps.length+1<=_;lia,λq hq=>?_⟩
  rcases Q2.mp hq with hq|hq
  ·exact h3 q hq
  ·rw[C2.mp hq];exact hp
theorem TD.keep{d:Addr}{xs:List Str}(h:TD H d xs c)(k:Keep a H H')(n:d≠a):TD H' d xs c:=let⟨kvs,ps,e,r⟩:=h;⟨kvs,ps,k _ _ n e,r⟩
theorem TD.mono{d:Addr}{xs:List Str}(h:TD H d xs c)(l:c<=c'):TD H d xs c':=let⟨kvs,ps,e,f,g,r⟩:=h;⟨kvs,ps,e,f,Y1 g l,r⟩
theorem zrB(h:x≠y):ltS (if ltS y x=true then y else x) (if ltS x y=true then y else x)=true:=by
 cases e:ltS x y with
 |true=>rw[zhC e];simp only[P3,if_false,if_true];exact e
 |false=>
  have:=zei h e
  rw[this];simp only[P3,if_false,if_true];exact this
noncomputable def zoE:Sp:=λvs H Q _=>∃(a h:Addr) (n:Int) (more:Nat) (xs:List Str),vs=[.ref a, .ref h, .int more]/\Hand H a n/\n<2^38/\H h=some (.lst (xs.map V.str))/\h≠a/\1<=xs.length/\xs.length<=10/\xs.Nodup/\(∀x∈xs,zm x=true)/\more<=30/\
 ∀(v:V) (ps:List (Str×Str)) (H':Hp),Rep H' v (.tup (ps.map pairD))->ps.Pairwise (λa b=>ltP a b=true)->(∀p∈ps,p.1∈xs/\p.2∈xs/\ltS p.1 p.2=true)->Hand H' a (n+100)->Keep a H H'->Q v H'
theorem zth(Y:Ev K mg):FnOk P w K mg base CX0 3 Y.a__law_ties Y.d__law_ties zdt zoE:=by
 have G__law_take:FnOk P w K mg base CX0 1 Y.a__law_take Y.d__law_take z9 zdB:=zcO Y
 have G__law_pick:FnOk P w K mg base CX0 2 Y.a__law_pick Y.d__law_pick zU (zbn K):=zcA Y
 refine Y._law_ties.fn.okQ zbg (λvs H Q E h=>?_) `W3
 ·obtain ⟨a,h,n,more,xs,rfl,_⟩:=h;rfl
 ·obtain ⟨a,h,n,more,xs,rfl,hH,hn,hh,nh,x1,x10,hnd,hxn,hmore,q⟩:=h
  refine⟨_,(zf (zx 3 zbg.nd ztO)
   (zf (zcZ O3 rfl (zqM Y.range (za zg (za (zv z8 Y.len za0 (za (qv 1) zb)) zb))) (zo 4 zbg.nd) (zf (zuw 5 6 zbg.nd (za (zM zaq (qv 1) (qv 4)) (za (zM zaq (qv 1) (zh G__law_take `U3 Y._law_take.mg Y._law_take.kp Y._law_take.b .nil zk (za (qv 0) (za (qv 4) zb)))) zb)))
   (zi (zae (zK zmn (zh G__law_take `U3 Y._law_take.mg Y._law_take.kp Y._law_take.b .nil zk (za (qv 0) (za zg zb))) zg) (zi (zkO (hu1 hr) (qv 3) (zn (za (zv (ziO rfl) Y.min zgz (za (qv 5) (za (qv 6) zb))) (za (zv (zh0 rfl) Y.max zqF (za (qv 5) (za (qv 6) zb))) zb))) zgc)) zO))))
   (zf (zcZ O3 rfl (zfw Y.range (za (qv 2) zb)) (zo 4 zbg.nd) (zf (zuw 5 6 zbg.nd (za (zh G__law_pick `U3 Y._law_pick.mg Y._law_pick.kp Y._law_pick.b .nil zk (za (qv 0) (za (qv 1) zb))) (za (zh G__law_pick `U3 Y._law_pick.mg Y._law_pick.kp Y._law_pick.b .nil zk (za (qv 0) (za (qv 1) zb))) zb)))
   (zi (zae (zK zou (qv 5) (qv 6)) (zi (zkO (hu1 hr) (qv 3) (zn (za (zv (ziO rfl) Y.min zgz (za (qv 5) (za (qv 6) zb))) (za (zv (zh0 rfl) Y.max zqF (za (qv 5) (za (qv 6) zb))) zb))) zgc)) zO))))
   (zi (zr (zaj zS Y.tuple zaK (za (zv (zkX rfl) Y.sorted zcU (za (qv 3) zb)) zb))))))),?_⟩
  intro d hd
  have nd:=hH.ne hd
  have ndh:d≠h:=λz=>by rw[z,hh] at hd;cases hd
  have hh0:upd H d (.dT []) h=some (.lst (xs.map V.str)):=by rw[ze (Ne.symm ndh)];exact hh
  refine⟨_,rfl, .inl ⟨h,_,rfl, .inl (SqL.of hh0),1,_,rfl,⟨⋯,⋯,(),by rw[D0];lia⟩,?_⟩⟩
  have hN:(((xs.map V.str).length:Int) -1).toNat=xs.length -1:=by rw[D0];lia
  rw[hN]
  refine zbe zdZ (λi σ' H'=>(∃o1 o2 o3,σ'=[some (.ref a),some (.ref h),some (.int more),some (.ref d),o1,o2,o3])/\TD H' d xs i/\Hand H' a (n+2*i)/\Keep a H H') ?_ (λ_ _ _ _=>trivial) ?_ ?_
  ·exact ⟨⟨_,_,_,rfl⟩,⟨[],[],zc,rfl,S0 _,λ_ z=>nomatch z⟩,(hH.new hd).mono (),Keep.new hd⟩
  ·rintro i y σ' H1 hi rfl ⟨⟨o1,o2,o3,rfl⟩,td,hH1,k1⟩
   have hh1:=k1 _ _ nh hh
   have g1:atI (xs.map V.str) (1+(i:Int))=some (.str (xs.getD (i+1) "")):=by
    have hi1:i+1<xs.length:=()
    rw[Int.add_comm]
    exact zZ (j:=i+1) (by simp[hi1,List.getD])
   refine⟨_,rfl,_,rfl,h,_,_,_,rfl,rfl,SqL.of hh1,g1,_,rfl,_,rfl,_,rfl,a,_,_,rfl,hH1,(),(),(),λt' H2 t0 t1 hH2 k2=>?_⟩
   obtain⟨t,rfl⟩:∃t:Nat,t'=(t:Int):=⟨t'.toNat,()⟩
   have hh2:=k2 _ _ nh hh1
   have ht:t<xs.length:=()
   have g2:atI (xs.map V.str) (t:Int)=some (.str (xs.getD t "")):=zZ (by simp[ht,List.getD])
   have hne:xs.getD (i+1) ""≠xs.getD t "":=by
    have hi1:i+1<xs.length:=()
    have:=zqv hnd hi1 ht ()
    simpa[List.getD,hi1,ht] using this
   have mx1:xs.getD (i+1) ""∈xs:=by have hi1:i+1<xs.length:=()
                                    simp[List.getD,hi1]
   have mx2:xs.getD t ""∈xs:=by simp[List.getD,ht]
   generalize xs.getD (i+1) ""=x at *
   generalize xs.getD t ""=y at *
   refine⟨h,_,_,_,rfl,rfl,SqL.of hh2,g2,_,_,rfl,?_⟩
   have td2:=td.keep k2 nd
   refine⟨_,rfl,a,9,_,rfl,hH2,(),⋯,⋯,λu H3 u0 u9 hH3 k3=>⟨_,_,rfl,rfl,_,rfl,zat (λ_=>?_) (λ_=>?_)⟩⟩
   ·obtain ⟨kvs,ps,hkv,hkk,hpl,hpg⟩:=td2.keep k3 nd
    refine⟨_,rfl,_,rfl,_,rfl,x,y,rfl,_,rfl,_,rfl,x,y,rfl,few rfl,λp hp=>?_⟩
    have hkv4:upd H3 p (.tup [.str (if ltS y x=true then y else x), .str (if ltS x y=true then y else x)]) d=some (.dT kvs):=by rw[ze (zj hkv hp)];exact hkv
    have hlk:kvs.length=ps.length:=by have:=E3 List.length hkk;simpa using this
    refine⟨d,_,rfl,DPut.t (k:=zjr (if ltS y x=true then y else x,if ltS x y=true then y else x)) hkv4 zc (zp ()),⟨_,_,_,rfl⟩,TD.put hkk hpl hpg ⟨?_,?_,zrB hne⟩,?_,?_⟩
    ·dsimp only;split<;>assumption
    ·dsimp only;split<;>assumption
    ·exact ((hH3.new hp).updNe nd).mono (by rw[show((i+1:Nat):Int)=(i:Int)+1 by lia];lia)
    ·exact Keep.updNew (((k1.trans k2).trans k3).trans (Keep.new hp)) hd
   ·exact ⟨⟨_,_,_,rfl⟩,(td2.keep k3 nd).mono (),hH3.mono (by rw[show((i+1:Nat):Int)=(i:Int)+1 by lia];lia),(k1.trans k2).trans k3⟩
  ·rintro σ' H1 ⟨⟨o1,o2,o3,rfl⟩,td,hH1,k1⟩
   refine⟨_,rfl,more,rfl,(),(),?_⟩
   rw[Int.toNat_natCast]
   refine zbe zdZ (λi σ' H'=>(∃o1 o2 o3,σ'=[some (.ref a),some (.ref h),some (.int more),some (.ref d),o1,o2,o3])/\TD H' d xs (9+i)/\Hand H' a (n+20+2*i)/\Keep a H H') ?_ (λ_ _ _ _=>trivial) ?_ ?_
   ·exact ⟨⟨_,_,_,rfl⟩,td.mono (),hH1.mono (),k1⟩
   ·rintro i y σ' H2 hi rfl ⟨⟨o1,o2,o3,rfl⟩,td2,hH2,k2⟩
    have pk:∀{H0:Hp} {n0:Int} {R:VK},Hand H0 a n0->n0<2^40->H0 h=some (.lst (xs.map V.str))->(∀x H',x∈xs->Hand H' a (n0+1)->Keep a H0 H'->R (.str x) H')->zbn K [.ref a, .ref h] H0 R E0:=λhH0 hn0 e0 qq=>
     ⟨a,_,hH0,hn0, .inl ⟨h,_,rfl,nh,SqL.of e0,by rw[D0];lia,by rw[D0];lia,λv H' hv hH' k'=>by
       obtain⟨x,hx,rfl⟩:=X1.mp hv
       exact qq x H' hx hH' k'⟩⟩
    have hh2:=k2 _ _ nh hh
    refine⟨_,rfl,_,rfl,pk hH2 () hh2 λx H3 hx hH3 k3=>⟨_,rfl,_,rfl,pk hH3 () (k3 _ _ nh hh2) λy H4 hy hH4 k4=>⟨_,_,rfl,_,rfl,_,rfl,rfl,_,rfl,zat (λhc=>?_) (λ_=>?_)⟩⟩⟩
    ·have hne:x≠y:=λz=>by rw[z] at hc;simp at hc
     obtain⟨kvs,ps,hkv,hkk,hpl,hpg⟩:=(td2.keep k3 nd).keep k4 nd
     refine⟨_,rfl,_,rfl,_,rfl,x,y,rfl,_,rfl,_,rfl,x,y,rfl,few rfl,λp hp=>?_⟩
     have hkv4:upd H4 p (.tup [.str (if ltS y x=true then y else x), .str (if ltS x y=true then y else x)]) d=some (.dT kvs):=by rw[ze (zj hkv hp)];exact hkv
     have hlk:kvs.length=ps.length:=by have:=E3 List.length hkk;simpa using this
     refine⟨d,_,rfl,DPut.t (k:=zjr (if ltS y x=true then y else x,if ltS x y=true then y else x)) hkv4 zc (zp ()),⟨_,_,_,rfl⟩,TD.put hkk hpl hpg ⟨?_,?_,zrB hne⟩,?_,?_⟩
     ·dsimp only;split<;>assumption
     ·dsimp only;split<;>assumption
     ·exact ((hH4.new hp).updNe nd).mono (by rw[show((i+1:Nat):Int)=(i:Int)+1 by lia];lia)
     ·exact Keep.updNew (((k2.trans k3).trans k4).trans (Keep.new hp)) hd
    ·exact ⟨⟨_,_,_,rfl⟩,((td2.keep k3 nd).keep k4 nd).mono (),hH4.mono (by rw[show((i+1:Nat):Int)=(i:Int)+1 by lia];lia),(k2.trans k3).trans k4⟩
   ·rintro σ' H2 ⟨⟨o1,o2,o3,rfl⟩,⟨kvs,ps,hkv,hkk,hpl,hpg⟩,hH2,k2⟩
    refine⟨_,rfl,d,kvs,ps,rfl,hkv,hkk,(),λps' vs l hperm hpw hpa hl=>⟨l,vs,rfl, .inl ⟨SqL.of zc,λp hp=>?_⟩⟩⟩
    have S:Same H2 (upd (upd H2 l (.lst vs)) p (.tup vs)):=(Same.new hl).trans (Same.new hp)
    refine q _ ps' _ (.mkL zc (by rw[D0,hperm.length_eq];lia) ⟨by rw[D0];exact hpa.1,λi v dd e1 e2=>?_⟩) hpw (λp hp=>hpg p (hperm.mem_iff.mp hp)) ((hH2.same S).mono ()) (k2.trans (Keep.of S))
    rw[V0] at e2
    cases e3:ps'[i]? with
    |none=>rw[e3] at e2;cases e2
    |some pr=>
     rw[e3] at e2
     cases e2
     obtain⟨b,rfl,hb⟩:=hpa.2 i v pr e1 e3
     have hpr:=hpg pr (hperm.mem_iff.mp (Z0 e3))
     exact .mk2 (S _ _ hb) (.str _ (zX (hxn _ hpr.1))) (.str _ (zX (hxn _ hpr.2.1)))
noncomputable def zrI:Sp:=λvs H Q _=>∃(a:Addr) (n:Int),vs=[.ref a]/\Hand H a n/\n<2^36/\∀(v:V) (g:Str) (hs:List Str) (ps:List (Str×Str)) (lks hds:List D) (H':Hp),Rep H' v (zag g hs ps lks hds)->TownOk g hs ps lks hds->(∀x∈hs,x≠"nobody")->(∃O,Pool hs lks hds O)->(∀d∈lks,∃ds,d= .tup ds/\ds.length<=12)->(∀d∈hds,∃ds,d= .tup ds/\ds.length<=12)->Hand H' a (n+9000)->Keep a H H'->Q v H'
theorem zjf(e:d= .tup ds)(h:ds.length<=12)(h2:∀d∈ds,zk3 O d=true):zN d=true/\zcB O d=true/\∃es,d= .tup es/\es.length<=12:=by
 subst e
 refine⟨?_,N2.mpr λd hd=>((X0 _ _).mp (h2 d hd)).2,ds,rfl,h⟩
 show(decide (ds.length<=90)&&ds.all zC)=true
 rw[P0 (),N2.mpr λd hd=>((X0 _ _).mp (h2 d hd)).1];rfl
theorem zlZ(e:d= .tup ds)(h:ds.length<=12)(h2:∀d∈ds,zkN O d=true):z7 d=true/\zcB O d=true/\∃es,d= .tup es/\es.length<=12:=by
 subst e
 refine⟨?_,N2.mpr λd hd=>((X0 _ _).mp (h2 d hd)).2,ds,rfl,h⟩
 show(decide (ds.length<=90)&&ds.all zal)=true
 rw[P0 (),N2.mpr λd hd=>((X0 _ _).mp (h2 d hd)).1];rfl
theorem zsY(Y:Ev K mg):FnOk P w K mg base CX0 6 Y.a__law_town Y.d__law_town zdq zrI:=by
 have G__law_take:FnOk P w K mg base CX0 1 Y.a__law_take Y.d__law_take z9 zdB:=zcO Y
 have G__law_pick:FnOk P w K mg base CX0 2 Y.a__law_pick Y.d__law_pick zU (zbn K):=zcA Y
 have G__law_names:FnOk P w K mg base CX0 3 Y.a__law_names Y.d__law_names zcH zlV:=zpD Y
 have G__law_ties:FnOk P w K mg base CX0 3 Y.a__law_ties Y.d__law_ties zdt zoE:=zth Y
 have G__law_likings:FnOk P w K mg base CX0 5 Y.a__law_likings Y.d__law_likings zbG (zhv zk3):=znm Y
 have G__law_hands:FnOk P w K mg base CX0 5 Y.a__law_hands Y.d__law_hands zcD (zhv zkN):=zrm Y
 refine Y._law_town.fn.okQ zan (λvs H Q E h=>?_) `W3
 ·obtain ⟨a,n,rfl,_⟩:=h;rfl
 ·obtain ⟨a,n,rfl,hH,hn,q⟩:=h
  refine⟨_,(zf (zx 1 zan.nd (zM zaq (zaR (za zg (za zg (za zg (za zg (za zg (za zg (za zg (za (zF zap zg (zh G__law_take `U3 Y._law_take.mg Y._law_take.kp Y._law_take.b .nil zk (za (qc 0) (za zg zb)))) zb))))))))) (zh G__law_take `U3 Y._law_take.mg Y._law_take.kp Y._law_take.b .nil zk (za (qc 0) (za zg zb)))))
   (zf (zh8 2 zan.nd (zh G__law_names `U3 Y._law_names.mg Y._law_names.kp Y._law_names.b .nil zk (za (qc 0) (za (zF zap (qv 1) zg) zb))))
   (zf (zcg (zn (za (zqd zok (qc 2) zgw (zgX (qv 1))) (za (zqd zok (qc 2) (zgX (qv 1)) zgw) zb))) (zcv 2 rfl (zt (zo 3 zan.nd) (zt (zo1 4 zan.nd) zaA))))
   (zf (zx 5 zan.nd (zh G__law_ties `U3 Y._law_ties.mg Y._law_ties.kp Y._law_ties.b .nil zk (za (qc 0) (za (qv 3) (za (zh G__law_take `U3 Y._law_take.mg Y._law_take.kp Y._law_take.b .nil zk (za (qc 0) (za zg zb))) zb)))))
   (zf (zx 6 zan.nd (zh G__law_pick `U3 Y._law_pick.mg Y._law_pick.kp Y._law_pick.b .nil zk (za (qc 0) (za (qv 3) zb))))
   (zf (zx 7 zan.nd (zaj zS Y.tuple zaK (za (zv zkt Y.sorted zcU (za (qv 3) zb)) zb)))
   (zf (zx 8 zan.nd (zaj zS Y.tuple zaK (za (zcp (src:=[none,some 0,some 4,some 2]) zfk rfl rfl (zcX (qv 7)) (λ_ _ _ _ _=>(zo 0 zfk.nd)) (λ_ _ _ _ _=>zdj) (λ_ _ _ _ _=>(zh G__law_likings `U3 Y._law_likings.mg Y._law_likings.kp Y._law_likings.b .nil zk (za (qc 1) (za (qc 3) (za (qc 2) zb)))))) zb)))
   (zf (zx 9 zan.nd (zaj zS Y.tuple zaK (za (zcp (src:=[none,some 0,some 4,some 2]) zfh rfl rfl (zcX (qv 7)) (λ_ _ _ _ _=>(zo 0 zfh.nd)) (λ_ _ _ _ _=>zdj) (λ_ _ _ _ _=>(zh G__law_hands `U3 Y._law_hands.mg Y._law_hands.kp Y._law_hands.b .nil zk (za (qc 1) (za (qc 3) (za (qc 2) zb)))))) zb)))
   (zi (zr (zn (za (qv 6) (za (qv 7) (za (qv 5) (za (qv 8) (za (qv 9) zb)))))))))))))))),?_⟩
  refine⟨_,rfl,a,5,n,rfl,hH,(),⋯,⋯,λt H1 t0 t5 hH1 k1=>⟨_,_,rfl,rfl,few rfl,λpl hpl=>⟨_,rfl,a,8,n+1,rfl,hH1.new hpl,(),⋯,⋯,λu H2 u0 u8 hH2 k2=>?_⟩⟩⟩
  have hpl2:=k2 _ _ (hH1.ne hpl) (zc (o:= .lst [V.int 2,V.int 3,V.int 3,V.int 4,V.int 4,V.int 5,V.int 1,V.int (6+t)]))
  obtain⟨v,ev,hv⟩:=zga (xs:=[V.int 2,V.int 3,V.int 3,V.int 4,V.int 4,V.int 5,V.int 1,V.int (6+t)]) u0 u8
  obtain⟨m,rfl,m1,m10⟩:∃m:Nat,v= .int (m:Int)/\1<=m/\m<=10:=by
   simp only[D1,O2,or_false] at hv
   rcases hv with rfl|rfl|rfl|rfl|rfl|rfl|rfl|rfl
   ·exact ⟨2,rfl,⋯,⋯⟩
   ·exact ⟨3,rfl,⋯,⋯⟩
   ·exact ⟨3,rfl,⋯,⋯⟩
   ·exact ⟨4,rfl,⋯,⋯⟩
   ·exact ⟨4,rfl,⋯,⋯⟩
   ·exact ⟨5,rfl,⋯,⋯⟩
   ·exact ⟨1,rfl,⋯,⋯⟩
   ·exact ⟨(6+t).toNat,by congr 1;lia,(),()⟩
  have kp2:Keep a H H2:=(k1.trans (Keep.new hpl)).trans k2
  refine⟨pl,_,_,_,rfl,rfl,SqL.of hpl2,ev,?_⟩
  refine⟨_,rfl,_,rfl,_,_,rfl,rfl,a,n+1+1,m+3,by push_cast;rfl,hH2,(),(),(),λln xs H3 hln hl3 hlen hxn hxd hxw hH3 k3=>?_⟩
  have nln:ln≠a:=hH2.ne hln
  refine⟨_,rfl,_,rfl,_,rfl,ln,_,rfl,SqL.of hl3,λp1 hp1=>?_⟩
  have S1:Same H3 (upd H3 p1 (.lst (zde (xs.map V.str) none (some (m:Int))))):=Same.new hp1
  refine⟨_,rfl,_,rfl,_,rfl,ln,_,rfl,SqL.of (S1 _ _ hl3),λp2 hp2=>⟨few rfl,λp3 hp3=>?_⟩⟩
  have S2:=Same.new (o:= .lst (zde (xs.map V.str) (some (m:Int)) none)) hp2
  have S3:=Same.new (o:= .tup [V.ref p1,V.ref p2]) hp3
  have S13:=(S1.trans S2).trans S3
  have hp1':=S3 _ _ (S2 _ _ (zc (H:=H3) (a:=p1) (o:= .lst (zde (xs.map V.str) none (some (m:Int))))))
  have hp2':=S3 _ _ (zc (H:=upd H3 p1 (.lst (zde (xs.map V.str) none (some (m:Int))))) (a:=p2) (o:= .lst (zde (xs.map V.str) (some (m:Int)) none)))
  refine⟨p3,_,rfl, .inl (.inl zc),rfl,_,_,rfl,_,_,rfl,rfl,?_⟩
  have hl4:=S13 _ _ hl3
  have hH4:=hH3.same S13
  have np1:p1≠a:=hH3.ne hp1
  have np2:p2≠a:=(hH3.same S1).ne hp2
  have kp4:=(kp2.trans k3).trans (Keep.of S13)
  generalize (upd (upd (upd H3 p1 (HO.lst (zde (xs.map V.str) none (some (m:Int))))) p2 (HO.lst (zde (xs.map V.str) (some (m:Int)) none))) p3 (HO.tup [V.ref p1,V.ref p2]))=H4 at *
  rw[zl9,←List.map_take] at hp1'
  rw[zlW,←List.map_drop] at hp2'
  have hth:(xs.take m).length=m:=by rw[P1];lia
  have htn:∀x∈xs.take m,zm x=true:=λx hx=>hxn x (List.mem_of_mem_take hx)
  have htw:∀x∈xs.take m,x≠"nobody":=λx hx=>hxw x (List.mem_of_mem_take hx)
  have htd:(xs.take m).Nodup:=hxd.sublist (List.take_sublist m xs)
  have hdn:∀x∈xs.drop m,zm x=true:=λx hx=>hxn x (List.mem_of_mem_drop hx)
  have hdl:(xs.drop m).length=3:=by rw[List.length_drop];lia
  have hto:∀x∈xs.take m,x∈xs:=λx hx=>List.mem_of_mem_take hx
  have hdo:∀x∈xs.drop m,x∈xs:=λx hx=>List.mem_of_mem_drop hx
  generalize xs.take m=hs at *
  generalize xs.drop m=ms at *
  have NLn:NL xs H4 ln:=⟨xs,hl4,(),(),λx hx=>⟨hxn x hx,hx⟩⟩
  have NLm:NL xs H4 p2:=⟨ms,hp2',(),(),λx hx=>⟨hdn x hx,hdo x hx⟩⟩
  refine⟨_,rfl,_,rfl,_,rfl,a,5,_,rfl,hH4,(),⋯,⋯,λmo' H5 mo0 mo5 hH5 k45=>?_⟩
  obtain⟨mo,rfl⟩:∃mo:Nat,mo'=(mo:Int):=⟨mo'.toNat,()⟩
  have mo30:mo<=30:=()
  have hp15:=k45 _ _ np1 hp1'
  refine⟨a,p1,_,mo,hs,rfl,hH5,(),hp15,np1,(),(),htd,htn,mo30,λvt ps H6 rt hpw hpg hH6 k6=>?_⟩
  have hp16:=k6 _ _ np1 hp15
  refine⟨_,rfl,_,rfl,a,_,hH6,(), .inl ⟨p1,_,rfl,np1,SqL.of hp16,by rw[D0];lia,by rw[D0];lia,λvg H7 hvg hH7 k7=>?_⟩⟩
  obtain⟨g,hg,rfl⟩:=X1.mp hvg
  have hp17:=k7 _ _ np1 hp16
  have rt7:=rt.mono (.keep k7 hH6 hH7)
  refine⟨_,rfl,p1,hs,rfl,SqL.of hp17,(),htd,λhs' l hperm hrise hl=>⟨l,_,rfl, .inl ⟨SqL.of zc,λpr hpr=>?_⟩⟩⟩
  have S8:Same H7 (upd (upd H7 l (.lst (hs'.map V.str))) pr (.tup (hs'.map V.str))):=(Same.new hl).trans (Same.new hpr)
  have hpr8:(upd (upd H7 l (.lst (hs'.map V.str))) pr (.tup (hs'.map V.str))) pr=some (.tup (hs'.map V.str)):=zc
  have hH8:=hH7.same S8
  have rt8:=rt7.same S8
  have npr:pr≠a:=(hH7.new hl).ne hpr
  have k48:Keep a H4 (upd (upd H7 l (.lst (hs'.map V.str))) pr (.tup (hs'.map V.str))):=((k45.trans k6).trans k7).trans (Keep.of S8)
  have hlen':hs'.length=m:=by rw[hperm.length_eq];exact hth
  generalize (upd (upd H7 l (HO.lst (hs'.map V.str))) pr (HO.tup (hs'.map V.str)))=H8 at *
  have NLn8:=NLn.keep k48 nln
  have NLm8:=NLm.keep k48 np2
  refine⟨_,rfl,pr,rfl,⟨_, .inl (.inl hpr8)⟩,?_⟩
  refine zhg (a:=a) (m:=n+300) (c:=400) (Pd:=λ_ d=>zN d=true/\zcB xs d=true/\∃es,d= .tup es/\es.length<=12) (σr:=[some (.ref a),some (.ref p2),some (.ref ln)]) (zbk (K:=K) (xs:=hs'.map V.str)) (λH' k=> .inl (.inl (k _ _ npr hpr8))) rfl (hH8.mono ()) (by rw[D0];lia) ⋯ (λi x H9 Q1 hi hH9 k9 q1=>?_) (λl1 vl lks H9 hl1 hl1' rl hll pl9 hH9 k9=>?_)
  ·rw[D0] at hi
   exact⟨_,rfl,_,rfl,_,rfl,a,ln,p2,_,xs,rfl,hH9,(),NLn8.keep k9 nln,NLm8.keep k9 np2,nln,np2,λv ds H10 rv hds hg10 hH10 k10=>q1 v _ H10 rv (zjf rfl hds hg10) hH10 k10⟩
  refine⟨l1,vl,rfl, .inl ⟨SqL.of hl1',λpA hpA=>?_⟩⟩
  rw[D0] at hll hH9
  have SA:=Same.new (o:= .tup vl) hpA
  have rlA:Rep (upd H9 pA (.tup vl)) (.ref pA) (.tup lks):= .mkL zc () (rl.mono (.new hpA))
  have hHA:=hH9.new (o:= .tup vl) hpA
  have k8A:Keep a H8 (upd H9 pA (.tup vl)):=k9.trans (Keep.of SA)
  generalize (upd H9 pA (HO.tup vl))=HA at *
  have hprA:=k8A _ _ npr hpr8
  refine⟨_,rfl,pr,rfl,⟨_, .inl (.inl hprA)⟩,?_⟩
  refine zhg (a:=a) (m:=n+300+400*hs'.length) (c:=400) (Pd:=λ_ d=>z7 d=true/\zcB xs d=true/\∃es,d= .tup es/\es.length<=12) (σr:=[some (.ref a),some (.ref p2),some (.ref ln)]) (zbk (K:=K) (xs:=hs'.map V.str)) (λH' k=> .inl (.inl (k _ _ npr hprA))) rfl hHA (by rw[D0];lia) ⋯ (λi x HB Q1 hi hHB kB q1=>?_) (λl2 va hds HB hl2 hl2' ra hla plB hHB kB=>?_)
  ·rw[D0] at hi
   exact⟨_,rfl,_,rfl,_,rfl,a,ln,p2,_,xs,rfl,hHB,(),(NLn8.keep k8A nln).keep kB nln,(NLm8.keep k8A np2).keep kB np2,nln,np2,λv ds H10 rv hds hg10 hH10 k10=>q1 v _ H10 rv (zlZ rfl hds hg10) hH10 k10⟩
  refine⟨l2,va,rfl, .inl ⟨SqL.of hl2',λpB hpB=>?_⟩⟩
  rw[D0] at hla hHB
  have SB:=Same.new (o:= .tup va) hpB
  have mAB:Mono HA (upd HB pB (.tup va)):=(Mono.keep kB hHA hHB).trans (.of SB)
  have raB:Rep (upd HB pB (.tup va)) (.ref pB) (.tup hds):= .mkL zc () (ra.mono (.new hpB))
  have kAB:Keep a HA (upd HB pB (.tup va)):=kB.trans (Keep.of SB)
  have hHB':=hHB.new (o:= .tup va) hpB
  have rlB:=rlA.mono mAB
  have rtB:=(rt8.mono (.keep k8A hH8 hHA)).mono mAB
  have hprB:=kAB _ _ npr hprA
  refine⟨_,rfl,_,rfl,_,rfl,_,rfl,_,rfl,few rfl,λpT hpT=>?_⟩
  have rr:Rep (upd HB pB (.tup va)) (.ref pr) (.tup (hs'.map D.str)):=by
   refine .mkL hprB (by rw[D0];lia) ⟨by rw[D0,D0],λi v d e1 e2=>?_⟩
   rw[V0] at e1 e2
   cases e3:hs'[i]? with
   |none=>rw[e3] at e1;cases e1
   |some x=>
    rw[e3] at e1 e2
    cases e1
    cases e2
    exact .str x (zX (htn x (hperm.mem_iff.mp (Z0 e3))))
  have ST:=Mono.new (o:= .tup [.str g, .ref pr,vt, .ref pA, .ref pB]) hpT
  have rtown:=Rep.mkL (H:=upd (upd HB pB (.tup va)) pT (.tup [.str g, .ref pr,vt, .ref pA, .ref pB])) (p:=pT) (vs:=[.str g, .ref pr,vt, .ref pA, .ref pB]) (ds:=[.str g, .tup (hs'.map D.str), .tup (ps.map pairD), .tup lks, .tup hds]) zc (J1 rfl) (.cons (.str g (zX (htn g hg))) (.cons (rr.mono ST) (.cons (rtB.mono ST) (.cons (rlB.mono ST) (.cons (raB.mono ST) .nil)))))
  have pl9':=zit (P:=λd=>zN d=true/\zcB xs d=true/\∃es,d= .tup es/\es.length<=12) pl9
  have plB':=zit (P:=λd=>z7 d=true/\zcB xs d=true/\∃es,d= .tup es/\es.length<=12) plB
  refine q _ g hs' ps lks hds _ rtown ⟨hrise,(),(),λx hx=>htn x (hperm.mem_iff.mp hx),hperm.mem_iff.mpr hg,hpw,λp hp=>?_,(),(),λd hd=>(pl9' d hd).1,λd hd=>(plB' d hd).1⟩ (λx hx=>htw x (hperm.mem_iff.mp hx)) ⟨xs,⟨(),hxn,λx hx=>hto x (hperm.mem_iff.mp hx),λd hd=>(pl9' d hd).2.1,λd hd=>(plB' d hd).2.1⟩⟩ (λd hd=>(pl9' d hd).2.2) (λd hd=>(plB' d hd).2.2) ((hHB'.new hpT).mono ()) (((kp4.trans k48).trans (k8A.trans kAB)).trans (Keep.new hpT))
  obtain⟨h1,h2,h3⟩:=hpg p hp
  exact⟨hperm.mem_iff.mpr h1,hperm.mem_iff.mpr h2,h3⟩
theorem zfj{k:Nat}{c:D->Bool}{g:List Str->List Str->Option Str->D->Bool}(Y:Ev K mg)(G_holds:FnOk P w K mg base CX0 k Y.a_holds Y.d_holds zeh (zf4 c g))(c':D->Bool)(g':List Str->List Str->Option Str->D->Bool)
 (hc:∀d,c' d=true->∃x e,d= .tup [.str x,e]) (h1:∀ws ms to x e,c' (.tup [.str x,e])=true->x="not"->c e=true/\(!g ws ms to e)=g' ws ms to (.tup [.str x,e]))
 (h2:∀x e,c' (.tup [.str x,e])=true->¬x="not"->zE (.tup [.str x,e])=true/\∀ws ms to,phB ws ms to x e=g' ws ms to (.tup [.str x,e])):
 FnOk P w K mg base CX0 (k+1) Y.a_holds Y.d_holds zeh (zf4 c' g'):=by
 refine Y.holds.fn.okQ zhG (λvs H Q E h=>?_) `W3
 ·obtain ⟨v,d,pw,pm,vt,ws,ms,to,rfl,_⟩:=h;rfl
 ·obtain ⟨v,d,pw,pm,vt,ws,ms,to,rfl,hd,hcd,hpw,hpm,hto,nw,nm,w1,lw,lm,q⟩:=h
  obtain⟨x,e,rfl⟩:=hc d hcd
  obtain⟨p,v0,v1,rfl,hp,r0,r1⟩:=hd.of2
  cases r0 with
  |str _ hx=>
  refine⟨_,(zf (zcg (qv 0) (zcv 2 rfl (zt (zo 4 zhG.nd) (zt (zo 5 zhG.nd) zaA))))
   (zf (zae (zK zac (qv 4) zu) (zi (zr (zma (zh G_holds hr Y.holds.mg Y.holds.kp Y.holds.b .nil zk (za (qv 5) (za (qv 1) (za (qv 2) (za (qv 3) zb)))))))) zO)
   (zf (zae (zK zac (qv 4) zu) (zi (zr (zaY zaW (qv 5) (qv 1)))) zO)
   (zf (zae (zK zac (qv 4) zu) (zi (zr (zbf (zaY zmn (zv z8 Y.len za0 (za (qv 1) zb)) zg) (zbv (zaY zac (zM zw (qv 1) zg) (qv 5)))))) zO)
   (zf (zae (zK zac (qv 4) zu) (zi (zr (zaY zac (qv 3) (qv 5)))) zO)
   (zf (zae (zK zac (qv 4) zu) (zi (zr (zaY zaW (qv 5) (qv 2)))) zO)
   (zi (zr (zaY zuy (zF zqU (zv z8 Y.len za0 (za (qv 1) zb)) zg) (qv 5)))))))))),?_⟩
  refine⟨_,rfl,p,_,rfl, .inl (.inl hp),rfl,_,_,rfl,_,_,rfl,rfl,?_⟩
  refine⟨_,rfl,rfl,_,rfl,zat (λel=>?_) (λel=>?_)⟩
  ·obtain ⟨ce,ge⟩:=h1 ws ms to x e hcd (V.str.inj (O0 el))
   refine⟨_,rfl,_,rfl,_,rfl,_,rfl,v1,e,pw,pm,vt,ws,ms,to,rfl,r1,ce,hpw,hpm,hto,nw,nm,w1,lw,lm,λH' s'=>⟨_,rfl,?_⟩⟩
   have q:=q H' s'
   rw[←ge] at q
   exact q
  have q:=q H (Same.refl H)
  obtain⟨hpl,ge⟩:=h2 x e hcd λz=>el (P0 (by rw[z]))
  rw[←ge ws ms to] at q
  have bad:∀{y z:Str},y=z->¬decide (V.str y=V.str z)=true->False:=λe h=>h (by rw[e];exact P0 rfl)
  refine⟨_,rfl,rfl,_,rfl,zat (λe1=>?_) (λe1=>?_)⟩
  ·have e1:=V.str.inj (O0 e1)
   subst e1
   rcases zbh hpl with⟨z,_⟩|⟨_,y,rfl,ny⟩
   ·exact absurd z `Y3
   cases r1 with|str _ _=>
   rw[zwN,←zed] at q
   exact⟨_,rfl,_,rfl,pw,_,rfl, .inr (.inl (.inl hpw)),rfl,zbV,q⟩
  refine⟨_,rfl,rfl,_,rfl,zat (λe2=>?_) (λe2=>?_)⟩
  ·have e2:=V.str.inj (O0 e2)
   subst e2
   rcases zbh hpl with⟨z,_⟩|⟨_,y,rfl,ny⟩
   ·exact absurd z `Y3
   cases r1 with|str _ _=>
   rw[zs7] at q
   refine⟨_,rfl, .inl ⟨pw,_,rfl, .inr (.inl (.inl hpw)),_,_,rfl,rfl,_,rfl,?_⟩⟩
   match ws,hpw,q with
   |[],hpw,q=>exact za3 rfl q
   |[a],hpw,q=>exact za3 rfl q
   |a::b::r,hpw,q=>
    refine zcl (P0 (by rw[D0,L1,L1];lia)) ?_
    refine⟨_,rfl,pw,_,1,_,rfl,rfl, .inl (.inl hpw),at1,_,rfl,rfl,?_⟩
    rw[zav]
    have eb:decide ((a::b::r)[1]?=some y)=decide (b=y):=by
     rw[B3,J2,J2];simp
    rw[eb] at q
    exact q
  refine⟨_,rfl,rfl,_,rfl,zat (λe3=>?_) (λe3=>?_)⟩
  ·have e3:=V.str.inj (O0 e3)
   subst e3
   rcases zbh hpl with⟨z,_⟩|⟨_,y,rfl,ny⟩
   ·exact absurd z `Y3
   cases r1 with|str _ _=>
   obtain⟨hsc,hde⟩:=hto.eq (y:=y)
   rw[zwt,←hde] at q
   exact⟨_,rfl,_,rfl,hsc,q⟩
  refine⟨_,rfl,rfl,_,rfl,zat (λe4=>?_) (λe4=>?_)⟩
  ·have e4:=V.str.inj (O0 e4)
   subst e4
   rcases zbh hpl with⟨z,_⟩|⟨_,y,rfl,ny⟩
   ·exact absurd z `Y3
   cases r1 with|str _ _=>
   rw[ztG,←zed] at q
   exact⟨_,rfl,_,rfl,pm,_,rfl, .inr (.inl (.inl hpm)),rfl,zbV,q⟩
  rcases zbh hpl with⟨rfl,i,rfl,i0,i9⟩|⟨hn,y,rfl,ny⟩
  ·cases r1 with|int _=>
   rw[zuc] at q
   refine⟨_,rfl, .inl ⟨pw,_,rfl, .inr (.inl (.inl hpw)),_,_,rfl,rfl,_,rfl,_,_,rfl,rfl,?_⟩⟩
   have eb:decide (i<=((ws.map V.str).length:Int) -1)=decide (i<(ws.length:Int)):=by
    rw[B3,J2,J2,D0];lia
   rw[←eb] at q
   exact q
  ·rcases zf3 hn with z|z|z|z
   ·exact (bad z e1).elim
   ·exact (bad z e2).elim
   ·exact (bad z e3).elim
   ·exact (bad z e4).elim
theorem zpB(Y:Ev K mg):FnOk P w K mg base CX0 1 Y.a_holds Y.d_holds zeh (zf4 (λ_=>false) (λ_ _ _ _=>false)):=by
 refine Y.holds.fn.okQ zhG (λvs H Q E h=>?_) `W3
 ·obtain ⟨v,d,_,_,_,_,_,_,rfl,_,z,_⟩:=h;cases z
 ·obtain ⟨v,d,_,_,_,_,_,_,rfl,_,z,_⟩:=h;cases z
theorem zqq(Y:Ev K mg):FnOk P w K mg base CX0 3 Y.a_holds Y.d_holds zeh (zf4 zD zdX):=by
 refine zfj (c:=zE) (g:=zgL) Y ?_ zD zdX ze6 ?_ ?_
 ·refine zfj Y (zpB Y) zE zgL zbb ?_ ?_
  ·intro ws ms to x e h z
   subst z
   exact absurd h (by rw[zdR];exact K1)
  ·exact λx e h _=>⟨h,λ_ _ _=>rfl⟩
 ·intro ws ms to x e h z
  subst z
  rw[zdW,R0 rfl] at h
  exact⟨h,by show(!zgL ws ms to e)=(if("not":Str)="not"then !zgL ws ms to e else phB ws ms to "not" e);rw[R0 rfl]⟩
 ·intro x e h z
  rw[zdW,N0 z] at h
  exact⟨h,λws ms to=>by show phB ws ms to x e=(if x="not"then !zgL ws ms to e else phB ws ms to x e);rw[N0 z]⟩
theorem zhf(Y:Ev K mg):FnOk P w K mg base CX0 4 Y.a_all_hold Y.d_all_hold zc6 znJ:=by
 have G_holds:FnOk P w K mg base CX0 3 Y.a_holds Y.d_holds zeh (zf4 zD zdX):=zqq Y
 refine Y.all_hold.fn.okQ zhV (λvs H Q E h=>?_) `W3
 ·obtain ⟨v,cs,pw,pm,vt,ws,ms,to,rfl,_⟩:=h;rfl
 ·obtain ⟨v,cs,pw,pm,vt,ws,ms,to,rfl,hd,hcs,hpw,hpm,hto,nw,nm,w1,lw,lm,q⟩:=h
  obtain⟨pc,uc,rfl,hpc,rc,_⟩:=hd.ofT
  refine⟨_,(zf (zcZ O3 rfl (zcX (qv 0)) (zo 4 zhV.nd) (zi (zae (zcd (zbM (zh G_holds `U3 Y.holds.mg Y.holds.kp Y.holds.b .nil zk (za (qv 4) (za (qv 1) (za (qv 2) (za (qv 3) zb))))))) (zi (zr zgc)) zO)))
   (zi (zr zgc))),?_⟩
  refine⟨_,rfl,pc,rfl,⟨_, .inl (.inl hpc)⟩,?_⟩
  refine zbe (zbk (K:=K) (xs:=uc)) (λi σ' H'=>(∃o4,σ'=[some (.ref pc),some (.ref pw),some (.ref pm),some vt,o4])/\(cs.take i).all (zdX ws ms to)=true/\Same H H') ⟨⟨_,rfl⟩,rfl,Same.refl _⟩ (λi σ' H' z=> .inl (.inl (z.2.2 _ _ hpc))) ?_ ?_
  ·rintro i y σ' H1 hi hy ⟨⟨o4,rfl⟩,ha,s1⟩
   obtain⟨c,hc,rcc⟩:=rc.get hy
   have hcm:=Z0 hc
   have tk:(cs.take (i+1)).all (zdX ws ms to)=((cs.take i).all (zdX ws ms to)&&zdX ws ms to c):=by
    rw[N3,hc,List.all_append];simp
   refine⟨_,rfl,_,rfl,_,rfl,_,rfl,y,c,pw,pm,vt,ws,ms,to,rfl,rcc.same s1,hcs c hcm,s1 _ _ hpw,s1 _ _ hpm,hto,nw,nm,w1,lw,lm,λH2 s2=>⟨_,rfl,?_⟩⟩
   cases hb:zdX ws ms to c with
   |false=>
    have e:zgQ ws ms to cs=false:=List.all_eq_false.mpr ⟨c,hcm,by rw[hb];decide⟩
    have q:=q H2 (s1.trans s2)
    rw[e] at q
    exact zcl rfl q
   |true=>exact za3 rfl ⟨⟨_,rfl⟩,by rw[tk,ha,hb];rfl,s1.trans s2⟩
  ·rintro σ' H1 ⟨⟨o4,rfl⟩,ha,s1⟩
   rw[rc.1,List.take_length] at ha
   have q:=q H1 s1
   have e:zgQ ws ms to cs=true:=ha
   rw[e] at q
   exact q
theorem zi8(Y:Ev K mg):FnOk P w K mg base CX0 1 Y.a_likings_of Y.d_likings_of zcy zv9:=by
 refine Y.likings_of.fn.okQ zk5 (λvs H Q E h=>?_) `W3
 ·obtain ⟨v,x,g,hs,ps,lks,hds,j,rfl,_⟩:=h;rfl
 ·obtain ⟨v,x,g,hs,ps,lks,hds,j,rfl,hv,T,hj,q⟩:=h
  obtain⟨p,pr,pt,pl,pa,vt,vl,va,rfl,hp,hpr,hpt,rt,hpl,rl,hpa,ra⟩:=zbm hv
  have hjl:j<hs.length:=by
   rcases D2 j hs.length with y|y
   ·exact y
   ·rw[W0 y] at hj;cases hj
  have hjk:j<lks.length:=by rw[T.ll];exact hjl
  have hjv:j<vl.length:=by rw[rl.1];exact hjk
  refine⟨_,(zi (zr (zM zw (zM zw (qv 0) zg) (zgO F.plainAttrs_tuple F.slot_tuple_index F.type_tuple_index ze7 (zM zw (qv 0) zg) (za (qv 1) zb))))),?_⟩
  refine⟨_,rfl,p,_,3,_,rfl,rfl, .inl (.inl hp),zZ (j:=3) rfl,?_⟩
  refine⟨_,rfl,p,_,1,_,rfl,rfl, .inl (.inl hp),zZ (j:=1) rfl,?_⟩
  refine⟨.inr (.inr (.inr (.inr ⟨rfl,_,hpr⟩))),_,rfl,pr,hs,x,j,rfl,rfl, .inl (.inl hpr),hj,zgb T.hs_nd hj,?_⟩
  exact⟨pl,_,_,vl[j],rfl,rfl, .inl (.inl hpl),zZ (by simp[hjv]),q _ lks[j] (F0 hjk) (rl.2 j _ _ (F0 hjv) (F0 hjk))⟩
theorem zmM(Y:Ev K mg):FnOk P w K mg base CX0 5 Y.a_worth Y.d_worth zgf zks:=by
 have G_all_hold:FnOk P w K mg base CX0 4 Y.a_all_hold Y.d_all_hold zc6 znJ:=zhf Y
 have G_likings_of:FnOk P w K mg base CX0 1 Y.a_likings_of Y.d_likings_of zcy zv9:=zi8 Y
 refine Y.worth.fn.okQ zkA (λvs H Q E h=>?_) `W3
 ·obtain ⟨v,pw,pm,x,ws,ms,g,hs,ps,lks,hds,j,rs,rfl,_⟩:=h;rfl
 ·obtain ⟨v,pw,pm,x,ws,ms,g,hs,ps,lks,hds,j,rs,rfl,hv,T,hj,hlj,hpw,hpm,nw,nm,lw,lm,q⟩:=h
  have hlk:rs.length<=90/\∀r∈rs,zC r=true:=by
   have h:=T.likes _ (Z0 hlj)
   have h:(decide (rs.length<=90)&&rs.all zC)=true:=h
   rw[X0] at h
   exact⟨O0 h.1,N2.mp h.2⟩
  refine⟨_,(zf (zcZ O3 rfl (zcX (zh G_likings_of `U3 Y.likings_of.mg Y.likings_of.kp Y.likings_of.b .nil zk (za (qv 0) (za (zM zw (qv 1) zg) zb)))) (zcv 2 rfl (zt (zo 3 zkA.nd) (zt (zo 4 zkA.nd) zaA))) (zi (zae (zbM (zh G_all_hold `U3 Y.all_hold.mg Y.all_hold.kp Y.all_hold.bd (.cons (a:=V.non) rfl .nil) zk (za (qv 3) (za (qv 1) (za (qv 2) zb))))) (zi (zr (qv 4))) zO)))
   (zi (zr zg))),?_⟩
  refine⟨_,rfl,_,rfl,pw,_,0,_,rfl,rfl, .inl (.inl hpw),at0,v,x,g,hs,ps,lks,hds,j,rfl,hv,T,hj,λvr d hd rd=>?_⟩
  rw[hlj] at hd
  cases hd
  obtain⟨pq,us,rfl,hpq,ru,_⟩:=rd.ofT
  refine⟨pq,rfl,⟨_, .inl (.inl hpq)⟩,?_⟩
  refine zbe (zbk (K:=K) (xs:=us)) (λi σ' H'=>(∃o3 o4,σ'=[some v,some (.ref pw),some (.ref pm),o3,o4])/\zW (x::ws) ms rs=zW (x::ws) ms (rs.drop i)/\Same H H') ⟨⟨_,_,rfl⟩,rfl,Same.refl _⟩ (λi σ' H' z=> .inl (.inl (z.2.2 _ _ hpq))) ?_ ?_
  ·rintro i y σ' H1 hi hy ⟨⟨o3,o4,rfl⟩,hw,s1⟩
   obtain⟨r,hr',rr⟩:=ru.get hy
   obtain⟨cs,t,rfl,c4,hcs,ht⟩:=zkb (hlk.2 r (Z0 hr'))
   obtain⟨q0,v0,v1,rfl,hq0,r0,r1⟩:=(rr.same s1).of2
   refine⟨q0,_,rfl, .inl (.inl hq0),rfl,_,_,rfl,_,_,rfl,rfl,?_⟩
   refine⟨_,rfl,_,rfl,_,rfl,v0,cs,pw,pm, .non,x::ws,ms,none,rfl,r0,hcs,s1 _ _ hpw,s1 _ _ hpm, .inl ⟨rfl,rfl⟩,nw,nm,`Z3,by simp;lia,lm,λH2 s2=>⟨_,rfl,?_⟩⟩
   rw[zoA hr',zW] at hw
   have er:zgQ (x::ws) ms none (zjC (.tup [.tup cs,t]))=zgQ (x::ws) ms none cs:=rfl
   rw[er] at hw
   cases hb:zgQ (x::ws) ms none cs with
   |true=>
    rw[hb,R0 rfl] at hw
    exact zcl rfl ⟨_,rfl,q _ H2 (by rw[hw];exact r1.same s2) (s1.trans s2)⟩
   |false=>
    rw[hb,N0 ⋯] at hw
    exact za3 rfl ⟨⟨_,_,rfl⟩,hw,s1.trans s2⟩
  ·rintro σ' H1 ⟨⟨o3,o4,rfl⟩,hw,s1⟩
   rw[ru.1,List.drop_length,zW] at hw
   exact q _ H1 (by rw[hw];exact .int 0) s1
theorem zmL(Y:Ev K mg):FnOk P w K mg base CX0 1 Y.a_hands_of Y.d_hands_of zdY zwa:=by
 refine Y.hands_of.fn.okQ znD (λvs H Q E h=>?_) `W3
 ·obtain ⟨v,x,g,hs,ps,lks,hds,j,rfl,_⟩:=h;rfl
 ·obtain ⟨v,x,g,hs,ps,lks,hds,j,rfl,hv,T,hj,q⟩:=h
  obtain⟨p,pr,pt,pl,pa,vt,vl,va,rfl,hp,hpr,hpt,rt,hpl,rl,hpa,ra⟩:=zbm hv
  have hjl:j<hs.length:=by
   rcases D2 j hs.length with y|y
   ·exact y
   ·rw[W0 y] at hj;cases hj
  have hjk:j<hds.length:=by rw[T.lh];exact hjl
  have hjv:j<va.length:=by rw[ra.1];exact hjk
  refine⟨_,(zi (zr (zM zw (zM zw (qv 0) zg) (zgO F.plainAttrs_tuple F.slot_tuple_index F.type_tuple_index ze7 (zM zw (qv 0) zg) (za (qv 1) zb))))),?_⟩
  refine⟨_,rfl,p,_,4,_,rfl,rfl, .inl (.inl hp),zZ (j:=4) rfl,?_⟩
  refine⟨_,rfl,p,_,1,_,rfl,rfl, .inl (.inl hp),zZ (j:=1) rfl,?_⟩
  refine⟨.inr (.inr (.inr (.inr ⟨rfl,_,hpr⟩))),_,rfl,pr,hs,x,j,rfl,rfl, .inl (.inl hpr),hj,zgb T.hs_nd hj,?_⟩
  exact⟨pa,_,_,va[j],rfl,rfl, .inl (.inl hpa),zZ (by simp[hjv]),q _ hds[j] (F0 hjk) (ra.2 j _ _ (F0 hjv) (F0 hjk))⟩
theorem zht(Y:Ev K mg):FnOk P w K mg base CX0 1 Y.a_marks_behind Y.d_marks_behind zbt zjD:=by
 refine Y.marks_behind.fn.okQ zbx (λvs H Q E h=>?_) `W3
 ·obtain ⟨pm,v,t,w',m,rfl,_⟩:=h;rfl
 ·obtain ⟨pm,v,t,w',m,rfl,hpm,hv,tn,mn,l13,q⟩:=h
  obtain⟨pa,v0,v1,rfl,hpa,r0,r1⟩:=hv.of2
  cases r0 with|str _ _=>
  cases r1 with|str _ _=>
  refine⟨_,(zf (zcg (qv 1) (zcv 2 rfl (zt (zo 2 zbx.nd) (zt (zo1 3 zbx.nd) zaA))))
   (zf (zgI 4 (src:=[none,some 3]) zdF rfl rfl zbx.nd (zcX (qv 0)) (λ_ _ _ _ _=>(zo 0 zdF.nd)) (λ_ _ _ _ _=>(zob (zK zou (qv 0) (qc 1)))) (λ_ _ _ _ _=>(qv 0)))
   (zf (zae (zK zac (qv 2) zu) (zi (zaZ (zgO F.plainAttrs_list F.slot_list_append F.type_list_append zbQ (qv 4) (za (qc 3) zb)))) zO)
   (zi (zr (zaj zS Y.tuple zaK (za (zv zcG Y.sorted zcU (za (qv 4) zb)) zb))))))),?_⟩
  refine⟨_,rfl,pa,_,rfl, .inl (.inl hpa),rfl,_,_,rfl,_,_,rfl,rfl,?_⟩
  refine⟨_,rfl,pm,rfl,⟨_, .inl (.inl hpm)⟩,?_⟩
  refine zt8 (g:=neD m) (f:=λd=>d) (σr:=[some (.str m)]) (zbk (K:=K)) (λH' s'=> .inl (.inl (s' _ _ hpm))) (zlK λy hy=>zX (tn y hy)) (by rw[D0];lia) rfl ?_ (λx d HA sA rx hd=>zdy rfl rx) λl1 us H1 s1 hl1 e1 r1=>?_
  ·intro z d HA Q1 sA rz hd q1
   obtain⟨b,_,rfl⟩:=X1.mp hd
   cases rz with|str _ _=>
   refine⟨_,rfl,_,rfl,rfl,_,rfl,?_⟩
   rw[zav]
   exact q1 HA (Same.refl _)
  rw[zuX] at r1
  have eus:=zo7 r1
  subst eus
  have lf:=List.length_filter_le (λx=>!decide (x=m)) t
  dsimp only[zbH]
  have fin:∀(H2:Hp),H2 l1=some (.lst ((zaE t w' m).map V.str))->Same H H2->∀(ss:List Str) (l2:Addr),ss.Perm (zaE t w' m)->sortedS ss=true->H2 l2=none->∃p ys,[V.ref l2]=[.ref p]/\((SqL K (upd H2 l2 (.lst (ss.map V.str))) p ys/\∀l,upd H2 l2 (.lst (ss.map V.str)) l=none->Q (.ref l) (upd (upd H2 l2 (.lst (ss.map V.str))) l (.tup ys)))\/(SqT K (upd H2 l2 (.lst (ss.map V.str))) p ys/\Q (.ref p) (upd H2 l2 (.lst (ss.map V.str))))):=λH2 e2 s2 ss l2 hp2 hs2 hl2=>⟨l2,_,rfl, .inl ⟨SqL.of zc,λp hp=>by
   have es:=ztc hp2 hs2
   subst es
   exact q p _ zc ((s2.trans (Same.new hl2)).trans (Same.new hp))⟩⟩
  refine⟨_,rfl,rfl,_,rfl,zat (λe=>?_) (λe=>?_)⟩
  ·have ew:=V.str.inj (O0 e)
   have eb:zaE t w' m=t.filter (λx=>!decide (x=m))++ [m]:=by unfold zaE;rw[R0 ew]
   refine⟨_,rfl, .inl ⟨rfl,_,SqL.of e1⟩,_,rfl,l1,_,_,rfl,rfl,e1,zp (by rw[D0];lia),?_⟩
   have e2:(upd H1 l1 (.lst ((t.filter λx=>!decide (x=m)).map V.str ++ [V.str m]))) l1=some (.lst ((zaE t w' m).map V.str)):=by rw[zc,eb,List.map_append];rfl
   have s2:Same H (upd H1 l1 (.lst ((t.filter λx=>!decide (x=m)).map V.str ++ [V.str m]))):=λc o z=>by rw[ze (zj z hl1)];exact s1 _ _ z
   generalize (upd H1 l1 (HO.lst ((t.filter λx=>!decide (x=m)).map V.str ++ [V.str m])))=H2 at *
   exact⟨_,rfl,l1,zaE t w' m,rfl, .inl (SqL.of e2),by rw[eb,b0,List.length_singleton];lia,fin H2 e2 s2⟩
  ·have ew:¬w'="put":=λz=>e (P0 (by rw[z]))
   have eb:zaE t w' m=t.filter (λx=>!decide (x=m)):=by unfold zaE;rw[N0 ew,List.append_nil]
   have e2:H1 l1=some (.lst ((zaE t w' m).map V.str)):=by rw[eb];exact e1
   exact⟨_,rfl,l1,zaE t w' m,rfl, .inl (SqL.of e2),by rw[eb];lia,fin H1 e2 s1⟩
theorem zm9(Y:Ev K mg):FnOk P w K mg base CX0 5 Y.a_handed Y.d_handed zgq zjJ:=by
 have G_all_hold:FnOk P w K mg base CX0 4 Y.a_all_hold Y.d_all_hold zc6 znJ:=zhf Y
 have G_hands_of:FnOk P w K mg base CX0 1 Y.a_hands_of Y.d_hands_of zdY zwa:=zmL Y
 have G_marks_behind:FnOk P w K mg base CX0 1 Y.a_marks_behind Y.d_marks_behind zbt zjD:=zht Y
 refine Y.handed.fn.okQ zeI (λvs H Q E h=>?_) `W3
 ·obtain ⟨v,pw,pm,vt,x,ws,ms,to,g,hs,ps,lks,hds,j,rs,Pr,rfl,_⟩:=h;rfl
 ·obtain ⟨v,pw,pm,vt,x,ws,ms,to,g,hs,ps,lks,hds,j,rs,Pr,rfl,hv,T,hj,hdj,HO',MS,M0,hpw,hpm,hto,nw,lw,q⟩:=h
  refine⟨_,(zf (zx 4 zeI.nd (qv 2))
   (zf (zcZ O3 rfl (zcX (zh G_hands_of `U3 Y.hands_of.mg Y.hands_of.kp Y.hands_of.b .nil zk (za (qv 0) (za (zM zw (qv 1) zg) zb)))) (zcv 2 rfl (zt (zo 5 zeI.nd) (zt (zo 6 zeI.nd) zaA))) (zf (zae (zcd (zbM (zh G_all_hold `U3 Y.all_hold.mg Y.all_hold.kp Y.all_hold.b .nil zk (za (qv 5) (za (qv 1) (za (qv 4) (za (qv 3) zb))))))) (zi zsv) zO)
   (zf (zae (zK zac (zM zw (qv 6) zg) zu) (zi (zr zcj)) zO)
   (zi (zx 4 zeI.nd (zh G_marks_behind `U3 Y.marks_behind.mg Y.marks_behind.kp Y.marks_behind.b .nil zk (za (qv 4) (za (qv 6) zb))))))))
   (zi (zr (qv 4))))),?_⟩
  refine⟨_,rfl,?_⟩
  refine⟨_,rfl,_,rfl,pw,_,0,_,rfl,rfl, .inl (.inl hpw),at0,v,x,g,hs,ps,lks,hds,j,rfl,hv,T,hj,λvr d hd rd=>?_⟩
  rw[hdj] at hd
  cases hd
  obtain⟨pq,us,rfl,hpq,ru,_⟩:=rd.ofT
  refine⟨pq,rfl,⟨_, .inl (.inl hpq)⟩,?_⟩
  refine zbe (zbk (K:=K) (xs:=us)) (λi σ' H'=>(∃pt t o5 o6,σ'=[some v,some (.ref pw),some (.ref pm),some vt,some (.ref pt),o5,o6]/\H' pt=some (.tup (t.map V.str))/\Pr i t/\zP (x::ws) to rs ms=zP (x::ws) to (rs.drop i) t)/\Same H H') ⟨⟨pm,ms,_,_,rfl,hpm,M0,rfl⟩,Same.refl _⟩ (λi σ' H' z=> .inl (.inl (z.2 _ _ hpq))) ?_ ?_
  ·rintro i y σ' H1 hi hy ⟨⟨pt,t,o5,o6,rfl,hpt,Mt,he⟩,s1⟩
   obtain⟨r,hr',rr⟩:=ru.get hy
   obtain⟨cs,xa,rfl,hcs,hx⟩:=HO'.2 r (Z0 hr')
   obtain⟨q0,v0,v1,rfl,hq0,r0,r1⟩:=(rr.same s1).of2
   have lu:=ru.1
   obtain⟨tn,tl⟩:=MS.ok i t () Mt
   refine⟨q0,_,rfl, .inl (.inl hq0),rfl,_,_,rfl,_,_,rfl,rfl,?_⟩
   refine⟨_,rfl,_,rfl,_,rfl,_,rfl,v0,cs,pw,pt,vt,x::ws,t,to,rfl,r0,hcs,s1 _ _ hpw,hpt,hto,nw,tn,`Z3,by simp;lia,Y1 tl ⋯,λH2 s2=>⟨_,rfl,?_⟩⟩
   rw[zoA hr',zP] at he
   have er:zgQ (x::ws) t to (zjC (.tup [.tup cs,xa]))=zgQ (x::ws) t to cs:=rfl
   have et:zrz (.tup [.tup cs,xa])=xa:=rfl
   rw[er,et] at he
   cases hb:zgQ (x::ws) t to cs with
   |false=>
    rw[hb,N0 ⋯] at he
    exact zcl rfl ⟨⟨pt,t,_,_,rfl,s2 _ _ hpt,MS.skip i t Mt,he⟩,s1.trans s2⟩
   |true=>
    rw[hb,R0 rfl] at he
    refine za3 rfl ?_
    rcases hx with rfl|⟨w1,m1,rfl,hw1,hm1⟩
    ·obtain ⟨pa,ua,rfl,hpa,ra',_⟩:=(r1.same s2).ofT
     have la:ua.length=1:=ra'.1
     obtain⟨u0,rfl⟩:∃u0,ua=[u0]:=by
      match ua,la with
      |[u0],_=>exact ⟨u0,rfl⟩
     have h0:=ra'.head.1
     cases h0 with|str _ _=>
     refine⟨_,rfl,pa,_,0,_,rfl,rfl, .inl (.inl hpa),at0,rfl,_,rfl,zcl (by rw[P0 rfl]) ?_⟩
     exact q .non H2 (by rw[he];rfl) (s1.trans s2)
    ·obtain ⟨pa,z0,z1,rfl,hpa,rz0,rz1⟩:=(r1.same s2).of2
     cases rz0 with|str _ _=>
     have nk:decide (V.str w1=V.str "keep")=false:=by
      rw[zav]
      rcases hw1 with rfl|rfl<;>decide +kernel
     refine⟨_,rfl,pa,_,0,_,rfl,rfl, .inl (.inl hpa),at0,rfl,_,rfl,za3 nk ?_⟩
     refine⟨_,rfl,_,rfl,pt, .ref pa,t,w1,m1,rfl,s2 _ _ hpt,r1.same s2,tn,hm1,tl,λp3 H3 e3 s3=>?_⟩
     exact⟨⟨p3,_,_,_,rfl,e3,MS.next i t w1 m1 cs Mt hr',he⟩,(s1.trans s2).trans s3⟩
  ·rintro σ' H1 ⟨⟨pt,t,o5,o6,rfl,hpt,Mt,he⟩,s1⟩
   rw[ru.1,List.drop_length,zP] at he
   exact⟨_,rfl,q _ H1 (by rw[he];exact⟨pt,rfl,hpt⟩) s1⟩
noncomputable def zlf:Sp:=λvs H Q _=>∃(v:V) (x:Str) (g:Str) (hs:List Str) (ps:List (Str×Str)) (lks hds:List D),vs=[v, .str x]/\Rep H v (zag g hs ps lks hds)/\TownOk g hs ps lks hds/\∀(l:Addr) (ts:List Str) (H':Hp),H l=none->H' l=some (.lst (ts.map V.str))->ts.Perm (zbo ps x)->sortedS ts=true->Same H H'->Q (.ref l) H'
theorem zlm(Y:Ev K mg):FnOk P w K mg base CX0 1 Y.a_tied Y.d_tied zgS zlf:=by
 refine Y.tied.fn.okQ zrQ (λvs H Q E h=>?_) `W3
 ·obtain ⟨v,x,g,hs,ps,lks,hds,rfl,_⟩:=h;rfl
 ·obtain ⟨v,x,g,hs,ps,lks,hds,rfl,hv,T,q⟩:=h
  obtain⟨p,pr,pt,pl,pa,vt,vl,va,rfl,hp,hpr,hpt,rt,hpl,rl,hpa,ra⟩:=zbm hv
  have TP:=T.lp
  refine⟨_,(zf (zx 2 zrQ.nd (zM zw (qv 0) zg))
   (zi (zr (zv zcG Y.sorted zcU (za (zF zd0 (zcp (src:=[none,none,some 1]) zig rfl rfl (zcX (qv 2)) (λ_ _ _ _ _=>(zir (K:=K) 2 rfl rfl (zt (zo 0 zig.nd) (zt (zo 1 zig.nd) zaA)))) (λ_ _ _ _ _=>(zob (zK zac (qv 1) (qc 2)))) (λ_ _ _ _ _=>(qv 0))) (zcp (src:=[none,none,some 1]) zhX rfl rfl (zcX (qv 2)) (λ_ _ _ _ _=>(zir (K:=K) 2 rfl rfl (zt (zo 0 zhX.nd) (zt (zo 1 zhX.nd) zaA)))) (λ_ _ _ _ _=>(zob (zK zac (qv 0) (qc 2)))) (λ_ _ _ _ _=>(qv 1)))) zb))))),?_⟩
  refine⟨_,rfl,p,_,2,_,rfl,rfl, .inl (.inl hp),zZ (j:=2) rfl,?_⟩
  refine⟨_,rfl,pt,rfl,⟨_, .inl (.inl hpt)⟩,?_⟩
  refine zmx (ps:=ps) (sel:=λp=>decide (p.2=x)) (f:=(·.1)) (λσ'=>∃o1 o2,σ'=[o1,o2,some (.str x)]) (zbk (K:=K)) (λH' s'=> .inl (.inl (s' _ _ hpt))) rt () ⟨_,_,rfl⟩ ?_ λl1 H1 s1 hl1 e1=>?_
  ·rintro q p σ' H1 A B ⟨o1,o2,rfl⟩ s1 hq hp1 k
   refine⟨q,_,rfl, .inl (.inl hq),rfl,_,_,rfl,_,_,rfl,rfl,_,rfl,_,rfl,rfl,_,rfl,?_⟩
   have k:=k [some (.str p.1),some (.str p.2),some (.str x)] ⟨_,_,rfl⟩
   rw[zav]
   cases e:decide (p.2=x)with
   |false=>rw[e] at k;exact k
   |true=>rw[e] at k;exact⟨_,rfl,k⟩
  refine⟨_,rfl,pt,rfl,⟨_, .inl (.inl (s1 _ _ hpt))⟩,?_⟩
  refine zmx (ps:=ps) (sel:=λp=>decide (p.1=x)) (f:=(·.2)) (λσ'=>∃o1 o2,σ'=[o1,o2,some (.str x)]) (zbk (K:=K)) (λH' s'=> .inl (.inl (s' _ _ (s1 _ _ hpt)))) (rt.mono (.of s1)) () ⟨_,_,rfl⟩ ?_ λl2 H2 s2 hl2 e2=>?_
  ·rintro q p σ' H1 A B ⟨o1,o2,rfl⟩ s1 hq hp1 k
   refine⟨q,_,rfl, .inl (.inl hq),rfl,_,_,rfl,_,_,rfl,rfl,_,rfl,_,rfl,rfl,_,rfl,?_⟩
   have k:=k [some (.str p.1),some (.str p.2),some (.str x)] ⟨_,_,rfl⟩
   rw[zav]
   cases e:decide (p.1=x)with
   |false=>rw[e] at k;exact k
   |true=>rw[e] at k;exact⟨_,rfl,k⟩
  have nl:=zl4 T x
  have nl':((ps.filter λp=>decide (p.2=x)).map (·.1)).length+((ps.filter λp=>decide (p.1=x)).map (·.2)).length<=10:=by rw[←b0];exact nl
  refine⟨l1,l2,_,_,rfl,rfl,s2 _ _ e1,e2,P2 (zp (by simp only[D0] at nl'⊢;lia)),λl3 hl3=>?_⟩
  rw[←List.map_append]
  have S3:=Same.new (o:= .lst ((zbo ps x).map V.str)) hl3
  refine⟨l3,zbo ps x,rfl, .inl (SqL.of zc),(),λts l4 hp4 hs4 hl4=>q l4 ts _ ?_ zc hp4 hs4 (((s1.trans s2).trans S3).trans (Same.new hl4))⟩
  exact zbK ((s1.trans s2).trans S3) hl4
noncomputable def zoV(K:W.Frag):Sp:=λvs H Q _=>∃(b:Addr) (ns:List Int),vs=[.ref b]/\SqL K H b (ns.map V.int)/\ns.length<=63/\∀a H',H a=none->Hand H' a 0->Same H H'->Q (.ref a) H'
theorem zkD{x:Int}{n:Nat}(h0:0<=x)(h1:x<2^n)(hn:n<=20000):Builtin.Int.intBits x<=2^20:=by
 unfold Builtin.Int.intBits
 split
 ·exact Z1 _
 ·rename_i hz
  have hz:x≠0:=by simpa using hz
  have:x.natAbs<2^n:=by
   have e:((2^n:Nat):Int)=(2:Int)^n:=by push_cast;rfl
   lia
  have h2:x.natAbs.log2<n:=(Nat.log2_lt ()).mpr this
  have h3:(20000:Nat)<=2^20:=⋯
  lia
theorem zn2{a b:Int}{p q:Nat}(h0:0<=a)(h1:a<2^p)(h2:0<b)(h3:b<2^q):a*b<2^(p+q):=by
 have e1:a*b<2^p*b:=Int.mul_lt_mul_of_pos_right h1 h2
 have e2:(2:Int)^p*b<=2^p*2^q:=Int.mul_le_mul_of_nonneg_left (Int.le_of_lt h3) (znh p)
 have e3:(2:Int)^(p+q)=2^p*2^q:=Int.pow_add 2 p q
 rw[e3];exact Int.lt_of_lt_of_le e1 e2
theorem zrd(Y:Ev K mg):FnOk P w K mg base CX0 2 Y.a__law_all Y.d__law_all zec (zoV K):=by
 have G__law_hand:FnOk P w K mg base CX0 1 Y.a__law_hand Y.d__law_hand zdl (zqn K):=zud Y
 refine Y._law_all.fn.okQ zaT (λvs H Q E h=>?_) `W3
 ·obtain ⟨b,ns,rfl,_⟩:=h;rfl
 ·obtain ⟨b,ns,rfl,hS,hns,q⟩:=h
  refine⟨_,(zf (zx 1 zaT.nd (zh G__law_hand `U3 Y._law_hand.mg Y._law_hand.kp Y._law_hand.b .nil zk (za (qv 0) (za zg zb))))
   (zf (zx 2 zaT.nd (zF zcs (zM zaq (qv 1) zg) (zF zii zg zg)))
   (zf (zx 3 zaT.nd (zF zii zg zg))
   (zf (zcZ O3 rfl (zqM Y.range (za zg (za (zv (zgR rfl) Y.min zgz (za (zv z8 Y.len za0 (za (qv 0) zb)) (za zg zb))) zb))) (zo 4 zaT.nd) (zf (zx 5 zaT.nd (zh G__law_hand `U3 Y._law_hand.mg Y._law_hand.kp Y._law_hand.b .nil zk (za (qv 0) (za (qv 4) zb))))
   (zf (zx 2 zaT.nd (zF zap (qv 2) (zF zoj (zF zcs (zM zaq (qv 5) zg) (zF zii zg zg)) (qv 3))))
   (zf (zx 3 zaT.nd (zF zoj (qv 3) (zF zii zg zg)))
   (zi (zcg (zF zcs (zF zap (zF zbl (zM zaq (qv 1) zg) zg) (zM zaq (qv 5) zg)) zg) (zmc (qv 1) zg ze3)))))))
   (zhS (zae (zK zmn (zM zaq (qv 1) zg) zg) (zi (zcg (qv 2) (zmc (qv 1) zg ze3))) zO)
   (zi (zr (qv 1)))))))),?_⟩
  have cp:zwv 10 60:=⟨⋯,⋯,⋯⟩
  have p60:(10:Int)^(60:Int).toNat<2^200:=`Y3
  have p0:(0:Int)<(10:Int)^(60:Int).toNat:=`Y3
  refine⟨_,rfl,b,ns,0,rfl,hS,⋯,⋯,λa H1 ha hH1 s1=>?_⟩
  obtain⟨x,m,t,h1,m0,m1,t0,t1⟩:=hH1
  refine⟨_,rfl,a,_,0,_,rfl,rfl,SqL.of h1,at0,_,_,rfl,rfl,cp,_,_,rfl,rfl,p0,?_⟩
  refine⟨_,_,rfl,rfl,cp,?_⟩
  refine⟨_,rfl, .inl ⟨b,_,rfl, .inl (s1.seq hS),_,_,rfl,1,_,rfl,⟨⋯,⋯,by split<;>lia,by split<;>lia⟩,?_⟩⟩
  refine zbe zdZ (λi σ' H'=>∃(o4 o5:Option V) (dg far m:Int),σ'=[some (.ref b),some (.ref a),some (.int dg),some (.int far),o4,o5]/\0<=far/\far<2^(200*(i+1))/\H' a=some (.lst [.int x, .int m, .int t])/\0<=m/\m<2^63/\Same H H') ?_ (λ_ _ _ _=>trivial) ?_ ?_
  ·exact ⟨_,_,_,_,m,rfl,Int.le_of_lt p0,p60,h1,m0,m1,s1⟩
  ·rintro i y σ' H2 hi rfl ⟨o4,o5,dg,far,m,rfl,f0,f1,h2,m0,m1,s2⟩
   have hi63:i<63:=by
    refine W1 hi ?_
    rw[D0]
    split<;>lia
   refine⟨_,rfl,_,rfl,b,ns,_,rfl,s2.seq hS,(),(),λa2 H3 ha2 hH3 s3=>?_⟩
   obtain⟨x3,m3,t3,h3,n0,n1,_,_⟩:=hH3
   have h2':=s3 _ _ h2
   have b1:Builtin.Int.intBits (x3%(10:Int)^(60:Int).toNat)<=2^20:=zkD (n:=200) (Int.emod_nonneg _ (Int.ne_of_gt p0)) (Int.lt_trans (Int.emod_lt_of_pos _ p0) p60) ⋯
   have b2:Builtin.Int.intBits far<=2^20:=zkD f0 f1 ()
   have b3:Builtin.Int.intBits ((10:Int)^(60:Int).toNat)<=2^20:=zkD (n:=200) (Int.le_of_lt p0) p60 ⋯
   refine⟨_,rfl,_,rfl,a2,_,0,_,rfl,rfl,SqL.of h3,at0,_,_,rfl,rfl,cp,_,_,rfl,rfl,p0,_,rfl,_,_,rfl,rfl,⟨b1,b2⟩,_,_,rfl,rfl,?_⟩
   refine⟨_,rfl,_,_,rfl,rfl,cp,_,_,rfl,rfl,⟨b2,b3⟩,?_⟩
   refine⟨_,rfl,a,_,1,_,rfl,rfl,SqL.of h2',at1,_,_,rfl,rfl, .inl ⟨(),()⟩,_,rfl,a2,_,1,_,rfl,rfl,SqL.of h3,at1,_,_,rfl,rfl,_,_,rfl,rfl,(by decide:(0:Int)<2305843009213693951),?_⟩
   refine⟨_,rfl,a,_,1,1,rfl,rfl,h2',rfl,?_⟩
   refine⟨_,_,_,_,_,rfl,Int.mul_nonneg f0 (Int.le_of_lt p0),?_,zc,Int.emod_nonneg _ ⋯,?_,?_⟩
   ·have:=zn2 f0 f1 p0 p60
    rw[show 200*(i+1+1)=200*(i+1)+200 by lia]
    exact this
   ·have:=Int.emod_lt_of_pos (m*48271+m3) (by decide:(0:Int)<2305843009213693951)
    exact Int.lt_trans this ⋯
   ·exact λc o e=>by rw[ze (zj e ha)];exact s3 _ _ (s2 _ _ e)
  ·rintro σ' H2 ⟨o4,o5,dg,far,m,rfl,f0,f1,h2,m0,m1,s2⟩
   refine⟨λσ' H'=>∃(o2 o3 o4 o5:Option V),σ'=[some (.ref b),some (.ref a),o2,o3,o4,o5]/\Hand H' a 0/\Same H H',?_,?_⟩
   ·refine ⟨_,rfl,a,_,0,_,rfl,rfl,SqL.of h2,at0,_,_,rfl,rfl,_,rfl,zat (λ_=>?_) (λ_=>?_)⟩
    ·refine ⟨_,rfl,_,rfl,a,_,0,0,rfl,rfl,h2,rfl,_,_,_,_,rfl,⟨_,m,t,zc,m0,m1,t0,t1⟩,?_⟩
     exact λc o e=>by rw[ze (zj e ha)];exact s2 _ _ e
    ·exact ⟨_,_,_,_,rfl,⟨x,m,t,h2,m0,m1,t0,t1⟩,s2⟩
   ·rintro σ' H3 ⟨o2,o3,o4,o5,rfl,hH3,s3⟩
    exact⟨_,rfl,q a H3 ha hH3 s3⟩
theorem zxc{k:Nat}(r:Room k A):A.units+70<cLine:=by have:=r.un;lia
theorem zp9{a b c:V}:atI [a,b,c] (-1)=some c:=rfl
theorem zji(Y:Ev K mg):FnOk P w K mg base CX0 6 Y.a_liking_key Y.d_liking_key zcM zuI:=by
 have G_worth:FnOk P w K mg base CX0 5 Y.a_worth Y.d_worth zgf zks:=zmM Y
 refine Y.liking_key.fn.okQ zk8 (λvs H Q E h=>?_) `W3
 ·obtain ⟨v,pw,pm,x,ws,ms,g,hs,ps,lks,hds,j,rs,i,rfl,_⟩:=h;rfl
 ·obtain ⟨v,pw,pm,x,ws,ms,g,hs,ps,lks,hds,j,rs,i,rfl,hv,T,hj,hlj,hpw,hpm,nw,nm,lw,lm,hi,q⟩:=h
  refine⟨_,(zi (zr (zn (za (zr1 ziM (zh G_worth `U3 Y.worth.mg Y.worth.kp Y.worth.b .nil zk (za (qv 0) (za (qv 1) (za (qv 2) zb))))) (za (zv z8 Y.len za0 (za (qv 1) zb)) (za (qv 1) zb)))))),?_⟩
  refine⟨_,rfl,_,rfl,_,rfl,v,pw,pm,x,ws,ms,g,hs,ps,lks,hds,j,rs,rfl,hv,T,hj,hlj,hpw,hpm,nw,nm,lw,lm,λu H1 ru s1=>?_⟩
  rw[hi] at ru
  cases ru with|int _=>
  refine⟨_,rfl,_,rfl, .inl ⟨pw,_,rfl, .inr (.inl (.inl (s1 _ _ hpw))),_,rfl,few rfl,λpk hpk=>?_⟩⟩
  have S:=Same.new (o:= .tup [V.int (-i), .int (((x::ws).map V.str).length:Int), .ref pw]) hpk
  refine q _ _ ⟨pk,pw,rfl,?_,S _ _ (s1 _ _ hpw),λy hy=>zbd (nw y hy)⟩ (s1.trans S)
  rw[zc,D0]
def PairO(H:Hp)(b:Addr)(e:WM):Prop:=∃pw pm,H b=some (.tup [.ref pw, .ref pm])/\H pw=some (.tup (e.1.map V.str))/\H pm=some (.tup (e.2.map V.str))
structure EOk(x:Str)(rs:List D)(e:WM):Prop where
 hd:∃ws,e.1=x::ws
 nw:∀y∈e.1,zm y=true
 nm:∀y∈e.2,zm y=true
 lw:e.1.length<=80
 lm:e.2.length<=100
 wt:zW e.1 e.2 rs= .int (wI rs e)
theorem AtG.mono{Oa:Hp->Addr->α->Prop}{ps:List α}(h:AtG Oa H vs ps)(m:∀b p,Oa H b p->Oa H' b p):AtG Oa H' vs ps:=
 ⟨h.1,λi v p e1 e2=>let ⟨b,e,o⟩:=h.2 i v p e1 e2;⟨b,e,m b p o⟩⟩
theorem AtG.snoc{Oa:Hp->Addr->α->Prop}{ps:List α}{b:Addr}{p:α}(h:AtG Oa H vs ps)(o:Oa H b p):AtG Oa H (vs ++ [.ref b]) (ps ++ [p]):=by
 refine⟨by rw[b0,b0,h.1];rfl,λi v q e1 e2=>?_⟩
 rcases D2 i vs.length with z|z
 ·rw[C3 z] at e1
  rw[C3 (by rw[←h.1];exact z)] at e2
  exact h.2 i v q e1 e2
 ·rw[W2 z] at e1
  rw[W2 (by rw[←h.1];exact z),←h.1] at e2
  cases hk:i -vs.length with
  |zero=>rw[hk] at e1 e2;cases e1;cases e2;exact⟨b,rfl,o⟩
  |succ n=>rw[hk] at e1;cases e1
def WmAt(H:Hp)(x y:V):Option WM->Prop
 |none=>x= .non/\∃e,y= .ref e/\H e=some (.tup [])
 |some (w,ms)=>∃pw pm,x= .ref pw/\y= .ref pm/\H pw=some (.tup (w.map V.str))/\H pm=some (.tup (ms.map V.str))
theorem WmAt.mono{x y:V}{b:Option WM}(h:WmAt H x y b)(m:∀c xs,H c=some (.tup xs)->H' c=some (.tup xs)):WmAt H' x y b:=by
 match b,h with
 |none,⟨h1,e,h2,h3⟩=>exact ⟨h1,e,h2,m _ _ h3⟩
 |some (w,ms),⟨pw,pm,h1,h2,h3,h4⟩=>exact ⟨pw,pm,h1,h2,m _ _ h3,m _ _ h4⟩
def GoR(H:Hp)(g:Addr)(b:Option WM):Prop:=∃x y,H g=some (.tup [x,y])/\WmAt H x y b
theorem GoR.mono{g:Addr}{b:Option WM}(h:GoR H g b)(m:∀c xs,H c=some (.tup xs)->H' c=some (.tup xs)):GoR H' g b:=let⟨x,y,e,w⟩:=h;⟨x,y,m _ _ e,w.mono m⟩
theorem AtG.addrs{Oa:Hp->Addr->α->Prop}{ps:List α}(h:AtG Oa H vs ps):∃bs:List Addr,vs=bs.map V.ref/\bs.length=ps.length/\∀(i:Nat) (b:Addr) (p:α),bs[i]?=some b->ps[i]?=some p->Oa H b p:=by
 obtain⟨hl,h⟩:=h
 induction vs generalizing ps with
 |nil=>exact ⟨[],rfl,hl,λi b p e=>by cases e⟩
 |cons v vs ih=>
  cases ps with
  |nil=>cases hl
  |cons p ps=>
   obtain⟨b,rfl,o⟩:=h 0 v p rfl rfl
   obtain⟨bs,rfl,l,r⟩:=ih (by simpa using hl) λi v p e1 e2=>h (i+1) v p e1 e2
   refine⟨b::bs,rfl,by rw[L1,L1,l],λi b' p' e1 e2=>?_⟩
   cases i with
   |zero=>cases e1;cases e2;exact o
   |succ i=>exact r i b' p' e1 e2
def KmM(rs:List D)(H:Hp)(b:Addr)(e:WM):Prop:=∃t pm,H b=some (.tup [.ref t, .ref pm])/\KeyO H t (kE rs e)/\H pm=some (.tup (e.2.map V.str))
noncomputable def zwA:Sp:=λvs H Q _=>∃(v:V) (l:Addr) (us:List V) (es:List WM) (x:Str) (g:Str) (hs:List Str) (ps:List (Str×Str)) (lks hds:List D) (j:Nat) (rs:List D),vs=[v, .ref l]/\Rep H v (zag g hs ps lks hds)/\TownOk g hs ps lks hds/\hs[j]?=some x/\lks[j]?=some (.tup rs)/\H l=some (.lst us)/\AtG PairO H us es/\es.length<64/\(es.map (·.1)).Nodup/\(∀e∈es,EOk x rs e)/\
 ∀(q:Addr) (b:Option WM) (H':Hp),zh7 rs es b->GoR H' q b->Same H H'->Q (.ref q) H'
theorem zjt(Y:Ev K mg):FnOk P w K mg base CX0 7 Y.a_most_liked Y.d_most_liked zcN zwA:=by
 have G_liking_key:FnOk P w K mg base CX0 6 Y.a_liking_key Y.d_liking_key zcM zuI:=zji Y
 refine Y.most_liked.fn.okQ zcz (λvs H Q E h=>?_) `W3
 ·obtain ⟨v,l,us,es,x,g,hs,ps,lks,hds,j,rs,rfl,_⟩:=h;rfl
 ·obtain ⟨v,l,us,es,x,g,hs,ps,lks,hds,j,rs,rfl,hv,T,hj,hlj,hl,at1,h64,nde,eok,q⟩:=h
  have lu:us.length=es.length:=at1.1
  refine⟨_,(zf (zgI 2 (src:=[none,none,some 0]) zc0 rfl rfl zcz.nd (zkw (qv 1)) (λ_ _ _ _ _=>(zir (K:=K) 2 rfl rfl (zt (zo 0 zc0.nd) (zt (zo 1 zc0.nd) zaA)))) (λ_ _ _ _ _=>zdj) (λ_ _ _ _ _=>(zn (za (zh G_liking_key `U3 Y.liking_key.mg Y.liking_key.kp Y.liking_key.b .nil zk (za (qc 2) (za (qv 0) (za (qv 1) zb)))) (za (qv 1) zb)))))
   (zf (zae (zcd (ztt (qv 2))) (zi (zr (zn (za zcj (za (zn zb) zb))))) zO)
   (zf (zcg (zv (znL rfl (zxc hr)) Y.min zgz (za (qv 2) zb)) (zcv 2 rfl (zt (zo 3 zcz.nd) (zt (zo 4 zcz.nd) zaA))))
   (zi (zr (zn (za (zM zw (qv 3) (zr1 ziM zg)) (za (qv 4) zb)))))))),?_⟩
  refine zw0 λn e1=>?_
  refine⟨_,rfl,l,rfl,⟨_,SqL.of hl⟩,?_⟩
  refine zcx (zhw (K:=K) (xs:=us)) (λl' i ys σ' H'=>(∃o1 o2,σ'=[o1,o2,some v])/\AtG (KmM rs) H' ys (es.take i)/\Same H H') ?_ (λl' i ys σ' H' hl' z=>SqL.of (z.2.2 _ _ hl)) ?_ ?_
  ·exact λl' hl'=>⟨⟨_,_,rfl⟩,⟨rfl,λi v p e1 _=>by cases e1⟩,Same.new hl'⟩
  ·rintro l' i y0 ys σ' H1 hl' hi hy ⟨⟨o1,o2,rfl⟩,a1,s1⟩ hl1
   have hi':i<es.length:=()
   obtain⟨b,rfl,pw,pm,hb,hpw,hpm⟩:=at1.2 i y0 es[i] hy (F0 hi')
   have ee:=eok es[i] (List.getElem_mem hi')
   have tk:es.take (i+1)=es.take i ++ [es[i]]:=by rw[N3,F0 hi'];rfl
   rw[tk]
   have ly:ys.length=i:=by have:=a1.1;rw[P1] at this;lia
   generalize es[i]=e at *
   obtain⟨ew,em⟩:=e
   obtain⟨ws,rfl⟩:=ee.hd
   refine⟨b,_,rfl, .inl (.inl (s1 _ _ hb)),rfl,_,_,rfl,_,_,rfl,rfl,?_⟩
   refine⟨_,rfl,_,rfl,_,rfl,v,pw,pm,x,ws,em,g,hs,ps,lks,hds,j,rs,wI rs (x::ws,em),rfl,hv.same s1,T,hj,hlj,s1 _ _ hpw,s1 _ _ hpm,ee.nw,ee.nm,by have:=ee.lw;simp only[L1] at this;lia,ee.lm,ee.wt,λu H2 ku s2=>?_⟩
   obtain⟨kb,kp,rfl,k1,k2,k3⟩:=ku
   have S3:∀{c:Addr},H2 c=none->Same H2 (upd H2 c (.tup [.ref kb, .ref pm])):=λ{c} h=>Same.new h
   refine⟨_,rfl,few rfl,λpt hpt=>?_⟩
   have s3:=S3 hpt
   have hl3:=s3 _ _ (s2 _ _ hl1)
   refine⟨hl3,zp (),⟨_,_,rfl⟩,?_,λc o e=>by rw[ze (zj e hl')];exact s3 _ _ (s2 _ _ (s1 c o e))⟩
   have up:∀c (xs:List V),(upd H2 pt (.tup [.ref kb, .ref pm])) c=some (.tup xs)->upd (upd H2 pt (.tup [.ref kb, .ref pm])) l' (.lst (ys ++ [.ref pt])) c=some (.tup xs):=λc xs e=>by rw[ze (zy e hl3 (by intro z;cases z))];exact e
   refine AtG.snoc (AtG.mono a1 λc k ⟨t,pm',h1,⟨p,e,f,o⟩,h3⟩=>?_) ?_
   ·exact ⟨t,pm',up _ _ (s3 _ _ (s2 _ _ h1)),⟨p,up _ _ (s3 _ _ (s2 _ _ e)),up _ _ (s3 _ _ (s2 _ _ f)),o⟩,up _ _ (s3 _ _ (s2 _ _ h3))⟩
   ·exact ⟨kb,pm,up _ _ zc,⟨kp,up _ _ (s3 _ _ k1),up _ _ (s3 _ _ k2),k3⟩,up _ _ (s3 _ _ (s2 _ _ (s1 _ _ hpm)))⟩
  rintro l1 zs σ' H1 hl1' ⟨⟨o1,o2,rfl⟩,a1,s1⟩ hl1
  rw[lu,List.take_length] at a1
  dsimp only[zbH]
  refine e1 _ _ ?_
  obtain⟨bs,rfl,lb,hb⟩:=AtG.addrs a1
  have ndk:(es.map (kE rs)).Nodup:=by
   refine List.pairwise_map.mpr ((List.pairwise_map.mp nde).imp λh z=>h ?_)
   exact E3 (λk:Ky=>k.2.2) z
  by_cases h0:es=[]
  ·subst h0
   have hb0:bs=[]:=List.eq_nil_of_length_eq_zero lb
   subst hb0
   refine⟨_,rfl,false, .inl ⟨_,SqL.of hl1,rfl⟩,zcl rfl ?_⟩
   refine⟨few rfl,λe2 he2=>⟨few rfl,λq2 hq2=>?_⟩⟩
   exact q q2 none _ rfl ⟨.non, .ref e2,zc,rfl,e2,rfl,Same.new hq2 _ _ zc⟩ (s1.trans ((Same.new he2).trans (Same.new hq2)))
  have l0:0<es.length:=List.length_pos_iff.mpr h0
  refine⟨_,rfl,true, .inl ⟨_,SqL.of hl1,?_⟩,za3 rfl ?_⟩
  ·cases bs with
   |nil=>rw[←lb] at l0;cases l0
   |cons _ _=>rfl
  refine⟨_,rfl,l1,bs,es.map (kE rs),rfl,hl1,by rw[D0];exact lb,λi b k e1 e2=>?_,ndk,by rw[D0];exact l0,λm b k e1 e2 best=>?_⟩
  ·rw[V0] at e2
   cases e3:es[i]? with
   |none=>rw[e3] at e2;cases e2
   |some e=>
    rw[e3] at e2;cases e2
    obtain⟨t,pm,h1,h2,h3⟩:=hb i b e e1 e3
    exact⟨_,t,h1,h2⟩
  ·rw[V0] at e2
   cases e3:es[m]? with
   |none=>rw[e3] at e2;cases e2
   |some e=>
    rw[e3] at e2;cases e2
    obtain⟨t,pm,h1,⟨p,h2,h3,h4⟩,h5⟩:=hb m b e e1 e3
    refine⟨b,_,rfl, .inl (.inl h1),rfl,_,_,rfl,_,_,rfl,rfl,?_⟩
    refine⟨_,rfl,1,rfl,t,_,-1,_,rfl,rfl, .inl (.inl h2),zp9,_,rfl,few rfl,λq2 hq2=>?_⟩
    have S:=Same.new (o:= .tup [V.ref p,V.ref pm]) hq2
    refine q q2 (some e) _ ⟨Z0 e3,λe' he' ne=>best _ (X1.mpr ⟨e',he',rfl⟩) ne⟩ ⟨.ref p, .ref pm,zc,p,pm,rfl,rfl,S _ _ h3,S _ _ h5⟩ (s1.trans S)
noncomputable def zcb(v:V)(nm:Str)(hd td g:Addr)(n:Int):List (Str×V):=[("place",v),("name", .str nm),("hearings", .ref hd),("tellings", .ref td),("going", .ref g),("times", .int n)]
theorem zdU{nm:Str}{hd td g:Addr}{n:Int}:(zcb v nm hd td g n).lookup ("place":Str)=some v:=by rfl
theorem zdo{nm:Str}{hd td g:Addr}{n:Int}:(zcb v nm hd td g n).lookup ("name":Str)=some (.str nm):=by rfl
theorem zkp{nm:Str}{hd td g:Addr}{n:Int}:(zcb v nm hd td g n).lookup ("hearings":Str)=some (.ref hd):=by rfl
theorem zn6{nm:Str}{hd td g:Addr}{n:Int}:(zcb v nm hd td g n).lookup ("tellings":Str)=some (.ref td):=by rfl
theorem zhQ{nm:Str}{hd td g:Addr}{n:Int}:(zcb v nm hd td g n).lookup ("going":Str)=some (.ref g):=by rfl
theorem ziP{nm:Str}{hd td g:Addr}{n:Int}:(zcb v nm hd td g n).lookup ("times":Str)=some (.int n):=by rfl
noncomputable def zmD(C:Addr):Sp:=λvs H Q _=>∃(p dx:Addr) (v:V) (nm:Str),vs=[.ref p,v, .str nm]/\H p=some (.ins C dx [])/\∀(hd td g e:Addr) (H':Hp),H hd=none->H td=none->H g=none->H e=none->hd≠td->H' p=some (.ins C dx (zcb v nm hd td g 0))->H' hd=some (.dK [])->H' td=some (.dK [])->H' g=some (.tup [.non, .ref e])->H' e=some (.tup [])->Keep p H H'->Q .non H'
theorem zpf(Y:Ev K mg):FnOk P w K mg base CX0 1 Y.a_House___init__ Y.d_House___init__ zaU (zmD Y.c_House):=by
 refine Y.House___init__.fn.okQ zgt (λvs H Q E h=>?_) `W3
 ·obtain ⟨p,dx,v,nm,rfl,_⟩:=h;rfl
 ·obtain ⟨p,dx,v,nm,rfl,hp,q⟩:=h
  refine⟨_,(zf (zeq (qv 0) (qv 1))
   (zf (zeq (qv 0) (qv 2))
   (zf (zeq (qv 0) zm3)
   (zf (zeq (qv 0) zm3)
   (zf (zeq (qv 0) (zn (za zcj (za (zn zb) zb))))
   (zi (zeq (qv 0) zg))))))),?_⟩
  refine⟨_,rfl,_,rfl,p,_,dx,[],rfl,hp,Y.k_House,Y.n_House_place,(by decide:0<1000),?_⟩
  have s1:Keep p H (upd H p (.ins Y.c_House dx (zas "place" v []))):=Keep.upd _ _ _
  have p1:upd H p (.ins Y.c_House dx (zas "place" v [])) p=some (.ins Y.c_House dx [("place",v)]):=zc
  generalize upd H p (.ins Y.c_House dx (zas "place" v []))=H1 at *
  refine⟨_,rfl,_,rfl,p,_,dx,_,rfl,p1,Y.k_House,Y.n_House_name,(by decide:1<1000),?_⟩
  have s2:Keep p H (upd H1 p (.ins Y.c_House dx (zas "name" (.str nm) [("place",v)]))):=s1.trans (Keep.upd _ _ _)
  have p2:upd H1 p (.ins Y.c_House dx (zas "name" (.str nm) [("place",v)])) p=some (.ins Y.c_House dx [("place",v),("name", .str nm)]):=zc
  generalize upd H1 p (.ins Y.c_House dx (zas "name" (.str nm) [("place",v)]))=H2 at *
  have none_of:∀{G:Hp} {b:Addr},H p=some (.ins Y.c_House dx [])->Keep p H G->G b=none->(∃o,G p=some o)->H b=none:=λ{G b} hp k e ⟨o,ho⟩=>by
   cases z:H b with
   |none=>rfl
   |some u=>
    have:b≠p:=λy=>by rw[y,ho] at e;cases e
    rw[k b u this z] at e;cases e
  refine λhd hhd=>⟨_,rfl,p,_,dx,_,rfl,Same.new hhd _ _ p2,Y.k_House,Y.n_House_hearings,(by decide:2<1000),?_⟩
  have h1:=none_of hp s2 hhd ⟨_,p2⟩
  have npd:hd≠p:=λz=>by rw[z,p2] at hhd;cases hhd
  have s3:Keep p H (upd (upd H2 hd (.dK [])) p (.ins Y.c_House dx (zas "hearings" (.ref hd) [("place",v),("name", .str nm)]))):=(s2.trans (Keep.new hhd)).trans (Keep.upd _ _ _)
  have p3:upd (upd H2 hd (.dK [])) p (.ins Y.c_House dx (zas "hearings" (.ref hd) [("place",v),("name", .str nm)])) p=some (.ins Y.c_House dx [("place",v),("name", .str nm),("hearings", .ref hd)]):=zc
  have d3:upd (upd H2 hd (.dK [])) p (.ins Y.c_House dx (zas "hearings" (.ref hd) [("place",v),("name", .str nm)])) hd=some (.dK []):=by rw[ze npd];exact zc
  generalize upd (upd H2 hd (.dK [])) p (.ins Y.c_House dx (zas "hearings" (.ref hd) [("place",v),("name", .str nm)]))=H3 at *
  refine λtd htd=>⟨_,rfl,p,_,dx,_,rfl,Same.new htd _ _ p3,Y.k_House,Y.n_House_tellings,(by decide:3<1000),?_⟩
  have h2:=none_of hp s3 htd ⟨_,p3⟩
  have npt:td≠p:=λz=>by rw[z,p3] at htd;cases htd
  have nht:hd≠td:=zj d3 htd
  have s4:Keep p H (upd (upd H3 td (.dK [])) p (.ins Y.c_House dx (zas "tellings" (.ref td) [("place",v),("name", .str nm),("hearings", .ref hd)]))):=(s3.trans (Keep.new htd)).trans (Keep.upd _ _ _)
  have p4:upd (upd H3 td (.dK [])) p (.ins Y.c_House dx (zas "tellings" (.ref td) [("place",v),("name", .str nm),("hearings", .ref hd)])) p=some (.ins Y.c_House dx [("place",v),("name", .str nm),("hearings", .ref hd),("tellings", .ref td)]):=zc
  have d4:upd (upd H3 td (.dK [])) p (.ins Y.c_House dx (zas "tellings" (.ref td) [("place",v),("name", .str nm),("hearings", .ref hd)])) td=some (.dK []):=by rw[ze npt];exact zc
  have d4':upd (upd H3 td (.dK [])) p (.ins Y.c_House dx (zas "tellings" (.ref td) [("place",v),("name", .str nm),("hearings", .ref hd)])) hd=some (.dK []):=by rw[ze npd];exact Same.new htd _ _ d3
  generalize upd (upd H3 td (.dK [])) p (.ins Y.c_House dx (zas "tellings" (.ref td) [("place",v),("name", .str nm),("hearings", .ref hd)]))=H4 at *
  refine⟨few rfl,λe he=>⟨few rfl,λg hg=>?_⟩⟩
  have S5:=Same.new (o:= .tup ([]:List V)) he
  have S6:=Same.new (o:= .tup [V.non, .ref e]) hg
  have h3:=none_of hp s4 he ⟨_,p4⟩
  have h4:=none_of hp (s4.trans (Keep.of S5)) hg ⟨_,S5 _ _ p4⟩
  refine⟨_,rfl,p,_,dx,_,rfl,S6 _ _ (S5 _ _ p4),Y.k_House,Y.n_House_going,(by decide:4<1000),_,rfl,p,_,dx,_,rfl,zc,Y.k_House,Y.n_House_times,(by decide:5<1000),?_⟩
  rw[zhy]
  have ng:∀{b},H b=none->b≠p:=λ{b} e z=>by rw[z,hp] at e;cases e
  refine q hd td g e _ h1 h2 h4 h3 nht (by rw[zc];rfl) ?_ ?_ ?_ ?_ ?_
  ·rw[ze npd];exact S6 _ _ (S5 _ _ d4')
  ·rw[ze npt];exact S6 _ _ (S5 _ _ d4)
  ·rw[ze (ng h4)];exact zc
  ·rw[ze (ng h3)];exact S6 _ _ zc
  ·exact (s4.trans (Keep.of (S5.trans S6))).trans (Keep.upd _ _ _)
noncomputable def zoO(C:Addr)(k:Nat):Sp:=λvs H Q _=>∃(p dx hd td g:Addr) (v:V) (nm:Str) (n:Int) (us:List V) (u:V),vs=[.ref p]/\H p=some (.ins C dx (zcb v nm hd td g n))/\H g=some (.tup us)/\us[k]?=some u/\Q u H
theorem zrN(Y:Ev K mg):FnOk P w K mg base CX0 1 Y.a_House_way Y.d_House_way zdw (zoO Y.c_House 0):=by
 refine Y.House_way.fn.okQ zmP (λvs H Q E h=>?_) `W3
 ·obtain ⟨p,dx,hd,td,g,v,nm,n,us,u,rfl,_⟩:=h;rfl
 ·obtain ⟨p,dx,hd,td,g,v,nm,n,us,u,rfl,hp,hg,hu,q⟩:=h
  refine⟨_,(zi (zr (zM zw (zT (qv 0)) zg))),?_⟩
  exact⟨_,rfl,p,_,dx,_,_,rfl,hp,Y.k_House,Y.n_House_going,zhQ,g,us,0,u,rfl,rfl, .inl (.inl hg),zZ (j:=0) hu,q⟩
noncomputable def zgK(C N:Addr):Sp:=λvs H Q _=>∃(p dx hd td g:Addr) (v:V) (nm o:Str) (n:Int) (kvs:List (Key×V)),vs=[.ref p, .str o]/\H p=some (.ins C dx (zcb v nm hd td g n))/\H hd=some (.dK kvs)/\Q ((za4 kvs (Sum.inr o)).getD (.ref N)) H
theorem ziI(Y:Ev K mg):FnOk P w K mg base CX0 1 Y.a_House_heard Y.d_House_heard za5 (zgK Y.c_House Y.a_NOTHING):=by
 refine Y.House_heard.fn.okQ zi7 (λvs H Q E h=>?_) `W3
 ·obtain ⟨p,dx,hd,td,g,v,nm,o,n,kvs,rfl,_⟩:=h;rfl
 ·obtain ⟨p,dx,hd,td,g,v,nm,o,n,kvs,rfl,hp,hh,q⟩:=h
  refine⟨_,(zi (zr (zoK (hu1 hr) (zT (qv 0)) (qv 1) (zaF (v:= .ref Y.a_NOTHING) Y.m_NOTHING rfl)))),?_⟩
  exact⟨_,rfl,p,_,dx,_,_,rfl,hp,Y.k_House,Y.n_House_hearings,zkp,hd,rfl, .inl ⟨_, .inl hh⟩,_,rfl,_,DGet.k (k:=Sum.inr o) hh,q⟩
def zfg:Option WM->Prop
 |none=>True
 |some (w,ms)=>(∀y∈w,zm y=true)/\(∀y∈ms,zm y=true)
theorem zlR{p:Addr}{xs:List Str}(e:H p=some (.tup (xs.map V.str)))(h:∀y∈xs,zm y=true):TrC K H (.ref p) (.tuple (zI xs)):=by
 refine .tup (.inl (.inl e)) (by unfold zI;rw[D0,D0]) λi v d e1 e2=>?_
 unfold zI at e2
 rw[V0] at e1 e2
 cases e3:xs[i]? with
 |none=>rw[e3] at e1;cases e1
 |some x=>rw[e3] at e1 e2;cases e1;cases e2;exact .str x (zbd (h x (Z0 e3)))
noncomputable def zer:Option WM->PyData|none=> .none|some (w,_)=> .tuple (zI w)
noncomputable def zgg:Option WM->PyData|none=> .tuple []|some (_,ms)=> .tuple (zI ms)
theorem zhD{x y:V}{b:Option WM}(h:WmAt H x y b)(ok:zfg b):TrC K H x (zer b):=by
 match b,h,ok with
 |none,⟨h1,_⟩,_=>rw[h1];exact .non
 |some (w,ms),⟨pw,pm,h1,h2,h3,h4⟩,ok=>rw[h1];exact zlR h3 ok.1
theorem zoI{x y:V}{b:Option WM}(h:WmAt H x y b)(ok:zfg b):TrC K H y (zgg b):=by
 match b,h,ok with
 |none,⟨_,e,h1,h2⟩,_=>rw[h1];exact .tup (.inl (.inl h2)) rfl λi v d e1=>by cases e1
 |some (w,ms),⟨pw,pm,h1,h2,h3,h4⟩,ok=>rw[h2];exact zlR h4 ok.2
theorem zcI{b:Option WM}:(zer b).depth<=2:=by
 match b with
 |none=>show (PyData.none).depth<=2;rw[PyData.depth];decide
 |some (w,ms)=>show (PyData.tuple (zI w)).depth<=2;rw[PyData.depth];have:=zb8 (xs:=w);lia
theorem zmj{b:Option WM}:(zer b).depth<=60:=Y1 zcI ⋯
theorem zg6{b:Option WM}:(zgg b).depth<=2:=by
 match b with
 |none=>show (PyData.tuple []).depth<=2;rw[PyData.depth,PyData.depthAll];decide
 |some (w,ms)=>show (PyData.tuple (zI ms)).depth<=2;rw[PyData.depth];have:=zb8 (xs:=ms);lia
noncomputable def ziW(C:Addr):Sp:=λvs H Q _=>∃(p dx hd td g g':Addr) (v:V) (nm:Str) (n:Int) (b b':Option WM),vs=[.ref p, .ref g']/\H p=some (.ins C dx (zcb v nm hd td g n))/\GoR H g b/\GoR H g' b'/\zfg b/\zfg b'/\∀n':Int,Q .non (upd H p (.ins C dx (zcb v nm hd td g' n')))
theorem zjP(Y:Ev K mg):FnOk P w K mg base CX0 1 Y.a_House_go_by Y.d_House_go_by za2 (ziW Y.c_House):=by
 refine Y.House_go_by.fn.okQ zjk (λvs H Q E h=>?_) `W3
 ·obtain ⟨p,dx,hd,td,g,g',v,nm,n,b,b',rfl,_⟩:=h;rfl
 ·obtain ⟨p,dx,hd,td,g,g',v,nm,n,b,b',rfl,hp,⟨x,y,hg,wa⟩,⟨x',y',hg',wa'⟩,ok,ok',q⟩:=h
  refine⟨_,(zhS (zae (zK (zrq (zwe hr)) (zM zw (qv 1) zg) (zM zw (zT (qv 0)) zg)) (zi (zq3 (qv 0) zg zvR)) zO)
   (zi (zeq (qv 0) (qv 1)))),?_⟩
  refine⟨λσ' H'=>σ'=[some (.ref p),some (.ref g')]/\∃n',H'=upd H p (.ins Y.c_House dx (zcb v nm hd td g n')),?_,?_⟩
  ·refine ⟨_,rfl,g',_,0,_,rfl,rfl, .inl (.inl hg'),at0,_,rfl,p,_,dx,_,_,rfl,hp,Y.k_House,Y.n_House_going,zhQ,g,_,0,_,rfl,rfl, .inl (.inl hg),at0,zer b',zer b,zhD wa' ok',zhD wa ok,Y1 (Nat.min_le_left _ _) zmj,_,rfl,zat (λ_=>?_) (λ_=>?_)⟩
   ·exact ⟨_,rfl,p,_,dx,_,_,rfl,hp,Y.k_House,Y.n_House_times,ziP,_,_,rfl,rfl,dx,_,hp,(by decide:6<1000),rfl,_,rfl⟩
   ·exact ⟨rfl,n,by funext c;by_cases e:c=p
                    ·rw[e,zc];exact hp
                    ·rw[ze e]⟩
  ·rintro σ' H1 ⟨rfl,n',rfl⟩
   refine⟨_,rfl,_,rfl,p,_,dx,_,rfl,zc,Y.k_House,Y.n_House_going,(by decide:6<1000),?_⟩
   rw[zhy]
   exact q n'
def HfL(ds:List D):Prop:=ds.length<=12\/∃m,zm m=true/\∀r∈ds,∃cs,r= .tup [.tup cs, .tup [.str "put", .str m]]
def HfO(hds:List D):Prop:=∀d∈hds,∃ds,d= .tup ds/\HfL ds
theorem zvH(h:∀d∈hds,∃ds,d= .tup ds/\ds.length<=12):HfO hds:=λd hd=>let ⟨ds,e,l⟩:=h d hd;⟨ds,e, .inl l⟩
def Pf(rs:List D)(i:Nat)(t:List Str):Prop:=(rs.length<=12/\Mn 40 i t)\/∃m,zm m=true/\(∀r∈rs,∃cs,r= .tup [.tup cs, .tup [.str "put", .str m]])/\(∀y∈t,zm y=true)/\t.length<=40+(if m∈t then 1 else 0)
theorem zxh(h:HfL rs)(n:∀y∈t,zm y=true)(l:t.length<=40):Pf rs 0 t:=by
 rcases h with h|⟨m,h1,h2⟩
 ·exact .inl ⟨h,n,()⟩
 ·exact .inr ⟨m,h1,h2,n,by split<;>lia⟩
theorem zs8{m:Str}(h:t.length<=40+(if m∈t then 1 else 0)):(zdJ t "put" m).length<=40+(if m∈zdJ t "put" m then 1 else 0):=by
 have e:m∈zdJ t "put" m:=by
  unfold zdJ
  rw[(zc4 _).mem_iff]
  unfold zaE
  exact O1 _ (by rw[R0 rfl];exact C2.mpr rfl)
 rw[R0 e]
 unfold zdJ
 rw[(zc4 _).length_eq]
 unfold zaE
 rw[b0,R0 rfl,List.length_singleton]
 by_cases c:m∈t
 ·rw[R0 c] at h
  have:=(List.length_filter_lt_length_iff_exists (p:=λx=>!decide (x=m)) (l:=t)).mpr ⟨m,c,`Z3⟩
  lia
 ·rw[N0 c] at h
  have:=List.length_filter_le (λx=>!decide (x=m)) t
  lia
theorem zu9(h:ziv rs)(_:HfL rs):Mst rs (Pf rs) where
 skip:=λi t z=>z.imp (λ⟨a,b⟩=>⟨a,b.1,by have:=b.2;lia⟩) id
 next:=λi t w m cs z e=>by
  rcases z with⟨a,b⟩|⟨m',h1,h2,n,l⟩
  ·exact .inl ⟨a,(zvA h (show 40+rs.length<=60 by lia)).next i t w m cs b e⟩
  ·obtain ⟨cs',e2⟩:=h2 _ (Z0 e)
   cases e2
   exact .inr ⟨m,h1,h2,λy hy=>(zi6 hy).elim (n y) λz=>by rw[z];exact h1,zs8 l⟩
 ok:=λi t hi z=>by
  rcases z with⟨a,b⟩|⟨m',h1,h2,n,l⟩
  ·exact ⟨b.1,by have:=b.2;lia⟩
  ·exact ⟨n,by split at l<;>lia⟩
theorem zn8(T:TownOk g hs ps lks hds)(hf:HfO hds)(h:x∈hs):∃(j:Nat) (rs:List D),hs[j]?=some x/\hds[j]?=some (.tup rs)/\zA hs hds x=rs/\ziv rs/\HfL rs:=by
 obtain⟨j,d,e1,e2,hm⟩:=zrf T h
 obtain⟨rs,rfl,hk⟩:=znj (T.hands d hm)
 obtain⟨ds,e3,h12⟩:=hf _ hm
 cases e3
 exact⟨j,rs,e1,e2,zhL T.hs_nd e1 e2,hk,h12⟩
def GoOk(nm:Str):Option WM->Prop
 |none=>True
 |some (w,ms)=>(∃ws,w=nm::ws/\ws.length<=90)/\(∀y∈w,zm y=true)/\(∀y∈ms,zm y=true)/\ms.length<=40
theorem GoOk.wm{nm:Str}{b:Option WM}(h:GoOk nm b):zfg b:=by
 match b,h with
 |none,_=>exact trivial
 |some (w,ms),⟨_,h1,h2,_⟩=>exact ⟨h1,h2⟩
theorem zuW(T:TownOk g hs ps lks hds)(hf:HfO hds){nm o:Str}(hn:nm∈hs){b:Option WM}(ok:GoOk nm b):zfg (zeu (zA hs hds nm) b o):=by
 obtain⟨j,rs,_,_,er,hk,_⟩:=zn8 T hf hn
 match b,ok with
 |none,_=>exact trivial
 |some (w,ms),⟨_,h1,h2,_⟩=>
  show zfg ((zP w (some o) (zA hs hds nm) ms).map λt=>(w,t))
  rw[er]
  cases e:zP w (some o) rs ms with
  |none=>exact trivial
  |some t=>exact ⟨h1,zd1 hk.2 h2 e⟩
noncomputable def zj6(C:Addr):Sp:=λvs H Q _=>∃(p dx hd td ga:Addr) (v:V) (nm o:Str) (n:Int) (b:Option WM) (g:Str) (hs:List Str) (ps:List (Str×Str)) (lks hds:List D),vs=[.ref p, .str o]/\H p=some (.ins C dx (zcb v nm hd td ga n))/\Rep H v (zag g hs ps lks hds)/\TownOk g hs ps lks hds/\HfO hds/\nm∈hs/\o∈hs/\GoR H ga b/\GoOk nm b/\∀(q:Addr) (H':Hp),GoR H' q (zeu (zA hs hds nm) b o)->Same H H'->Q (.ref q) H'
theorem znv(Y:Ev K mg):FnOk P w K mg base CX0 6 Y.a_House_offer Y.d_House_offer zb0 (zj6 Y.c_House):=by
 have G_handed:FnOk P w K mg base CX0 5 Y.a_handed Y.d_handed zgq zjJ:=zm9 Y
 refine Y.House_offer.fn.okQ zbY (λvs H Q E h=>?_) `W3
 ·obtain ⟨p,dx,hd,td,ga,v,nm,o,n,b,g,hs,ps,lks,hds,rfl,_⟩:=h;rfl
 ·obtain ⟨p,dx,hd,td,ga,v,nm,o,n,b,g,hs,ps,lks,hds,rfl,hp,hv,T,hf,hnm,ho,⟨x,y,h1,wa⟩,ok,q⟩:=h
  refine⟨_,(zf (zcg (zT (qv 0)) (zcv 2 rfl (zt (zo 2 zbY.nd) (zt (zo 3 zbY.nd) zaA))))
   (zf (zx 4 zbY.nd (zvb (zK zkY (qv 2) zcj) zcj (zh G_handed `U3 Y.handed.mg Y.handed.kp Y.handed.b .nil zk (za (zT (qv 0)) (za (qv 2) (za (qv 3) (za (qv 1) zb)))))))
   (zi (zr (zvb (zK zkY (qv 4) zcj) (zn (za zcj (za (zn zb) zb))) (zn (za (qv 2) (za (qv 4) zb)))))))),?_⟩
  refine⟨_,rfl,p,_,dx,_,_,rfl,hp,Y.k_House,Y.n_House_going,zhQ,ga,_,rfl, .inl (.inl h1),rfl,_,_,rfl,_,_,rfl,rfl,?_⟩
  match b,wa,ok,q with
  |none,⟨ex,e,ey,h2⟩,_,q=>
   subst ex ey
   refine⟨_,rfl,rfl,_,rfl,zcl rfl ?_⟩
   refine⟨_,rfl,rfl,_,rfl,zcl rfl ⟨few rfl,λe2 he2=>⟨few rfl,λq2 hq2=>?_⟩⟩⟩
   exact q q2 _ ⟨.non, .ref e2,zc,rfl,e2,rfl,Same.new hq2 _ _ zc⟩ ((Same.new he2).trans (Same.new hq2))
  |some (w,ms),⟨wt,mt,ex,ey,h2,h3⟩,⟨⟨ws,ew,lw⟩,nw,nm',lm⟩,q=>
   subst ex ey ew
   obtain⟨j,rs,hj,hdj,er,hk,h12⟩:=zn8 T hf hnm
   refine⟨_,rfl,rfl,_,rfl,za3 rfl ?_⟩
   refine⟨_,rfl,p,_,dx,_,_,rfl,hp,Y.k_House,Y.n_House_place,zdU,_,rfl,_,rfl,_,rfl,v,wt,mt, .str o,nm,ws,ms,some o,g,hs,ps,lks,hds,j,rs,_,rfl,hv,T,hj,hdj,hk,zu9 hk h12,zxh h12 nm' lm,h2,h3, .inr ⟨o,rfl,rfl,T.names o ho⟩,nw,lw,λu H1 tu s1=>?_⟩
   have eo:zeu (zA hs hds nm) (some (nm::ws,ms)) o=(zP (nm::ws) (some o) rs ms).map λt=>(nm::ws,t):=by rw[←er];rfl
   rw[eo] at q
   cases e:zP (nm::ws) (some o) rs ms with
   |none=>
    rw[e] at tu q
    cases(show u= .non from tu)
    refine⟨_,rfl,rfl,_,rfl,zcl rfl ⟨few rfl,λe2 he2=>⟨few rfl,λq2 hq2=>?_⟩⟩⟩
    exact q q2 _ ⟨.non, .ref e2,zc,rfl,e2,rfl,Same.new hq2 _ _ zc⟩ (s1.trans ((Same.new he2).trans (Same.new hq2)))
   |some t=>
    rw[e] at tu q
    obtain⟨mp,rfl,hmp⟩:=tu
    refine⟨_,rfl,rfl,_,rfl,za3 rfl ⟨_,rfl,_,rfl,few rfl,λq2 hq2=>?_⟩⟩
    have S2:=Same.new (o:= .tup [V.ref wt,V.ref mp]) hq2
    exact q q2 _ ⟨.ref wt, .ref mp,zc,wt,mp,rfl,rfl,S2 _ _ (s1 _ _ h2),S2 _ _ hmp⟩ (s1.trans S2)
def TeO(H:Hp)(v:V)(r:Hr):Prop:=∃t x y,v= .ref t/\H t=some (.tup [.int r.1,x,y])/\WmAt H x y r.2
theorem TeO.mono{r:Hr}(h:TeO H v r)(m:∀c xs,H c=some (.tup xs)->H' c=some (.tup xs)):TeO H' v r:=let⟨t,x,y,e,h1,w⟩:=h;⟨t,x,y,e,m _ _ h1,w.mono m⟩
inductive TbL(H:Hp):List (Key×V)->Tb->Prop
 |nil:TbL H [] []
 |cons {x:Str} {v:V} {r:Hr} {kvs:List (Key×V)} {m:Tb} (h:TeO H v r) (t:TbL H kvs m):TbL H ((Sum.inr x,v)::kvs) ((x,r)::m)
theorem TbL.mono{tm:Tb}(h:TbL H kvs tm)(m:∀c xs,H c=some (.tup xs)->H' c=some (.tup xs)):TbL H' kvs tm:=by
 induction h with
 |nil=>exact .nil
 |cons h t ih=>exact .cons (h.mono m) ih
theorem TbL.len{m:Tb}(h:TbL H kvs m):kvs.length=m.length:=by
 induction h with
 |nil=>rfl
 |cons h t ih=>rw[L1,L1,ih]
theorem TbL.look{m:Tb}(h:TbL H kvs m)(x:Str):(zJ m x=none/\za4 kvs (Sum.inr x)=none)\/∃r v,zJ m x=some r/\za4 kvs (Sum.inr x)=some v/\TeO H v r:=by
 induction h with
 |nil=>exact .inl ⟨rfl,rfl⟩
 | @cons y v r kvs m h t ih=>
   by_cases e:y=x
   ·exact .inr ⟨r,v,zaz e,zeL (by rw[e]),h⟩
   ·rw[zaM (p:=(y,r)) e,zcf (p:=(Sum.inr y,v)) (λz=>e (Sum.inr.inj z))];exact ih
theorem TbL.map{m:Tb}(h:TbL H kvs m){r:Hr}(hv:TeO H v r):TbL H (kvs.map λkv=>if kv.1=Sum.inr x then(kv.1,v)else kv) (m.map λp=>if p.1=x then(p.1,r)else p):=by
 induction h with
 |nil=>exact .nil
 | @cons y v' r' kvs m h t ih=>
   rw[E2,E2]
   by_cases e:y=x
   ·rw[R0 (show(Sum.inr y:Key)=Sum.inr x by rw[e]),R0 (show y=x from e)];exact .cons hv ih
   ·rw[N0 (show¬(Sum.inr y:Key)=Sum.inr x from λz=>e (Sum.inr.inj z)),N0 (show¬y=x from e)];exact .cons h ih
theorem TbL.snoc{m:Tb}(h:TbL H kvs m){r:Hr}(hv:TeO H v r):TbL H (kvs ++ [(Sum.inr x,v)]) (m ++ [(x,r)]):=by
 induction h with
 |nil=>exact .cons hv .nil
 |cons h t ih=>exact .cons h ih
theorem TbL.put{m:Tb}(h:TbL H kvs m){r:Hr}(hv:TeO H v r):TbL H (zaB kvs (Sum.inr x) v) (zeC m x r):=by
 unfold zaB zeC
 rw[zgm,zdN]
 rcases h.look x with⟨e1,e2⟩|⟨r',v',e1,e2,_⟩
 ·rw[e1,e2,N0 `Z3,N0 `Z3];exact h.snoc hv
 ·rw[e1,e2,R0 (show(some v').isSome=true from rfl),R0 (show(some r').isSome=true from rfl)];exact h.map hv
theorem zv2:∀{a b:Option WM},(PyData.tuple [zer a,zgg a]).eqv (.tuple [zer b,zgg b])=decide (a=b)
 |none,none=>by
  show(PyData.tuple [.none, .tuple []]).eqv (.tuple [.none, .tuple []])=_
  rw[PyData.eqv,PyData.eqvAll,PyData.eqvAll,PyData.eqvAll,PyData.eqv,PyData.eqv,PyData.eqvAll];rfl
 |none,some (w,ms)=>by
  show(PyData.tuple [.none, .tuple []]).eqv (.tuple [.tuple (zI w), .tuple (zI ms)])=_
  rw[PyData.eqv,PyData.eqvAll,PyData.eqv];rfl
 |some (w,ms),none=>by
  show(PyData.tuple [.tuple (zI w), .tuple (zI ms)]).eqv (.tuple [.none, .tuple []])=_
  rw[PyData.eqv,PyData.eqvAll,PyData.eqv];rfl
 |some (w,ms),some (w',ms')=>by
  show(PyData.tuple [.tuple (zI w), .tuple (zI ms)]).eqv (.tuple [.tuple (zI w'), .tuple (zI ms')])=_
  rw[PyData.eqv,PyData.eqvAll,PyData.eqvAll,PyData.eqvAll,zfd,zfd]
  rw[B3]
  simp only[X0,decide_eq_true_eq,Option.some.injEq,Prod.mk.injEq]
  simp
theorem zd6{b:Addr}{Q:VK}(ha:H a=some (.tup xs))(hb:H b=some (.tup ys))(hl:xs.length+ys.length<=1000)(k:∀p H',H' p=some (.tup (xs ++ys))->Same H H'->Q (.ref p) H'):zsD K (.ref a) (.ref b) H Q:=
 ⟨a,b,xs,ys,rfl,rfl, .inl (.inl ha), .inl (.inl hb),P2 (zp hl),λz=>k b H (by rw[z];exact hb) (Same.refl _),λ_ z=>k a H (by rw[z,List.append_nil];exact ha) (Same.refl _),λ_ _ p hp=>k p _ zc (Same.new hp)⟩
theorem zoS{x y:V}{dx dy:PyData}(e:H a=some (.tup [x,y]))(h1:TrC K H x dx)(h2:TrC K H y dy):TrC K H (.ref a) (.tuple [dx,dy]):=by
 refine .tup (.inl (.inl e)) rfl λi v d e1 e2=>?_
 match i with
 |0=>cases e1;cases e2;exact h1
 |1=>cases e1;cases e2;exact h2
 |i+2=>cases e1
theorem zp4{b b':Option WM}:min (PyData.tuple [zer b,zgg b]).depth (PyData.tuple [zer b',zgg b']).depth<=60:=by
 refine Y1 (Nat.min_le_left _ _) ?_
 rw[PyData.depth,PyData.depthAll,PyData.depthAll,PyData.depthAll]
 have h1:=zcI (b:=b)
 have h2:=zg6 (b:=b)
 lia
def LtO(H:Hp)(v:V)(a c:Str)(r:Hr):Prop:=∃t x y,v= .ref t/\H t=some (.tup [.str a, .str c, .int r.1,x,y])/\WmAt H x y r.2
theorem LtO.mono{a c:Str}{r:Hr}(h:LtO H v a c r)(m:∀c xs,H c=some (.tup xs)->H' c=some (.tup xs)):LtO H' v a c r:=let⟨t,x,y,e,h1,w⟩:=h;⟨t,x,y,e,m _ _ h1,w.mono m⟩
inductive LtsO(H:Hp)(nm:Str):List V->List Lt->Prop
 |nil:LtsO H nm [] []
 |cons {v:V} {l:Lt} {us:List V} {L:List Lt} (h:LtO H v nm l.1 l.2) (t:LtsO H nm us L):LtsO H nm (v::us) (l::L)
theorem LtsO.mono{nm:Str}{L:List Lt}(h:LtsO H nm us L)(m:∀c xs,H c=some (.tup xs)->H' c=some (.tup xs)):LtsO H' nm us L:=by
 induction h with
 |nil=>exact .nil
 |cons h t ih=>exact .cons (h.mono m) ih
theorem LtsO.append{nm:Str}{L L':List Lt}(h:LtsO H nm us L)(h':LtsO H nm us' L'):LtsO H nm (us ++us') (L ++L'):=by
 induction h with
 |nil=>exact h'
 |cons h t ih=>exact .cons h ih
theorem LtsO.len{nm:Str}{L:List Lt}(h:LtsO H nm us L):us.length=L.length:=by
 induction h with
 |nil=>rfl
 |cons h t ih=>rw[L1,L1,ih]
def wmR(_:Str)(r:Hr):Prop:=zfg r.2
theorem ztw{tm:Tb}(h:TbOk hs wmR tm)(o:Str):zfg (zay tm o):=by
 unfold zay
 cases e:zJ tm o with
 |none=>exact trivial
 |some r=>exact h.look e
theorem zru{tm:Tb}{b:Option WM}{o:Str}(h:TbOk hs wmR tm)(ho:o∈hs)(hw:zfg (zeu rs b o)):TbOk hs wmR (zdi rs b tm o):=by
 unfold zdi
 split
 ·exact h
 ·exact h.put ho hw
noncomputable def ziX(C:Addr):Sp:=λvs H Q _=>∃(p dx hd td ga:Addr) (v:V) (nm:Str) (n:Int) (b:Option WM) (kv0:List (Key×V)) (tm:Tb) (g:Str) (hs:List Str) (ps:List (Str×Str)) (lks hds:List D),vs=[.ref p]/\H p=some (.ins C dx (zcb v nm hd td ga n))/\H td=some (.dK kv0)/\TbL H kv0 tm/\TbOk hs wmR tm/\Rep H v (zag g hs ps lks hds)/\TownOk g hs ps lks hds/\HfO hds/\nm∈hs/\GoR H ga b/\GoOk nm b/\
 ∀(l:Addr) (us:List V) (kvs:List (Key×V)) (H':Hp),H l=none->H' l=some (.lst us)->LtsO H' nm us (zbT (zA hs hds nm) b tm (due hs ps nm))->H' td=some (.dK kvs)->TbL H' kvs (zcc (zA hs hds nm) b tm (due hs ps nm))->TbOk hs wmR (zcc (zA hs hds nm) b tm (due hs ps nm))->Keep td H H'->Q (.ref l) H'
theorem zjN(Y:Ev K mg):FnOk P w K mg base CX0 7 Y.a_House_letters Y.d_House_letters zaI (ziX Y.c_House):=by
 have G_tied:FnOk P w K mg base CX0 1 Y.a_tied Y.d_tied zgS zlf:=zlm Y
 have G_House_offer:FnOk P w K mg base CX0 6 Y.a_House_offer Y.d_House_offer zb0 (zj6 Y.c_House):=znv Y
 refine Y.House_letters.fn.okQ zai (λvs H Q E h=>?_) `W3
 ·obtain ⟨p,dx,hd,td,ga,v,nm,n,b,kv0,tm,g,hs,ps,lks,hds,rfl,_⟩:=h;rfl
 ·obtain ⟨p,dx,hd,td,ga,v,nm,n,b,kv0,tm,g,hs,ps,lks,hds,rfl,hp,htd,tb0,to0,hv,T,hf,hnm,G,ok,q⟩:=h
  have T10:=T.ten
  refine⟨_,(zf (zx 1 zai.nd (zaR zb))
   (zf (zcZ O3 rfl (zkw (zh G_tied `U3 Y.tied.mg Y.tied.kp Y.tied.b .nil zk (za (zT (qv 0)) (za (zT (qv 0)) zb)))) (zo 2 zai.nd) (zf (zcg (zoK (hu1 hr) (zT (qv 0)) (qv 2) (zaF (v:= .ref Y.a_NOTHING) Y.m_NOTHING rfl)) (zcv 3 rfl (zt (zo 3 zai.nd) (zt (zo 4 zai.nd) (zt (zo 5 zai.nd) zaA)))))
   (zf (zx 6 zai.nd (zcq (qv 0) Y.k_House Y.House_offer.m G_House_offer `U3 Y.House_offer.b .nil zk (za (qv 2) zb)))
   (zi (zae (zK (zrq (zwe hr)) (qv 6) (zn (za (qv 4) (za (qv 5) zb)))) (zf (zkO (hu1 hr) (zT (qv 0)) (qv 2) (zF zd7 (zn (za (zF zap (qv 3) zg) zb)) (qv 6)))
   (zi (zaZ (zgO F.plainAttrs_list F.slot_list_append F.type_list_append zbQ (qv 1) (za (zF zd7 (zn (za (zT (qv 0)) (za (qv 2) (za (zF zap (qv 3) zg) zb)))) (qv 6)) zb))))) zO)))))
   (zi (zr (qv 1))))),?_⟩
  refine⟨few rfl,λlf hlf=>?_⟩
  have S1:=Same.new (o:= .lst ([]:List V)) hlf
  have nlt:lf≠td:=Ne.symm (zj htd hlf)
  have nlp:p≠lf:=zj hp hlf
  refine⟨_,rfl,p,_,dx,_,_,rfl,S1 _ _ hp,Y.k_House,Y.n_House_place,zdU,_,rfl,p,_,dx,_,_,rfl,S1 _ _ hp,Y.k_House,Y.n_House_name,zdo,v,nm,g,hs,ps,lks,hds,rfl,hv.same S1,T,λlt ts H2 hlt ht2 tp tsr s2=>?_⟩
  have ets:=zvj T tp tsr
  have tin:∀o∈ts,o∈hs:=λo ho=>zoo T (tp.mem_iff.mp ho)
  have tl:ts.length<=10:=by rw[tp.length_eq];exact zl4 T nm
  rw[←ets] at q
  have nltt:lt≠td:=λz=>by rw[z,S1 _ _ htd] at hlt;cases hlt
  have nltf:lt≠lf:=λz=>by rw[z,zc] at hlt;cases hlt
  have offok:∀o,zfg (zeu (zA hs hds nm) b o):=λo=>zuW T hf hnm ok
  generalize ers:zA hs hds nm=rs at *
  refine⟨lt,rfl,⟨_,SqL.of ht2⟩,?_⟩
  refine zbe (zhw (K:=K) (xs:=ts.map V.str)) (λi σ' H'=>(∃o2 o3 o4 o5 o6,σ'=[some (.ref p),some (.ref lf),o2,o3,o4,o5,o6])/\H' lt=some (.lst (ts.map V.str))/\(∃kvs us,H' td=some (.dK kvs)/\TbL H' kvs (zcc rs b tm (ts.take i))/\TbOk hs wmR (zcc rs b tm (ts.take i))/\H' lf=some (.lst us)/\LtsO H' nm us (zbT rs b tm (ts.take i)))/\Keep td H H') ?_ ?_ ?_ ?_
  ·exact ⟨⟨_,_,_,_,_,rfl⟩,ht2,⟨kv0,[],s2 _ _ (S1 _ _ htd),tb0.mono λc xs e=>s2 _ _ (S1 _ _ e),to0,s2 _ _ zc, .nil⟩,Keep.of (S1.trans s2)⟩
  ·rintro i σ' H' ⟨_,h,_⟩
   exact SqL.of h
  ·rintro i y σ' H3 hi hy ⟨⟨o2,o3,o4,o5,o6,rfl⟩,ht3,⟨kvs,us,hk3,tb3,to3,hf3,R3⟩,k3⟩
   obtain⟨o,ho,rfl⟩:∃o,ts[i]?=some o/\y= .str o:=by
    rw[V0] at hy
    cases e:ts[i]? with
    |none=>rw[e] at hy;cases hy
    |some th=>rw[e] at hy;cases hy;exact⟨th,rfl,rfl⟩
   rw[D0] at hi
   have npt:p≠td:=zy hp htd (λz=>nomatch z)
   have hp3:=k3 _ _ npt hp
   have ohs:=tin o (Z0 ho)
   have tk:ts.take (i+1)=ts.take i ++ [o]:=by rw[N3,ho];rfl
   have nl3:=zeG (rs:=rs) (b:=b) (os:=ts.take i) (tm:=tm)
   rw[P1] at nl3
   rw[tk,znI,zjX]
   generalize zcc rs b tm (ts.take i)=t3 at *
   generalize zbT rs b tm (ts.take i)=L3 at *
   have kt:∀c xs,H c=some (.tup xs)->H3 c=some (.tup xs):=λc xs e=>k3 _ _ (zy e htd (λz=>nomatch z)) e
   have hv3:Rep H3 v (zag g hs ps lks hds):=by
    refine hv.mono ⟨kt,λc xs e=>⟨xs,k3 _ _ (zy e htd (λz=>nomatch z)) e⟩,λc xs e=>?_⟩
    by_cases z:c=td
    ·rw[z];exact⟨kvs,hk3⟩
    ·exact ⟨xs,k3 _ _ z e⟩
   obtain⟨A3,x3,y3,eA,hA,tx,ty⟩:∃A x y,(za4 kvs (Sum.inr o)).getD (.ref Y.a_NOTHING)= .ref A/\SqT K H3 A [.int (zd9 (zJ t3 o)),x,y]/\(∀H',(∀c xs,H3 c=some (.tup xs)->H' c=some (.tup xs))->TrC K H' x (zer (zay t3 o)))/\∀H',(∀c xs,H3 c=some (.tup xs)->H' c=some (.tup xs))->TrC K H' y (zgg (zay t3 o)):=by
    have wok:=ztw to3 o
    unfold zay at wok⊢
    rcases tb3.look o with⟨e1,e2⟩|⟨r,v',e1,e2,t,x,y,rfl,ht,wa⟩
    ·rw[e1,e2]
     exact⟨Y.a_NOTHING, .non, .ref Y.e_NOTHING,rfl,Y.t_NOTHING _,λ_ _=> .non,λ_ _=> .tup (Y.u_NOTHING _) rfl λi v d e1=>by cases e1⟩
    ·rw[e1] at wok⊢
     rw[e2]
     exact⟨t,x,y,rfl, .inl (.inl ht),λH' m=>zhD (wa.mono m) wok,λH' m=>zoI (wa.mono m) wok⟩
   refine⟨_,rfl,p,_,dx,_,_,rfl,hp3,Y.k_House,Y.n_House_tellings,zn6,td,rfl, .inl ⟨_, .inl hk3⟩,_,rfl,_,DGet.k (k:=Sum.inr o) hk3,?_⟩
   rw[eA]
   generalize enr:zd9 (zJ t3 o)=nr at *
   refine⟨A3,_,rfl,hA,rfl,_,_,rfl,_,_,rfl,_,_,rfl,rfl,?_⟩
   refine⟨_,rfl,p,dx,_,rfl,hp3,rfl,_,rfl,p,dx,hd,td,ga,v,nm,o,n,b,g,hs,ps,lks,hds,rfl,hp3,hv3,T,hf,hnm,ohs,G.mono kt,ok,λqa H4 O4 s4=>?_⟩
   rw[ers] at O4
   obtain⟨x4,y4,hq4,wa4⟩:=O4
   refine⟨_,rfl,_,rfl,_,rfl,few rfl,λp5 hp5=>?_⟩
   have S5:=Same.new (o:= .tup [x3,y3]) hp5
   have s35:=s4.trans S5
   have e5:(upd H4 p5 (.tup [x3,y3])) p5=some (.tup [x3,y3]):=zc
   generalize (upd H4 p5 (HO.tup [x3,y3]))=H5 at *
   have hq5:=S5 _ _ hq4
   have wa5:=wa4.mono λc xs e=>S5 _ _ e
   have m35:∀c xs,H3 c=some (.tup xs)->H5 c=some (.tup xs):=λc xs e=>s35 _ _ e
   refine⟨_,_,zoS hq5 (zhD wa5 (offok o)) (zoI wa5 (offok o)),zoS e5 (tx H5 m35) (ty H5 m35),zp4,_,rfl,?_⟩
   rw[zv2]
   by_cases eo:zeu rs b o=zay t3 o
   ·rw[P0 eo]
    have et:zdi rs b t3 o=t3:=by unfold zdi;rw[R0 eo]
    have en:ziz rs b t3 o=[]:=by unfold ziz;rw[R0 eo]
    rw[et,en,List.append_nil]
    exact za3 rfl ⟨⟨_,_,_,_,_,rfl⟩,s35 _ _ ht3,⟨kvs,us,s35 _ _ hk3,tb3.mono m35,to3,s35 _ _ hf3,R3.mono m35⟩,k3.trans (Keep.of s35)⟩
   rw[U0 eo]
   have et:zdi rs b t3 o=zeC t3 o (zd9 (zJ t3 o)+1,zeu rs b o):=by unfold zdi;rw[N0 eo]
   have en:ziz rs b t3 o=[(o,zd9 (zJ t3 o)+1,zeu rs b o)]:=by unfold ziz;rw[N0 eo]
   have tok:=zru (rs:=rs) (b:=b) to3 ohs (offok o)
   rw[et] at tok⊢
   rw[en]
   rw[enr] at tok⊢
   refine zcl rfl ⟨_,rfl,_,_,rfl,rfl,few rfl,λp6 hp6=>?_⟩
   have S6:=Same.new (o:= .tup [V.int (nr+1)]) hp6
   refine⟨_,rfl,zd6 (xs:=[V.int (nr+1)]) (ys:=[x4,y4]) zc (S6 _ _ hq5) (by decide:1+2<=1000) λp7 H7 hp7 s7=>?_⟩
   have hp7:H7 p7=some (.tup [V.int (nr+1),x4,y4]):=hp7
   have s57:=S6.trans s7
   have s37:=s35.trans s57
   have hpp7:=s37 _ _ hp3
   have hk7:=s37 _ _ hk3
   have hq7:=s57 _ _ hq5
   have hf7:=s37 _ _ hf3
   have ht7:=s37 _ _ ht3
   have wa7:=wa5.mono λc xs e=>s57 _ _ e
   have kl:=tb3.len
   have t3l:=to3.len
   refine⟨_,rfl,p,_,dx,_,_,rfl,hpp7,Y.k_House,Y.n_House_tellings,zn6,_,rfl,td,_,rfl, .inl ⟨kvs,Sum.inr o,hk7,rfl,zp (),rfl⟩,?_⟩
   have nq:∀{c xs},H7 c=some (.tup xs)->c≠td:=λ{c xs} e=>zy e hk7 (λz=>nomatch z)
   have m78:∀c xs,H7 c=some (.tup xs)->upd H7 td (.dK (zaB kvs (Sum.inr o) (.ref p7))) c=some (.tup xs):=λc xs e=>by rw[ze (nq e)];exact e
   have k78:Keep td H7 (upd H7 td (.dK (zaB kvs (Sum.inr o) (.ref p7)))):=Keep.upd _ _ _
   have hk8:upd H7 td (.dK (zaB kvs (Sum.inr o) (.ref p7))) td=some (.dK (zaB kvs (Sum.inr o) (.ref p7))):=zc
   generalize (upd H7 td (.dK (zaB kvs (Sum.inr o) (.ref p7))))=H8 at *
   have hf8:=k78 _ _ nlt hf7
   have hpp8:=k78 _ _ npt hpp7
   have ht8:=k78 _ _ nltt ht7
   refine⟨_,rfl, .inl ⟨rfl,_,SqL.of hf8⟩,_,rfl,p,_,dx,_,_,rfl,hpp8,Y.k_House,Y.n_House_name,zdo,_,rfl,_,rfl,_,_,rfl,rfl,few rfl,λp9 hp9=>?_⟩
   have S9:=Same.new (o:= .tup [V.str nm,V.str o,V.int (nr+1)]) hp9
   refine⟨_,rfl,zd6 (xs:=[V.str nm,V.str o,V.int (nr+1)]) (ys:=[x4,y4]) zc (S9 _ _ (m78 _ _ hq7)) (by decide:3+2<=1000) λpA HA hpA sA=>?_⟩
   have hpA:HA pA=some (.tup [V.str nm,V.str o,V.int (nr+1),x4,y4]):=hpA
   have s8A:=S9.trans sA
   have m7A:∀c xs,H7 c=some (.tup xs)->HA c=some (.tup xs):=λc xs e=>s8A _ _ (m78 _ _ e)
   have m3A:∀c xs,H3 c=some (.tup xs)->HA c=some (.tup xs):=λc xs e=>m7A _ _ (s37 _ _ e)
   have hfA:=s8A _ _ hf8
   have ul:=R3.len
   refine⟨lf,us,_,rfl,rfl,hfA,zp (),⟨_,_,_,_,_,rfl⟩,?_,⟨zaB kvs (Sum.inr o) (.ref p7),us ++ [.ref pA],?_,?_,tok,zc,?_⟩,?_⟩
   ·rw[ze nltf];exact s8A _ _ ht8
   ·rw[ze (Ne.symm nlt)];exact s8A _ _ hk8
   ·have mB:∀c xs,HA c=some (.tup xs)->upd HA lf (.lst (us ++ [.ref pA])) c=some (.tup xs):=λc xs e=>by rw[ze (zy e hfA (λz=>nomatch z))];exact e
    exact(tb3.mono λc xs e=>mB _ _ (m3A _ _ e)).put ⟨p7,x4,y4,rfl,mB _ _ (m7A _ _ hp7),wa7.mono λc xs e=>mB _ _ (m7A _ _ e)⟩
   ·have mB:∀c xs,HA c=some (.tup xs)->upd HA lf (.lst (us ++ [.ref pA])) c=some (.tup xs):=λc xs e=>by rw[ze (zy e hfA (λz=>nomatch z))];exact e
    exact(R3.mono λc xs e=>mB _ _ (m3A _ _ e)).append (.cons ⟨pA,x4,y4,rfl,mB _ _ hpA,wa7.mono λc xs e=>mB _ _ (m7A _ _ e)⟩ .nil)
   ·exact λc u nc e=>by rw[ze (zj e hlf)];exact s8A _ _ (k78 c u nc (s37 _ _ (k3 c u nc e)))
  ·rintro σ' H3 ⟨⟨o2,o3,o4,o5,o6,rfl⟩,ht3,⟨kvs,us,hk3,tb3,to3,hf3,R3⟩,k3⟩
   rw[D0,List.take_length] at tb3 to3 R3
   exact⟨_,rfl,q lf us kvs H3 hlf hf3 R3 hk3 tb3 to3 k3⟩
theorem zia{ws ms:List Str}:∀{rs:List D},(∀r∈rs,zC r=true)->zW ws ms rs= .non\/∃i,zW ws ms rs= .int i
 |[],_=> .inr ⟨0,rfl⟩
 |r::rs,h=>by
  rw[zW]
  by_cases z:zgQ ws ms none (zjC r)=true
  ·rw[R0 z]
   obtain⟨cs,x,rfl,_,_,hx⟩:=zkb (h r N1)
   exact hx
  ·rw[N0 z]
   exact zia λr hr=>h r (F1 _ hr)
theorem zov(T:TownOk g hs ps lks hds)(h:x∈hs):∃(j:Nat) (rs:List D),hs[j]?=some x/\lks[j]?=some (.tup rs)/\zA hs lks x=rs/\∀r∈rs,zC r=true:=by
 obtain⟨j,rs,e1,e2,hh⟩:=zvY T h
 exact⟨j,rs,e1,e2,zhL T.hs_nd e1 e2,hh.2⟩
def hrR(x:Str)(r:Hr):Prop:=match r.2 with|none=>True|some (w,ms)=>(∃ws,w=x::ws)/\w.length<=10/\(∀y∈w,zm y=true)/\(∀y∈ms,zm y=true)/\ms.length<=40
theorem zox{nm:Str}{r:Hr}{e:WM}(hn:zm nm=true)(hl:∀r∈rs,zC r=true)(h:hrR x r)(o:zeE nm rs (x,r)=some e):EOk nm rs e/\GoOk nm (some e):=by
 obtain⟨n,b⟩:=r
 cases b with
 |none=>cases o
 |some p=>
  obtain⟨w,ms⟩:=p
  have o:(if nm∈w\/zc3 (zW (nm::w) ms rs)=true then none else some (nm::w,ms))=some e:=o
  by_cases c:nm∈w\/zc3 (zW (nm::w) ms rs)=true
  ·rw[R0 c] at o;cases o
  ·rw[N0 c] at o
   cases o
   obtain⟨⟨ws,ew⟩,lw,nw,nms,lm⟩:=h
   have nw':∀y∈nm::w,zm y=true:=λy hy=>(D1.mp hy).elim (λz=>by rw[z];exact hn) (nw y)
   refine⟨⟨⟨w,rfl⟩,nw',nms,by show(nm::w).length<=80;rw[L1];lia,by show ms.length<=100;lia,?_⟩,⟨w,rfl,()⟩,nw',nms,lm⟩
   rcases zia (ws:=nm::w) (ms:=ms) hl with z|⟨i,z⟩
   ·exact absurd (.inr (by rw[z];rfl)) c
   ·show zW (nm::w) ms rs= .int (wI rs (nm::w,ms))
    rw[z];unfold wI;simp only[z]
theorem znw{nm:Str}{m:Tb}{p:Str×Hr}:zdd nm rs (m ++ [p])=zdd nm rs m ++(zeE nm rs p).toList:=by
 unfold zdd
 rw[List.filterMap_append]
 congr 1
theorem TbL.get{m:Tb}(h:TbL H kvs m):∀{i:Nat} {v:V},(kvs.map (·.2))[i]?=some v->∃p,m[i]?=some p/\TeO H v p.2:=by
 induction h with
 |nil=>intro i v e;cases e
 | @cons x v' r kvs m h t ih=>
   intro i v e
   cases i with
   |zero=>cases e;exact⟨_,rfl,h⟩
   |succ i=>exact ih e
theorem ztT{w:List Str}:(w.any λy=>decide (y=x))=decide (x∈w):=by
 rw[B3,J2,List.any_eq_true]
 exact⟨λ⟨y,hy,e⟩=>by rw[←O0 e];exact hy,λh=>⟨_,h,P0 rfl⟩⟩
theorem PairO.mono{b:Addr}{e:WM}(h:PairO H b e)(m:∀c xs,H c=some (.tup xs)->H' c=some (.tup xs)):PairO H' b e:=let⟨pw,pm,h1,h2,h3⟩:=h;⟨pw,pm,m _ _ h1,m _ _ h2,m _ _ h3⟩
theorem Rep.monoT(h:Rep H v d)(m:∀c xs,H c=some (.tup xs)->H' c=some (.tup xs)):okD d=true->Rep H' v d:=by
 induction h with
 |non=>exact λ_=> .non
 |bl b=>exact λ_=> .bl b
 |int i=>exact λ_=> .int i
 |str x h=>exact λ_=> .str x h
 |tup h l b r ih=>
  intro o
  rw[okD] at o
  exact .tup (m _ _ h) l b λi v d e1 e2=>ih i v d e1 e2 (zom o d (Z0 e2))
 |lst h=>intro o;cases o
 |dK h=>intro o;cases o
theorem zY(h:Rep H v (zag g hs ps lks hds))(T:TownOk g hs ps lks hds)(m:∀c xs,H c=some (.tup xs)->H' c=some (.tup xs)):Rep H' v (zag g hs ps lks hds):=Rep.monoT h m (zsw T (by have:=T.lp;lia)).1
noncomputable def zlG(C:Addr):Sp:=λvs H Q _=>∃(p dx hd td ga:Addr) (v:V) (nm:Str) (n:Int) (kh:List (Key×V)) (hm:Tb) (g:Str) (hs:List Str) (ps:List (Str×Str)) (lks hds:List D),vs=[.ref p]/\H p=some (.ins C dx (zcb v nm hd td ga n))/\H hd=some (.dK kh)/\TbL H kh hm/\TbOk hs hrR hm/\Rep H v (zag g hs ps lks hds)/\TownOk g hs ps lks hds/\nm∈hs/\
 ∀(l:Addr) (us:List V) (H':Hp),H l=none->H' l=some (.lst us)->AtG PairO H' us (zdd nm (zA hs lks nm) hm)->Same H H'->Q (.ref l) H'
theorem zo4(Y:Ev K mg):FnOk P w K mg base CX0 6 Y.a_House_open_ways Y.d_House_open_ways zaN (zlG Y.c_House):=by
 have G_worth:FnOk P w K mg base CX0 5 Y.a_worth Y.d_worth zgf zks:=zmM Y
 refine Y.House_open_ways.fn.okQ zaw (λvs H Q E h=>?_) `W3
 ·obtain ⟨p,dx,hd,td,ga,v,nm,n,kh,hm,g,hs,ps,lks,hds,rfl,_⟩:=h;rfl
 ·obtain ⟨p,dx,hd,td,ga,v,nm,n,kh,hm,g,hs,ps,lks,hds,rfl,hp,hhd,tb,tok,hv,T,hnm,q⟩:=h
  have T10:=T.ten
  have hml:=tok.len
  obtain⟨j,rs,hj,hlj,er,hlk⟩:=zov T hnm
  rw[er] at q
  have hnn:=T.names nm hnm
  refine⟨_,(zf (zx 1 zaw.nd (zaR zb))
   (zf (zcZ O3 rfl (zq5 (zT (qv 0))) (zcv 3 rfl (zt (zo 2 zaw.nd) (zt (zo 3 zaw.nd) (zt (zo 4 zaw.nd) zaA)))) (zf (zae (t_w (zmd (zK zkY (qv 3) zcj) (zhd (zK zaW (zT (qv 0)) (qv 3))))) (zi zsv) zO)
   (zi (zae (zK zs6 (zh G_worth `U3 Y.worth.mg Y.worth.kp Y.worth.b .nil zk (za (zT (qv 0)) (za (zF zd7 (zn (za (zT (qv 0)) zb)) (qv 3)) (za (qv 4) zb)))) zcj) (zi (zaZ (zgO F.plainAttrs_list F.slot_list_append F.type_list_append zbQ (qv 1) (za (zn (za (zF zd7 (zn (za (zT (qv 0)) zb)) (qv 3)) (za (qv 4) zb))) zb)))) zO))))
   (zi (zr (zkT (qv 1)))))),?_⟩
  refine⟨few rfl,λlf hlf=>?_⟩
  have S1:=Same.new (o:= .lst ([]:List V)) hlf
  have nlh:lf≠hd:=Ne.symm (zj hhd hlf)
  have nph:p≠hd:=zy hp hhd (λz=>nomatch z)
  refine⟨_,rfl,p,_,dx,_,_,rfl,S1 _ _ hp,Y.k_House,Y.n_House_hearings,zkp,hd,kh,rfl,S1 _ _ hhd,λob nd=>?_⟩
  refine zbe zuC (λi σ' H'=>(∃o2 o3 o4,σ'=[some (.ref p),some (.ref lf),o2,o3,o4])/\H' hd=some (.frz ob (.dK kh))/\(∃us,H' lf=some (.lst us)/\AtG PairO H' us (zdd nm rs (hm.take i)))/\(∀c o,c≠hd->H c=some o->H' c=some o)) ?_ ?_ ?_ ?_
  ·refine ⟨⟨_,_,_,rfl⟩,zc,⟨[],?_,rfl,λi v p e=>by cases e⟩,λc o n e=>?_⟩
   ·rw[ze nlh];exact zc
   ·rw[ze n];exact S1 _ _ e
  ·exact λi σ' H' z=>z.2.1
  ·rintro i y σ' H3 hi hy ⟨⟨o2,o3,o4,rfl⟩,hz3,⟨us,hf3,R3⟩,k3⟩
   obtain⟨pr,ep,t,x,yy,rfl,ht,wa⟩:=tb.get hy
   have hpr:=Z0 ep
   have hok:=(tok.mem pr hpr).2
   have tk:hm.take (i+1)=hm.take i ++ [pr]:=by rw[N3,ep];rfl
   have lo:(zdd nm rs (hm.take i)).length<=10:=Y1 (List.length_filterMap_le _ _) (by rw[P1];lia)
   rw[tk,znw]
   have kt:∀c xs,H c=some (.tup xs)->H3 c=some (.tup xs):=λc xs e=>k3 _ _ (zy e hhd (λz=>nomatch z)) e
   have hp3:=k3 _ _ nph hp
   have wa3:=wa.mono kt
   have ht3:=kt _ _ ht
   have ul:=R3.1
   generalize zdd nm rs (hm.take i)=es at *
   obtain⟨px,nr,b⟩:=pr
   refine⟨t,_,rfl, .inl (.inl ht3),rfl,_,_,rfl,_,_,rfl,_,_,rfl,rfl,?_⟩
   match b,wa3,hok with
   |none,⟨ex,e,ey,h2⟩,_=>
    subst ex ey
    refine⟨_,rfl,rfl,_,rfl,zcl rfl (zcl rfl ⟨⟨_,_,_,rfl⟩,hz3,⟨us,hf3,?_⟩,k3⟩)⟩
    show AtG PairO H3 us (es ++ [])
    rw[List.append_nil];exact R3
   |some (w,ms),⟨pw,pm,ex,ey,h2,h3⟩,hok=>
    subst ex ey
    obtain⟨⟨ws,ew⟩,lw,nw,nms,lm⟩:=id hok
    refine⟨_,rfl,rfl,_,rfl,za3 rfl ?_⟩
    refine⟨_,rfl,p,_,dx,_,_,rfl,hp3,Y.k_House,Y.n_House_name,zdo,_,rfl,pw,_,rfl, .inr (.inl (.inl h2)),rfl,zbV,_,rfl,?_⟩
    rw[zed,ztT]
    have oe:zeE nm rs (px,nr,some (w,ms))=if nm∈w\/zc3 (zW (nm::w) ms rs)=true then none else some (nm::w,ms):=rfl
    by_cases c:nm∈w
    ·rw[P0 c]
     refine zcl rfl ⟨⟨_,_,_,rfl⟩,hz3,⟨us,hf3,?_⟩,k3⟩
     rw[oe,R0 (.inl c)]
     show AtG PairO H3 us (es ++ [])
     rw[List.append_nil];exact R3
    rw[U0 c]
    refine za3 rfl ?_
    refine⟨_,rfl,p,_,dx,_,_,rfl,hp3,Y.k_House,Y.n_House_place,zdU,_,rfl,p,_,dx,_,_,rfl,hp3,Y.k_House,Y.n_House_name,zdo,few rfl,λb1 hb1=>?_⟩
    have B1:=Same.new (o:= .tup [V.str nm]) hb1
    refine⟨_,rfl,zd6 (xs:=[V.str nm]) (ys:=w.map V.str) zc (B1 _ _ h2) (by rw[D0];show 1+_<=_;lia) λb2 H4 hb2 s4=>?_⟩
    have hb2:H4 b2=some (.tup ((nm::w).map V.str)):=hb2
    have s34:=B1.trans s4
    have nw':∀y∈nm::w,zm y=true:=λy hy=>(D1.mp hy).elim (λz=>by rw[z];exact hnn) (nw y)
    have hv4:Rep H4 v (zag g hs ps lks hds):=(zY hv T kt).same s34
    refine⟨_,rfl,v,b2,pm,nm,w,ms,g,hs,ps,lks,hds,j,rs,rfl,hv4,T,hj,hlj,hb2,s34 _ _ h3,nw',nms,(),(),λu H5 ru s5=>⟨rfl,_,rfl,?_⟩⟩
    rw[ztk ru]
    have s35:=s34.trans s5
    cases eb:zc3 (zW (nm::w) ms rs)with
    |true=>
     refine za3 rfl ⟨⟨_,_,_,rfl⟩,s35 _ _ hz3,⟨us,s35 _ _ hf3,?_⟩,λc o n e=>s35 _ _ (k3 c o n e)⟩
     rw[oe,R0 (.inr eb)]
     show AtG PairO H5 us (es ++ [])
     rw[List.append_nil];exact AtG.mono R3 λc e h=>PairO.mono h λc xs e=>s35 _ _ e
    |false=>
     have hp5:=s35 _ _ hp3
     have hf5:=s35 _ _ hf3
     refine zcl rfl ⟨_,rfl, .inl ⟨rfl,_,SqL.of hf5⟩,_,rfl,p,_,dx,_,_,rfl,hp5,Y.k_House,Y.n_House_name,zdo,few rfl,λb6 hb6=>?_⟩
     have B6:=Same.new (o:= .tup [V.str nm]) hb6
     refine⟨_,rfl,zd6 (xs:=[V.str nm]) (ys:=w.map V.str) zc (B6 _ _ (s35 _ _ h2)) (by rw[D0];show 1+_<=_;lia) λb7 H7 hb7 s7=>?_⟩
     have hb7:H7 b7=some (.tup ((nm::w).map V.str)):=hb7
     refine⟨_,rfl,few rfl,λb8 hb8=>?_⟩
     have B8:=Same.new (o:= .tup [V.ref b7,V.ref pm]) hb8
     have s38:=((s35.trans B6).trans s7).trans B8
     have e8:(upd H7 b8 (.tup [V.ref b7,V.ref pm])) b8=some (.tup [V.ref b7,V.ref pm]):=zc
     have hb78:=B8 _ _ hb7
     generalize (upd H7 b8 (HO.tup [V.ref b7,V.ref pm]))=H8 at *
     have hf8:=s38 _ _ hf3
     have up:∀c xs,H8 c=some (.tup xs)->upd H8 lf (.lst (us ++ [.ref b8])) c=some (.tup xs):=λc xs e=>by rw[ze (zy e hf8 (λz=>nomatch z))];exact e
     refine⟨lf,us,_,rfl,rfl,hf8,zp (),⟨_,_,_,rfl⟩,?_,⟨us ++ [.ref b8],zc,?_⟩,λc o n e=>?_⟩
     ·rw[ze (Ne.symm nlh)];exact s38 _ _ hz3
     ·rw[oe,N0 (λz=>z.elim c (λz=>by rw[eb] at z;cases z))]
      exact AtG.snoc (AtG.mono R3 λc e h=>PairO.mono h λc xs e=>up _ _ (s38 _ _ e)) ⟨b7,pm,up _ _ e8,up _ _ hb78,up _ _ (s38 _ _ h3)⟩
     ·rw[ze (zj e hlf)];exact s38 _ _ (k3 c o n e)
  ·rintro σ' H3 ⟨⟨o2,o3,o4,rfl⟩,hz3,⟨us,hf3,R3⟩,k3⟩
   rw[D0,tb.len,List.take_length] at R3
   refine⟨_,rfl,hd,ob, .dK kh,hz3,(λo' u' z=>by have z:H hd=some (.frz o' u'):=z;rw[hhd] at z;cases z),?_⟩
   have up:∀c xs,H3 c=some (.tup xs)->upd H3 hd (.dK kh) c=some (.tup xs):=λc xs e=>by rw[ze (zy e hz3 (λz=>nomatch z))];exact e
   refine q lf us _ hlf (by rw[ze nlh];exact hf3) (AtG.mono R3 λc e h=>PairO.mono h up) λc o e=>?_
   by_cases z:c=hd
   ·rw[z,zc];rw[z,hhd] at e;exact e
   ·rw[ze z];exact k3 c o z e
structure HsAt(C:Addr)(hs:List Str)(H:Hp)(p dx hd td ga:Addr)(v:V)(nm:Str)(n:Int)(b:Option WM)(kh:List (Key×V))(hm:Tb)(kt:List (Key×V))(tm:Tb):Prop where
 hp:H p=some (.ins C dx (zcb v nm hd td ga n))
 hh:H hd=some (.dK kh)
 th:TbL H kh hm
 oh:TbOk hs hrR hm
 ht:H td=some (.dK kt)
 tt:TbL H kt tm
 ot:TbOk hs wmR tm
 gr:GoR H ga b
 go:GoOk nm b
 ne:hd≠td
structure HInv(g nm:Str)(lrs hrs:List D)(os:List Str)(b:Option WM)(hm tm:Tb)(L:List Lt):Prop where
 goal:nm=g->b=some ([nm],[])
 best:nm≠g->zh7 lrs (zdd nm lrs hm) b
 told:∀o∈os,zay tm o=zeu hrs b o
 last:∀y,zft L y=zay tm y
noncomputable def zjK(C:Addr):Sp:=λvs H Q _=>∃(p dx hd td ga:Addr) (v:V) (nm:Str) (n:Int) (g:Str) (hs:List Str) (ps:List (Str×Str)) (lks hds:List D),vs=[.ref p]/\HsAt C hs H p dx hd td ga v nm n none [] [] [] []/\Rep H v (zag g hs ps lks hds)/\TownOk g hs ps lks hds/\HfO hds/\nm∈hs/\
 ∀(l ga':Addr) (us:List V) (n':Int) (b:Option WM) (kt:List (Key×V)) (tm:Tb) (L:List Lt) (H':Hp),H l=none->H' l=some (.lst us)->LtsO H' nm us L->HsAt C hs H' p dx hd td ga' v nm n' b [] [] kt tm->HInv g nm (zA hs lks nm) (zA hs hds nm) (due hs ps nm) b [] tm L->(∀c o,c≠p->c≠hd->c≠td->H c=some o->H' c=some o)->L.length<=10->L=zbT (zA hs hds nm) b [] (due hs ps nm)->tm=zcc (zA hs hds nm) b [] (due hs ps nm)->Q (.ref l) H'
theorem zjR(h:Rep H v (zag g hs ps lks hds)):∃pt us,v= .ref pt/\H pt=some (.tup us)/\us[0]?=some (.str g):=by
 obtain⟨pt,us,rfl,hp,rr,_⟩:=h.ofT
 have h0:0<us.length:=by rw[rr.1];exact Nat.zero_lt_succ _
 have:=rr.2 0 us[0] (.str g) (F0 h0) rfl
 refine⟨pt,us,rfl,hp,?_⟩
 rw[F0 h0]
 cases hh:us[0] with
 |str y=>rw[hh] at this;cases this;rfl
 |_=>rw[hh] at this;cases this
theorem zmX(Y:Ev K mg):FnOk P w K mg base CX0 8 Y.a_House_begin Y.d_House_begin zb4 (zjK Y.c_House):=by
 have G_House_letters:FnOk P w K mg base CX0 7 Y.a_House_letters Y.d_House_letters zaI (ziX Y.c_House):=zjN Y
 have G_House_go_by:FnOk P w K mg base CX0 1 Y.a_House_go_by Y.d_House_go_by za2 (ziW Y.c_House):=zjP Y
 refine Y.House_begin.fn.okQ zjb (λvs H Q E h=>?_) `W3
 ·obtain ⟨p,dx,hd,td,ga,v,nm,n,g,hs,ps,lks,hds,rfl,_⟩:=h;rfl
 ·obtain ⟨p,dx,hd,td,ga,v,nm,n,g,hs,ps,lks,hds,rfl,A0,hv,T,hf,hnm,q⟩:=h
  obtain⟨pt,us,rfl,hpt,h0⟩:=zjR hv
  have hp:=A0.hp
  have npt:p≠td:=zy hp A0.ht (λz=>nomatch z)
  have nph:p≠hd:=zy hp A0.hh (λz=>nomatch z)
  refine⟨_,(zhS (zae (zK zac (zT (qv 0)) (zM zw (zT (qv 0)) zg)) (zi (zaZ (zcq (qv 0) Y.k_House Y.House_go_by.m G_House_go_by `U3 Y.House_go_by.b .nil zk (za (zn (za (zn (za (zT (qv 0)) zb)) (za (zn zb) zb))) zb)))) zO)
   (zi (zr (zaH (qv 0) Y.k_House Y.House_letters.m G_House_letters `U3 Y.House_letters.b .nil zk)))),?_⟩
  refine⟨λσ' H'=>σ'=[some (.ref p)]/\∃ga' n' b,H' p=some (.ins Y.c_House dx (zcb (.ref pt) nm hd td ga' n'))/\GoR H' ga' b/\GoOk nm b/\(nm=g->b=some ([nm],[]))/\(nm≠g->b=none)/\Keep p H H',?_,?_⟩
  ·refine ⟨_,rfl,p,_,dx,_,_,rfl,hp,Y.k_House,Y.n_House_name,zdo,_,rfl,p,_,dx,_,_,rfl,hp,Y.k_House,Y.n_House_place,zdU,pt,us,0,_,rfl,rfl, .inl (.inl hpt),zZ (j:=0) h0,rfl,_,rfl,?_⟩
   rw[show decide (V.str nm=V.str g)=decide (nm=g)from decide_eq_decide.mpr ⟨λz=>by injection z,λz=>by rw[z]⟩]
   by_cases e:nm=g
   ·rw[P0 e]
    refine zcl rfl ⟨_,rfl,p,dx,_,rfl,hp,rfl,_,rfl,p,_,dx,_,_,rfl,hp,Y.k_House,Y.n_House_name,zdo,few rfl,λwt hwt=>⟨few rfl,λmt hmt=>⟨few rfl,λg' hg'=>?_⟩⟩⟩
    have S1:=Same.new (o:= .tup [V.str nm]) hwt
    have S2:=Same.new (o:= .tup ([]:List V)) hmt
    have S3:=Same.new (o:= .tup [V.ref wt,V.ref mt]) hg'
    have s13:=S1.trans (S2.trans S3)
    have hp3:=s13 _ _ hp
    have e1:=S3 _ _ (S2 _ _ (zc (H:=H) (a:=wt) (o:= .tup [V.str nm])))
    have e2:=S3 _ _ (zc (H:=upd H wt (.tup [V.str nm])) (a:=mt) (o:= .tup ([]:List V)))
    have gok:GoOk nm (some ([nm],[])):=⟨⟨[],rfl,Z1 _⟩,λy hy=>by rw[C2.mp hy];exact T.names nm hnm,(λ_ z=>nomatch z),Z1 _⟩
    have G3:GoR (upd (upd (upd H wt (.tup [V.str nm])) mt (.tup ([]:List V))) g' (.tup [V.ref wt,V.ref mt])) g' (some ([nm],[])):=⟨_,_,zc,wt,mt,rfl,rfl,e1,e2⟩
    refine⟨p,dx,hd,td,ga,g', .ref pt,nm,n,none,some ([nm],[]),rfl,hp3,A0.gr.mono λc xs e=>s13 _ _ e,G3,trivial,gok.wm,λn'=>⟨rfl,g',n',_,zc,G3.mono λc xs e=>?_,gok,λ_=>rfl,λz=>absurd e z,(Keep.of s13).trans (Keep.upd _ _ _)⟩⟩
    rw[ze (zy e hp3 (λz=>nomatch z))];exact e
   ·rw[U0 e]
    exact za3 rfl ⟨rfl,ga,n,none,hp,A0.gr,trivial,λz=>absurd z e,λ_=>rfl,Keep.refl _ _⟩
  ·rintro σ' H1 ⟨rfl,ga',n',b,hp1,G1,gok,eg,eg',k1⟩
   have htd1:=k1 _ _ (Ne.symm npt) A0.ht
   have m1:∀c xs,H c=some (.tup xs)->H1 c=some (.tup xs):=λc xs e=>k1 _ _ (zy e hp (λz=>nomatch z)) e
   have hv1:=zY hv T m1
   refine⟨_,rfl,p,dx,_,rfl,hp1,rfl,p,dx,hd,td,ga', .ref pt,nm,n',b,[],[],g,hs,ps,lks,hds,rfl,hp1,htd1, .nil, .nil,hv1,T,hf,hnm,G1,gok,λl us2 kt H2 hl hl2 R2 htd2 tb2 tok2 k2=>?_⟩
   have hl0:H l=none:=by
    cases z:H l with
    |none=>rfl
    |some u=>
     by_cases y:l=p
     ·rw[y,hp1] at hl;cases hl
     ·rw[k1 l u y z] at hl;cases hl
   have dl:∀{hr:List D} {b:Option WM} {tm:Tb},(zbT hr b tm (due hs ps nm)).length<=10:=λ{hr b tm}=>Y1 zeG (Y1 (List.length_filter_le _ _) T.ten)
   have m2:∀c xs,H1 c=some (.tup xs)->H2 c=some (.tup xs):=λc xs e=>k2 _ _ (zy e htd1 (λz=>nomatch z)) e
   refine q l ga' us2 n' b kt _ _ H2 hl0 hl2 R2 ⟨k2 _ _ npt hp1,k2 _ _ A0.ne (k1 _ _ (Ne.symm nph) A0.hh), .nil, .nil,htd2,tb2,tok2,G1.mono m2,gok,A0.ne⟩ ⟨eg,λz=>?_,λo ho=>by rw[zfV,R0 ho],?_⟩ (λc o n1 n2 n3 e=>k2 c o n3 (k1 c o n1 e)) dl rfl rfl
   ·rw[eg' z];rfl
   ·exact zgN (T:=[]) λy=>rfl
theorem zjw{nm:Str}{p:Str×Hr}{e:WM}(h:hrR p.1 p.2)(o:zeE nm rs p=some e):∃ws,e.1=nm::p.1::ws:=by
 obtain⟨x,n,b⟩:=p
 cases b with
 |none=>cases o
 |some q=>
  obtain⟨w,ms⟩:=q
  have o:(if nm∈w\/zc3 (zW (nm::w) ms rs)=true then none else some (nm::w,ms))=some e:=o
  by_cases c:nm∈w\/zc3 (zW (nm::w) ms rs)=true
  ·rw[R0 c] at o;cases o
  ·rw[N0 c] at o
   cases o
   obtain⟨⟨ws,ew⟩,_⟩:=h
   exact⟨ws,by show nm::w=_;rw[ew]⟩
theorem zmy{nm:Str}{rs:List D}:∀{m:Tb},(m.map (·.1)).Nodup->(∀p∈m,hrR p.1 p.2)->((zdd nm rs m).map (·.1)).Nodup
 |[],_,_=>List.nodup_nil
 |p::m,nd,h=>by
  rw[E2,U2] at nd
  have ih:=zmy (nm:=nm) (rs:=rs) (m:=m) nd.2 λp hp=>h p (F1 _ hp)
  show((List.filterMap (zeE nm rs) (p::m)).map (·.1)).Nodup
  cases e:zeE nm rs p with
  |none=>rw[List.filterMap_cons_none e];exact ih
  |some w=>
   rw[List.filterMap_cons_some e,E2,U2]
   refine⟨λz=>?_,ih⟩
   obtain⟨w',hw',ew⟩:=X1.mp z
   obtain⟨p',hp',e'⟩:=List.mem_filterMap.mp hw'
   obtain⟨ws,h1⟩:=zjw (h p N1) e
   obtain⟨ws',h2⟩:=zjw (h p' (F1 _ hp')) e'
   rw[h1,h2] at ew
   injection ew with _ ew
   injection ew with ew _
   exact nd.1 (by rw[←ew];exact X1.mpr ⟨p',hp',rfl⟩)
noncomputable def zfx(C:Addr):Sp:=λvs H Q _=>∃(p dx hd td ga:Addr) (v:V) (nm:Str) (n:Int) (b:Option WM) (kh kt:List (Key×V)) (hm tm:Tb) (L0:List Lt) (g:Str) (hs:List Str) (ps:List (Str×Str)) (lks hds:List D),vs=[.ref p]/\HsAt C hs H p dx hd td ga v nm n b kh hm kt tm/\(nm=g->b=some ([nm],[]))/\(∀y,zft L0 y=zay tm y)/\Rep H v (zag g hs ps lks hds)/\TownOk g hs ps lks hds/\HfO hds/\nm∈hs/\
 ∀(l ga':Addr) (us:List V) (n':Int) (b':Option WM) (kt':List (Key×V)) (tm':Tb) (L:List Lt) (H':Hp),H l=none->H' l=some (.lst us)->LtsO H' nm us L->HsAt C hs H' p dx hd td ga' v nm n' b' kh hm kt' tm'->HInv g nm (zA hs lks nm) (zA hs hds nm) (due hs ps nm) b' hm tm' (L0 ++L)->(∀c o,c≠p->c≠td->H c=some o->H' c=some o)->L.length<=10->L=zbT (zA hs hds nm) b' tm (due hs ps nm)->tm'=zcc (zA hs hds nm) b' tm (due hs ps nm)->Q (.ref l) H'
theorem zg8(Y:Ev K mg):FnOk P w K mg base CX0 8 Y.a_House_choose Y.d_House_choose zaQ (zfx Y.c_House):=by
 have G_House_letters:FnOk P w K mg base CX0 7 Y.a_House_letters Y.d_House_letters zaI (ziX Y.c_House):=zjN Y
 have G_House_go_by:FnOk P w K mg base CX0 1 Y.a_House_go_by Y.d_House_go_by za2 (ziW Y.c_House):=zjP Y
 have G_House_open_ways:FnOk P w K mg base CX0 6 Y.a_House_open_ways Y.d_House_open_ways zaN (zlG Y.c_House):=zo4 Y
 have G_most_liked:FnOk P w K mg base CX0 7 Y.a_most_liked Y.d_most_liked zcN zwA:=zjt Y
 refine Y.House_choose.fn.okQ zim (λvs H Q E h=>?_) `W3
 ·obtain ⟨p,dx,hd,td,ga,v,nm,n,b,kh,kt,hm,tm,L0,g,hs,ps,lks,hds,rfl,_⟩:=h;rfl
 ·obtain ⟨p,dx,hd,td,ga,v,nm,n,b,kh,kt,hm,tm,L0,g,hs,ps,lks,hds,rfl,A0,eg,lst,hv,T,hf,hnm,q⟩:=h
  obtain⟨pt,us,rfl,hpt,h0⟩:=zjR hv
  have hp:=A0.hp
  have npt:p≠td:=zy hp A0.ht (λz=>nomatch z)
  have nph:p≠hd:=zy hp A0.hh (λz=>nomatch z)
  obtain⟨j,rs,hj,hlj,er,hlk⟩:=zov T hnm
  have hml:=A0.oh.len
  have T10:=T.ten
  rw[er] at q
  refine⟨_,(zhS (zae (zK zou (zT (qv 0)) (zM zw (zT (qv 0)) zg)) (zi (zaZ (zcq (qv 0) Y.k_House Y.House_go_by.m G_House_go_by `U3 Y.House_go_by.b .nil zk (za (zh G_most_liked `U3 Y.most_liked.mg Y.most_liked.kp Y.most_liked.b .nil zk (za (zT (qv 0)) (za (zaH (qv 0) Y.k_House Y.House_open_ways.m G_House_open_ways `U3 Y.House_open_ways.b .nil zk) zb))) zb)))) zO)
   (zi (zr (zaH (qv 0) Y.k_House Y.House_letters.m G_House_letters `U3 Y.House_letters.b .nil zk)))),?_⟩
  refine⟨λσ' H'=>σ'=[some (.ref p)]/\∃ga' n' b',H' p=some (.ins Y.c_House dx (zcb (.ref pt) nm hd td ga' n'))/\GoR H' ga' b'/\GoOk nm b'/\(nm=g->b'=some ([nm],[]))/\(nm≠g->zh7 rs (zdd nm rs hm) b')/\Keep p H H',?_,?_⟩
  ·refine ⟨_,rfl,p,_,dx,_,_,rfl,hp,Y.k_House,Y.n_House_name,zdo,_,rfl,p,_,dx,_,_,rfl,hp,Y.k_House,Y.n_House_place,zdU,pt,us,0,_,rfl,rfl, .inl (.inl hpt),zZ (j:=0) h0,rfl,_,rfl,?_⟩
   rw[show decide (V.str nm=V.str g)=decide (nm=g)from decide_eq_decide.mpr ⟨λz=>by injection z,λz=>by rw[z]⟩]
   by_cases e:nm=g
   ·rw[P0 e]
    exact za3 rfl ⟨rfl,ga,n,b,hp,A0.gr,A0.go,eg,λz=>absurd e z,Keep.refl _ _⟩
   ·rw[U0 e]
    have uq:=zmy (nm:=nm) (rs:=rs) A0.oh.nd λp hp=>(A0.oh.mem p hp).2
    refine zcl rfl ⟨_,rfl,p,dx,_,rfl,hp,rfl,_,rfl,p,_,dx,_,_,rfl,hp,Y.k_House,Y.n_House_place,zdU,_,rfl,p,dx,_,rfl,hp,rfl,p,dx,hd,td,ga, .ref pt,nm,n,kh,hm,g,hs,ps,lks,hds,rfl,hp,A0.hh,A0.th,A0.oh,hv,T,hnm,λl us' H1 hl hl1 R1 s1=>?_⟩
    rw[er] at R1
    refine⟨.ref pt,l,us',zdd nm rs hm,nm,g,hs,ps,lks,hds,j,rs,rfl,hv.same s1,T,hj,hlj,hl1,R1,?_,uq,λe he=>?_,λg' b' H2 be G2 s2=>?_⟩
    ·exact Nat.lt_of_le_of_lt (List.length_filterMap_le _ _) ()
    ·obtain ⟨x,r,lk,o⟩:=(zjE A0.oh.nd).mp he
     exact(zox (T.names nm hnm) hlk (A0.oh.look lk) o).1
    have s12:=s1.trans s2
    have gok:GoOk nm b':=by
     cases b' with
     |none=>exact trivial
     |some e=>
      obtain⟨x,r,lk,o⟩:=(zjE A0.oh.nd).mp be.1
      exact(zox (T.names nm hnm) hlk (A0.oh.look lk) o).2
    have hp2:=s12 _ _ hp
    refine⟨p,dx,hd,td,ga,g', .ref pt,nm,n,b,b',rfl,hp2,A0.gr.mono λc xs e=>s12 _ _ e,G2,A0.go.wm,gok.wm,λn'=>⟨rfl,g',n',b',zc,G2.mono λc xs e=>?_,gok,λz=>absurd z e,λ_=>be,(Keep.of s12).trans (Keep.upd _ _ _)⟩⟩
    rw[ze (zy e hp2 (λz=>nomatch z))];exact e
  ·rintro σ' H1 ⟨rfl,ga',n',b',hp1,G1,gok,eg,be,k1⟩
   have htd1:=k1 _ _ (Ne.symm npt) A0.ht
   have m1:∀c xs,H c=some (.tup xs)->H1 c=some (.tup xs):=λc xs e=>k1 _ _ (zy e hp (λz=>nomatch z)) e
   have hv1:=zY hv T m1
   refine⟨_,rfl,p,dx,_,rfl,hp1,rfl,p,dx,hd,td,ga', .ref pt,nm,n',b',kt,tm,g,hs,ps,lks,hds,rfl,hp1,htd1,A0.tt.mono m1,A0.ot,hv1,T,hf,hnm,G1,gok,λl us2 kt2 H2 hl hl2 R2 htd2 tb2 tok2 k2=>?_⟩
   have hl0:H l=none:=by
    cases z:H l with
    |none=>rfl
    |some u=>
     by_cases y:l=p
     ·rw[y,hp1] at hl;cases hl
     ·rw[k1 l u y z] at hl;cases hl
   have dl:∀{hr:List D} {b:Option WM} {tm:Tb},(zbT hr b tm (due hs ps nm)).length<=10:=λ{hr b tm}=>Y1 zeG (Y1 (List.length_filter_le _ _) T.ten)
   have m2:∀c xs,H1 c=some (.tup xs)->H2 c=some (.tup xs):=λc xs e=>k2 _ _ (zy e htd1 (λz=>nomatch z)) e
   have m12:∀c xs,H c=some (.tup xs)->H2 c=some (.tup xs):=λc xs e=>m2 _ _ (m1 _ _ e)
   exact q l ga' us2 n' b' kt2 _ _ H2 hl0 hl2 R2 ⟨k2 _ _ npt hp1,k2 _ _ A0.ne (k1 _ _ (Ne.symm nph) A0.hh),A0.th.mono m12,A0.oh,htd2,tb2,tok2,G1.mono m2,gok,A0.ne⟩ ⟨eg,be,λo ho=>by rw[zfV,R0 ho],zgN lst⟩ (λc o n1 n3 e=>k2 c o n3 (k1 c o n1 e)) dl rfl rfl
noncomputable def zmN(C:Addr):Sp:=λvs H Q _=>∃(p dx hd td ga:Addr) (v lv:V) (nm one:Str) (r:Hr) (n:Int) (b:Option WM) (kh kt:List (Key×V)) (hm tm:Tb) (L0:List Lt) (g:Str) (hs:List Str) (ps:List (Str×Str)) (lks hds:List D),vs=[.ref p,lv]/\LtO H lv one nm r/\one∈hs/\hrR one r/\HsAt C hs H p dx hd td ga v nm n b kh hm kt tm/\HInv g nm (zA hs lks nm) (zA hs hds nm) (due hs ps nm) b hm tm L0/\Rep H v (zag g hs ps lks hds)/\TownOk g hs ps lks hds/\HfO hds/\nm∈hs/\
 ∀(l ga':Addr) (us:List V) (n':Int) (b':Option WM) (kh' kt':List (Key×V)) (tm':Tb) (L:List Lt) (H':Hp),H l=none->H' l=some (.lst us)->LtsO H' nm us L->HsAt C hs H' p dx hd td ga' v nm n' b' kh' (zfq hm (one,r)) kt' tm'->HInv g nm (zA hs lks nm) (zA hs hds nm) (due hs ps nm) b' (zfq hm (one,r)) tm' (L0 ++L)->(∀c o,c≠p->c≠hd->c≠td->H c=some o->H' c=some o)->L.length<=10->((r.1<=zd9 (zJ hm one)/\L=[]/\tm'=tm/\b'=b)\/(¬r.1<=zd9 (zJ hm one)/\L=zbT (zA hs hds nm) b' tm (due hs ps nm)/\tm'=zcc (zA hs hds nm) b' tm (due hs ps nm)))->Q (.ref l) H'
theorem zps(Y:Ev K mg):FnOk P w K mg base CX0 9 Y.a_House_hear Y.d_House_hear zcK (zmN Y.c_House):=by
 have G_House_heard:FnOk P w K mg base CX0 1 Y.a_House_heard Y.d_House_heard za5 (zgK Y.c_House Y.a_NOTHING):=ziI Y
 have G_House_choose:FnOk P w K mg base CX0 8 Y.a_House_choose Y.d_House_choose zaQ (zfx Y.c_House):=zg8 Y
 refine Y.House_hear.fn.okQ zaV (λvs H Q E h=>?_) `W3
 ·obtain ⟨p,dx,hd,td,ga,v,lv,nm,one,r,n,b,kh,kt,hm,tm,L0,g,hs,ps,lks,hds,rfl,_⟩:=h;rfl
 ·obtain ⟨p,dx,hd,td,ga,v,lv,nm,one,r,n,b,kh,kt,hm,tm,L0,g,hs,ps,lks,hds,rfl,⟨t,x,y,rfl,ht,wa⟩,hone,hrr,A0,I0,hv,T,hf,hnm,q⟩:=h
  have hp:=A0.hp
  have npt:p≠td:=zy hp A0.ht (λz=>nomatch z)
  have nph:p≠hd:=zy hp A0.hh (λz=>nomatch z)
  have hml:=A0.oh.len
  have kl:=A0.th.len
  have T10:=T.ten
  refine⟨_,(zf (zcg (qv 1) (zcv 5 rfl (zt (zo 2 zaV.nd) (zt (zo 3 zaV.nd) (zt (zo 4 zaV.nd) (zt (zo 5 zaV.nd) (zt (zo 6 zaV.nd) zaA)))))))
   (zf (zae (zK zfs (qv 4) (zM zw (zcq (qv 0) Y.k_House Y.House_heard.m G_House_heard `U3 Y.House_heard.b .nil zk (za (qv 2) zb)) zg)) (zi (zr (zaR zb))) zO)
   (zf (zkO (hu1 hr) (zT (qv 0)) (qv 2) (zn (za (qv 4) (za (qv 5) (za (qv 6) zb)))))
   (zi (zr (zaH (qv 0) Y.k_House Y.House_choose.m G_House_choose `U3 Y.House_choose.b .nil zk)))))),?_⟩
  refine⟨_,rfl,t,_,rfl, .inl (.inl ht),rfl,_,_,rfl,_,_,rfl,_,_,rfl,_,_,rfl,_,_,rfl,rfl,?_⟩
  refine⟨_,rfl,_,rfl,p,dx,_,rfl,hp,rfl,_,rfl,p,dx,hd,td,ga,v,nm,one,n,kh,rfl,hp,A0.hh,?_⟩
  obtain⟨A3,x3,y3,eA,hA⟩:∃A x y,(za4 kh (Sum.inr one)).getD (.ref Y.a_NOTHING)= .ref A/\SqT K H A [.int (zd9 (zJ hm one)),x,y]:=by
   rcases A0.th.look one with⟨e1,e2⟩|⟨r,v',e1,e2,t,x,y,rfl,ht,wa⟩
   ·rw[e1,e2];exact⟨Y.a_NOTHING,_,_,rfl,Y.t_NOTHING _⟩
   ·rw[e1,e2];exact⟨t,x,y,rfl, .inl (.inl ht)⟩
  rw[eA]
  refine⟨A3,_,0,_,rfl,rfl,hA,at0,_,_,rfl,rfl,_,rfl,?_⟩
  have eh:zfq hm (one,r)=if r.1<=zd9 (zJ hm one)then hm else zeC hm one r:=rfl
  by_cases c:r.1<=zd9 (zJ hm one)
  ·rw[R0 c] at eh
   rw[eh] at q
   refine zcl (P0 c) ⟨few rfl,λl hl=>?_⟩
   have S:=Same.new (o:= .lst ([]:List V)) hl
   have mS:∀c xs,H c=some (.tup xs)->(upd H l (.lst ([]:List V))) c=some (.tup xs):=λc xs e=>S _ _ e
   exact q l ga [] n b kh kt tm [] _ hl zc .nil ⟨S _ _ A0.hp,S _ _ A0.hh,A0.th.mono mS,A0.oh,S _ _ A0.ht,A0.tt.mono mS,A0.ot,A0.gr.mono mS,A0.go,A0.ne⟩ (by rw[List.append_nil];exact I0) (λc o _ _ _ e=>S _ _ e) (Z1 _) (.inl ⟨c,rfl,rfl,rfl⟩)
  ·rw[N0 c] at eh
   rw[eh] at q
   refine za3 (by rw[U0 c]) ?_
   refine⟨_,rfl,_,rfl,_,rfl,few rfl,λpr hpr=>?_⟩
   have S1:=Same.new (o:= .tup [V.int r.1,x,y]) hpr
   have e1:(upd H pr (.tup [V.int r.1,x,y])) pr=some (.tup [V.int r.1,x,y]):=zc
   generalize (upd H pr (HO.tup [V.int r.1,x,y]))=H1 at *
   have hh1:=S1 _ _ A0.hh
   refine⟨_,rfl,p,_,dx,_,_,rfl,S1 _ _ hp,Y.k_House,Y.n_House_hearings,zkp,_,rfl,hd,_,rfl, .inl ⟨kh,Sum.inr one,hh1,rfl,zp (),rfl⟩,?_⟩
   have m12:∀c xs,H1 c=some (.tup xs)->upd H1 hd (.dK (zaB kh (Sum.inr one) (.ref pr))) c=some (.tup xs):=λc xs e=>by rw[ze (zy e hh1 (λz=>nomatch z))];exact e
   have k12:Keep hd H1 (upd H1 hd (.dK (zaB kh (Sum.inr one) (.ref pr)))):=Keep.upd _ _ _
   have hh2:upd H1 hd (.dK (zaB kh (Sum.inr one) (.ref pr))) hd=some (.dK (zaB kh (Sum.inr one) (.ref pr))):=zc
   generalize (upd H1 hd (.dK (zaB kh (Sum.inr one) (.ref pr))))=H2 at *
   have m2:∀c xs,H c=some (.tup xs)->H2 c=some (.tup xs):=λc xs e=>m12 _ _ (S1 _ _ e)
   have k2:∀c o,c≠hd->H c=some o->H2 c=some o:=λc o n e=>k12 c o n (S1 _ _ e)
   have hp2:=k2 _ _ nph hp
   have A2:HsAt Y.c_House hs H2 p dx hd td ga v nm n b (zaB kh (Sum.inr one) (.ref pr)) (zeC hm one r) kt tm:=⟨hp2,hh2,(A0.th.mono m2).put ⟨pr,x,y,rfl,m12 _ _ e1,wa.mono m2⟩,A0.oh.put hone hrr,k2 _ _ (Ne.symm A0.ne) A0.ht,A0.tt.mono m2,A0.ot,A0.gr.mono m2,A0.go,A0.ne⟩
   refine⟨_,rfl,p,dx,_,rfl,hp2,rfl,p,dx,hd,td,ga,v,nm,n,b,_,kt,_,tm,L0,g,hs,ps,lks,hds,rfl,A2,I0.goal,I0.last,zY hv T m2,T,hf,hnm,λl ga' us n' b' kt' tm' L H' hl hl' R' A' I' k' ll eL eT=>?_⟩
   have hl0:H l=none:=by
    cases z:H l with
    |none=>rfl
    |some u=>
     by_cases y:l=hd
     ·rw[y,hh2] at hl;cases hl
     ·rw[k2 l u y z] at hl;cases hl
   refine q l ga' us n' b' _ kt' tm' L H' hl0 hl' R' A' I' (λc o n1 n2 n3 e=>k' c o n1 n3 (k2 c o n2 e)) ll (.inr ⟨c,eL,eT⟩)
def RealW(hs O:List Str)(x:Str):Option WM->Prop
 |none=>True
 |some (w,ms)=>(∃ws,w=x::ws)/\w.Nodup/\(∀y∈w,y∈hs)/\Mk0 O ms
structure Tn(g:Str)(hs:List Str)(ps:List (Str×Str))(lks hds:List D)(O:List Str):Prop where
 T:TownOk g hs ps lks hds
 po:Pool hs lks hds O
 hf:HfO hds
theorem RealW.hr(N:Tn g hs ps lks hds O){r:Hr}(h:RealW hs O x r.2):hrR x r:=by
 obtain⟨n,b⟩:=r
 match b,h with
 |none,_=>exact trivial
 |some (w,ms),⟨h1,h2,h3,h4⟩=>
  have:=h4.len N.po.few
  exact⟨h1,Y1 (zcT h2 h3) N.T.ten,λy hy=>N.T.names y (h3 y hy),λy hy=>N.po.nm y (h4.mem y hy),()⟩
theorem RealW.wm(N:Tn g hs ps lks hds O){b:Option WM}(h:RealW hs O x b):zfg b:=by
 match b,h with
 |none,_=>exact trivial
 |some (w,ms),⟨h1,h2,h3,h4⟩=>exact ⟨λy hy=>N.T.names y (h3 y hy),λy hy=>N.po.nm y (h4.mem y hy)⟩
theorem zgM{ws:List Str}{to:Option Str}:∀{rs:List D} {t u:List Str},(∀r∈rs,∃cs x,r= .tup [.tup cs,x]/\(∀c∈cs,zD c=true)/\(x= .tup [.str "keep"]\/∃w m,x= .tup [.str w, .str m]/\(w="put"\/w="strike")/\m∈O))->Mk0 O t->zP ws to rs t=some u->Mk0 O u
 |[],t,u,_,M,h=>by
  rw[zP] at h
  cases h
  exact M
 |r::rs,t,u,hr,M,h=>by
  rw[zP] at h
  have hr':=λr' h'=>hr r' (F1 _ h')
  by_cases z:zgQ ws t to (zjC r)=true
  ·rw[R0 z] at h
   obtain⟨cs,x,rfl,_,hx⟩:=hr r N1
   rcases hx with rfl|⟨w,m,rfl,_,hm⟩
   ·cases h
   ·exact zgM hr' (M.next hm) h
  ·rw[N0 z] at h
   exact zgM hr' M h
theorem zrj(N:Tn g hs ps lks hds O){nm o:Str}(hn:nm∈hs){b:Option WM}(h:RealW hs O nm b):RealW hs O nm (zeu (zA hs hds nm) b o):=by
 obtain⟨j,d,e1,e2,hm⟩:=zrf N.T hn
 obtain⟨rs,rfl,hk⟩:=zpQ (N.T.hands d hm) (N.po.hd d hm)
 match b,h with
 |none,_=>exact trivial
 |some (w,ms),⟨h1,h2,h3,h4⟩=>
  show RealW hs O nm ((zP w (some o) (zA hs hds nm) ms).map λt=>(w,t))
  rw[zhL N.T.hs_nd e1 e2]
  cases e:zP w (some o) rs ms with
  |none=>exact trivial
  |some t=>exact ⟨h1,h2,h3,zgM hk.2 h4 e⟩
noncomputable abbrev S3:=Option WM×Tb×Tb
structure SOk(g:Str)(hs:List Str)(ps:List (Str×Str))(lks hds:List D)(O:List Str)(nm:Str)(s:S3):Prop where
 hi:∃L0,HInv g nm (zA hs lks nm) (zA hs hds nm) (due hs ps nm) s.1 s.2.1 s.2.2 L0
 b:RealW hs O nm s.1
 h:∀p∈s.2.1,RealW hs O p.1 p.2.2
 k:(s.2.1.map (·.1)).Nodup
structure HearR(hs:List Str)(ps:List (Str×Str))(hds:List D)(nm:Str)(s:S3)(one:Str)(r:Hr)(s':S3)(L:List Lt):Prop where
 h:s'.2.1=zfq s.2.1 (one,r)
 n:L.length<=10
 e:(r.1<=zd9 (zJ s.2.1 one)/\L=[]/\s'.2.2=s.2.2/\s'.1=s.1)\/(¬r.1<=zd9 (zJ s.2.1 one)/\L=zbT (zA hs hds nm) s'.1 s.2.2 (due hs ps nm)/\s'.2.2=zcc (zA hs hds nm) s'.1 s.2.2 (due hs ps nm))
theorem zqc{nm:Str}(hn:nm∈hs){m:Tb}{b:Option WM}(h:∀p∈m,RealW hs O p.1 p.2.2)(be:zh7 rs (zdd nm rs m) b):RealW hs O nm b:=by
 cases b with
 |none=>exact trivial
 |some e=>
  obtain⟨⟨x,n,b⟩,hp,o⟩:=List.mem_filterMap.mp be.1
  have hr:=h _ hp
  cases b with
  |none=>cases o
  |some q=>
   obtain⟨w,ms⟩:=q
   have o:(if nm∈w\/zc3 (zW (nm::w) ms rs)=true then none else some (nm::w,ms))=some e:=o
   by_cases c:nm∈w\/zc3 (zW (nm::w) ms rs)=true
   ·rw[R0 c] at o;cases o
   ·rw[N0 c] at o
    cases o
    obtain⟨h1,h2,h3,h4⟩:=hr
    refine⟨⟨w,rfl⟩,U2.mpr ⟨λz=>c (.inl z),h2⟩,λy hy=>?_,h4⟩
    rcases D1.mp hy with rfl|hy
    ·exact hn
    ·exact h3 y hy
theorem zmw{nm:Str}(hn:nm∈hs){lrs hrs:List D}{os:List Str}{b:Option WM}{hm tm:Tb}{L:List Lt}(i:HInv g nm lrs hrs os b hm tm L)(h:∀p∈hm,RealW hs O p.1 p.2.2):RealW hs O nm b:=by
 by_cases c:nm=g
 ·rw[i.goal c]
  exact⟨⟨[],rfl⟩,`Z3,λy hy=>by rw[C2.mp hy];exact hn,⟨List.nodup_nil,λ_ z=>nomatch z⟩⟩
 ·exact zqc hn h (i.best c)
theorem znd{m:Tb}{one:Str}{r:Hr}(h:∀p∈m,RealW hs O p.1 p.2.2)(nd:(m.map (·.1)).Nodup)(hr:RealW hs O one r.2):(∀p∈zfq m (one,r),RealW hs O p.1 p.2.2)/\((zfq m (one,r)).map (·.1)).Nodup:=by
 unfold zfq
 split
 ·exact ⟨h,nd⟩
 ·refine ⟨λp hp=>?_,zog nd⟩
  rcases zjH hp with hp|rfl
  ·exact h p hp
  ·exact hr
noncomputable abbrev RdL:=List (Str×Lt)
def RdR(hs O:List Str)(R:RdL):Prop:=∀e∈R,e.1∈hs/\e.2.1∈hs/\RealW hs O e.1 e.2.2.2
theorem zlD{rs:List D}{b:Option WM}:∀{os:List Str} {tm:Tb} {p:Lt},p∈zbT rs b tm os->p.1∈os/\p.2.2=zeu rs b p.1
 |[],tm,p,h=>by rw[zbT] at h;cases h
 |o::os,tm,p,h=>by
  rw[zbT] at h
  rcases Q2.mp h with h|h
  ·unfold ziz at h
   split at h
   ·cases h
   ·rw[C2.mp h];exact⟨N1,rfl⟩
  ·obtain ⟨h1,h2⟩:=zlD h;exact⟨F1 _ h1,h2⟩
theorem zl6(N:Tn g hs ps lks hds O){nm:Str}(hn:nm∈hs){b:Option WM}(h:RealW hs O nm b){tm:Tb}:RdR hs O ((zbT (zA hs hds nm) b tm (due hs ps nm)).map λl=>(nm,l)):=by
 intro e he
 obtain⟨l,hl,rfl⟩:=X1.mp he
 obtain⟨h1,h2⟩:=zlD hl
 refine⟨hn,(Y2.mp h1).1,?_⟩
 show RealW hs O nm l.2.2
 rw[h2]
 exact zrj N hn h
theorem zpo(N:Tn g hs ps lks hds O){nm one:Str}(hn:nm∈hs){r:Hr}{s s':S3}{L L0:List Lt}(k:SOk g hs ps lks hds O nm s)(hr:RealW hs O one r.2)(a:HearR hs ps hds nm s one r s' L)(i:HInv g nm (zA hs lks nm) (zA hs hds nm) (due hs ps nm) s'.1 s'.2.1 s'.2.2 L0):SOk g hs ps lks hds O nm s'/\RdR hs O (L.map λl=>(nm,l)):=by
 obtain⟨h1,h2⟩:=znd k.h k.k hr
 rw[←a.h] at h1 h2
 have hb:=zmw hn i h1
 refine⟨⟨⟨_,i⟩,hb,h1,h2⟩,?_⟩
 rcases a.e with⟨_,l,_⟩|⟨_,l,_⟩
 ·rw[l];exact λe he=>nomatch he
 ·rw[l];exact zl6 N hn hb
theorem zxo{k:Nat}(r:Room k A):A.units+66<cLine:=by have:=r.un;lia
theorem HsAt.hold{p dx hd td:Addr}{nm:Str}{n:Int}{b:Option WM}{kt:List (Key×V)}{hm tm:Tb}(a:HsAt C hs H p dx hd td ga v nm n b kh hm kt tm)(m:∀c xs,H c=some (.tup xs)->H' c=some (.tup xs))(h1:∀o,H p=some o->H' p=some o)(h2:∀o,H hd=some o->H' hd=some o)(h3:∀o,H td=some o->H' td=some o):HsAt C hs H' p dx hd td ga v nm n b kh hm kt tm:=
 ⟨h1 _ a.hp,h2 _ a.hh,a.th.mono m,a.oh,h3 _ a.ht,a.tt.mono m,a.ot,a.gr.mono m,a.go,a.ne⟩
structure HA where
 nm:Str
 p:Addr
 dx:Addr
 hd:Addr
 td:Addr
noncomputable def adr(a:HA):List Addr:=[a.p,a.hd,a.td]
noncomputable def zdf(As:List HA):List Addr:=As.flatMap adr
noncomputable def ppl(As:List HA):List (Key×V):=As.map λa=>(Sum.inr a.nm, .ref a.p)
def HsE(C:Addr)(hs:List Str)(H:Hp)(v:V)(a:HA)(s:S3):Prop:=∃ga n kh kt,HsAt C hs H a.p a.dx a.hd a.td ga v a.nm n s.1 kh s.2.1 kt s.2.2
def HsAll(C:Addr)(hs:List Str)(H:Hp)(v:V)(As:List HA)(st:Str->S3):Prop:=∀a∈As,HsE C hs H v a (st a.nm)
section
variable{a a':HA}{s:S3}{As:List HA}{st:Str->S3}
theorem HsE.hold(h:HsE C hs H v a s)(m:∀c xs,H c=some (.tup xs)->H' c=some (.tup xs))(k:∀c∈adr a,∀o,H c=some o->H' c=some o):HsE C hs H' v a s:=
 let⟨ga,n,kh,kt,A⟩:=h
 ⟨ga,n,kh,kt,A.hold m (k _ (by simp[adr])) (k _ (by simp[adr])) (k _ (by simp[adr]))⟩
theorem HsAll.hold(h:HsAll C hs H v As st)(m:∀c xs,H c=some (.tup xs)->H' c=some (.tup xs))(k:∀c∈zdf As,∀o,H c=some o->H' c=some o):HsAll C hs H' v As st:=
 λa ha=>(h a ha).hold m λc hc=>k c (List.mem_flatMap.mpr ⟨a,ha,hc⟩)
theorem HsAll.same(h:HsAll C hs H v As st)(s:Same H H'):HsAll C hs H' v As st:=h.hold (λc xs e=>s _ _ e) λc _ o e=>s _ _ e
theorem zrH(h:HsAll C hs H v As st){c:Addr}(hc:c∈zdf As):∃o,H c=some o:=by
 obtain⟨a,ha,hc⟩:=List.mem_flatMap.mp hc
 obtain⟨ga,n,kh,kt,A⟩:=h a ha
 simp only[adr,D1,O2,or_false] at hc
 rcases hc with rfl|rfl|rfl
 ·exact ⟨_,A.hp⟩
 ·exact ⟨_,A.hh⟩
 ·exact ⟨_,A.ht⟩
theorem zhF(h:HsAll C hs H v As st){c:Addr}(e:H c=some (.tup xs)):c∉zdf As:=λhc=>by
 obtain⟨a,ha,hc⟩:=List.mem_flatMap.mp hc
 obtain⟨ga,n,kh,kt,A⟩:=h a ha
 simp only[adr,D1,O2,or_false] at hc
 rcases hc with rfl|rfl|rfl
 ·rw[A.hp] at e;cases e
 ·rw[A.hh] at e;cases e
 ·rw[A.ht] at e;cases e
theorem zhH(h:HsAll C hs H v As st){c:Addr}(e:H c=some (.lst xs)):c∉zdf As:=λhc=>by
 obtain⟨a,ha,hc⟩:=List.mem_flatMap.mp hc
 obtain⟨ga,n,kh,kt,A⟩:=h a ha
 simp only[adr,D1,O2,or_false] at hc
 rcases hc with rfl|rfl|rfl
 ·rw[A.hp] at e;cases e
 ·rw[A.hh] at e;cases e
 ·rw[A.ht] at e;cases e
theorem zrc(nd:(zdf As).Nodup)(h1:a∈As)(h2:a'∈As)(ne:a≠a'){c:Addr}(hc:c∈adr a):c∉adr a':=λhc'=>by
 have nd:=(List.pairwise_flatMap.mp (show(As.flatMap adr).Pairwise (·≠·)from nd))
 obtain⟨i,hi,ei⟩:=F2 h1
 obtain⟨j,hj,ej⟩:=F2 h2
 have pw:=List.pairwise_iff_getElem.mp nd.2
 rcases Nat.lt_trichotomy i j with z|z|z
 ·have:=pw i j hi hj z
  rw[ei,ej] at this
  exact this c hc c hc' rfl
 ·subst z;exact ne (ei.symm.trans ej)
 ·have:=pw j i hj hi z
  rw[ei,ej] at this
  exact this c hc' c hc rfl
theorem zhK(e:As.map (·.nm)=hs)(hx:x∈hs):∃a∈As,a.nm=x/\za4 (ppl As) (Sum.inr x)=some (.ref a.p):=by
 subst e
 induction As with
 |nil=>cases hx
 |cons b As ih=>
  by_cases c:b.nm=x
  ·exact ⟨b,N1,c,zeL (p:=(Sum.inr b.nm, .ref b.p)) (by show Sum.inr b.nm=Sum.inr x;rw[c])⟩
  ·have hx':x∈As.map (·.nm):=by
    rcases D1.mp hx with z|z
    ·exact absurd z.symm c
    ·exact z
   obtain⟨a,ha,h1,h2⟩:=ih hx'
   refine⟨a,F1 _ ha,h1,?_⟩
   show za4 ((Sum.inr b.nm, .ref b.p)::ppl As) (Sum.inr x)=_
   rw[zcf (λz=>c (by injection z))]
   exact h2
theorem zv4(e:As.map (·.nm)=hs)(nd:hs.Nodup)(h1:a∈As)(h2:a'∈As)(ee:a.nm=a'.nm):a=a':=by
 obtain⟨i,hi,ei⟩:=F2 h1
 obtain⟨j,hj,ej⟩:=F2 h2
 have z1:hs[i]?=some a.nm:=by rw[←e,V0,F0 hi,ei];rfl
 have z2:hs[j]?=some a.nm:=by rw[←e,V0,F0 hj,ej,ee];rfl
 have:=zbS nd z1 z2
 subst this
 rw[←ei,←ej]
end
def RdO(H:Hp)(us:List V)(R:RdL):Prop:=us.length=R.length/\∀(i:Nat) v e,us[i]?=some v->R[i]?=some e->LtO H v e.1 e.2.1 e.2.2
section
variable{R R':RdL}
theorem RdO.nil:RdO H [] []:=⟨rfl,λi v e z=>by cases z⟩
theorem RdO.mono(h:RdO H us R)(m:∀c xs,H c=some (.tup xs)->H' c=some (.tup xs)):RdO H' us R:=⟨h.1,λi v e z1 z2=>(h.2 i v e z1 z2).mono m⟩
theorem RdO.app(h:RdO H us R)(h':RdO H us' R'):RdO H (us ++us') (R ++R'):=by
 refine⟨by rw[b0,b0,h.1,h'.1],λi v e z1 z2=>?_⟩
 rcases D2 i us.length with c|c
 ·rw[C3 c] at z1
  rw[C3 (by rw[←h.1];exact c)] at z2
  exact h.2 i v e z1 z2
 ·rw[W2 c] at z1
  rw[W2 (by rw[←h.1];exact c),←h.1] at z2
  exact h'.2 _ v e z1 z2
theorem RdO.erase(h:RdO H us R)(k:Nat):RdO H (us.eraseIdx k) (R.eraseIdx k):=by
 refine⟨by rw[List.length_eraseIdx,List.length_eraseIdx,h.1],λi v e z1 z2=>?_⟩
 rw[List.getElem?_eraseIdx] at z1 z2
 split at z1
 ·rename_i c;rw[R0 c] at z2;exact h.2 _ v e z1 z2
 ·rename_i c;rw[N0 c] at z2;exact h.2 _ v e z1 z2
theorem zs0{nm:Str}{L:List Lt}(h:LtsO H nm us L):∀{i:Nat} {v:V},us[i]?=some v->∃l,L[i]?=some l/\LtO H v nm l.1 l.2:=by
 induction h with
 |nil=>intro i v e;cases e
 |cons h t ih=>
  intro i v e
  cases i with
  |zero=>cases e;exact⟨_,rfl,h⟩
  |succ i=>exact ih e
theorem RdO.lts{nm:Str}{L:List Lt}(h:LtsO H nm us L):RdO H us (L.map λl=>(nm,l)):=by
 refine⟨by rw[D0];exact h.len,λi v e z1 z2=>?_⟩
 obtain⟨l,e1,hl⟩:=zs0 h z1
 rw[V0,e1] at z2
 cases z2
 exact hl
theorem RdO.get(h:RdO H us R){e:Str×Lt}(he:R[i]?=some e):∃v,us[i]?=some v/\LtO H v e.1 e.2.1 e.2.2:=by
 have hi:i<us.length:=by rw[h.1];exact(y1.mp he).1
 exact⟨us[i],F0 hi,h.2 i _ e (F0 hi) he⟩
theorem RdO.of(h:RdO H us R)(hv:us[i]?=some v):∃e,R[i]?=some e/\LtO H v e.1 e.2.1 e.2.2:=by
 have hi:i<R.length:=by rw[←h.1];exact(y1.mp hv).1
 exact⟨R[i],F0 hi,h.2 i v _ hv (F0 hi)⟩
end
noncomputable def zex(v:V)(d wl:Addr):List (Str×V):=[("place",v),("people", .ref d),("waiting", .ref wl)]
structure RnAt(C CR:Addr)(hs:List Str)(H:Hp)(rp dr d wl:Addr)(v:V)(As:List HA)(st:Str->S3)(us:List V)(R:RdL):Prop where
 hr:H rp=some (.ins CR dr (zex v d wl))
 hd:H d=some (.dK (ppl As))
 hw:H wl=some (.lst us)
 rd:RdO H us R
 ha:HsAll C hs H v As st
 ns:As.map (·.nm)=hs
 sep:(d::zdf As).Nodup
theorem RnAt.same{CR:Addr}{d:Addr}{As:List HA}{st:Str->S3}{R:RdL}(h:RnAt C CR hs H rp dr d wl v As st us R)(s:Same H H'):RnAt C CR hs H' rp dr d wl v As st us R:=
 ⟨s _ _ h.hr,s _ _ h.hd,s _ _ h.hw,h.rd.mono λc xs e=>s _ _ e,h.ha.same s,h.ns,h.sep⟩
theorem zeN{d:Addr}:(zex v d wl).lookup ("place":Str)=some v:=by rfl
theorem zbN{d:Addr}:(zex v d wl).lookup ("people":Str)=some (.ref d):=by rfl
theorem zel{d:Addr}:(zex v d wl).lookup ("waiting":Str)=some (.ref wl):=by rfl
noncomputable def zoh:Sp:=λvs H Q _=>∃k:Int,vs=[.int k]/\Q (.bl true) H
theorem zq4(Y:Ev K mg):FnOk P w K mg base CX0 1 Y.a_is_number Y.d_is_number zbi zoh:=by
 refine Y.is_number.fn.okQ zg3 (λvs H Q E h=>?_) `W3
 ·obtain ⟨k,rfl,_⟩:=h;rfl
 ·obtain ⟨k,rfl,q⟩:=h
  obtain⟨t,ht,h1,h2,h3,h4⟩:=(Rep.int (H:=H) k).isi (K:=K)
  refine⟨_,(zi (zr (zbf (zv zcW Y.isinstance zV (za (qv 0) (za (zl1 Y.int zgG) zb))) (zbv (zma (zv zcW Y.isinstance zV (za (qv 0) (za (zl1 Y.bool zow) zb)))))))),?_⟩
  refine⟨_,rfl,_,_,_,_,rfl,ht,h2,_,rfl,?_⟩
  exact zcl rfl ⟨_,rfl,_,_,_,_,rfl,ht,h3,_,rfl,q⟩
noncomputable def zj1:Sp:=λvs H Q _=>∃k a b:Int,vs=[.int k, .int a, .int b]/\a<=k/\k<=b/\Q (.bl true) H
theorem zmR(Y:Ev K mg):FnOk P w K mg base CX0 2 Y.a_is_whole Y.d_is_whole zbc zj1:=by
 have G_is_number:FnOk P w K mg base CX0 1 Y.a_is_number Y.d_is_number zbi zoh:=zq4 Y
 refine Y.is_whole.fn.okQ ziS (λvs H Q E h=>?_) `W3
 ·obtain ⟨k,a,b,rfl,_⟩:=h;rfl
 ·obtain ⟨k,a,b,rfl,h1,h2,q⟩:=h
  refine⟨_,(zi (zr (zbf (zh G_is_number `U3 Y.is_number.mg Y.is_number.kp Y.is_number.b .nil zk (za (qv 0) zb)) (zbv (zhI zfs zfs (qv 1) (qv 0) (qv 2)))))),?_⟩
  refine⟨_,rfl,k,rfl,_,rfl,?_⟩
  refine zcl rfl ?_
  exact⟨_,rfl,_,rfl,_,_,rfl,rfl,_,rfl,zcl (P0 h1) ⟨_,rfl,_,_,rfl,rfl,by show Q (.bl (decide (k<=b))) H;rw[P0 h2];exact q⟩⟩
noncomputable def zjx:Sp:=λvs H Q _=>∃(l:Addr) (k:Nat) (us:List V) (u:V),vs=[.ref l, .int (k:Int)]/\H l=some (.lst us)/\us.length<=1000/\us[k]?=some u/\Q u H
theorem znl(Y:Ev K mg):FnOk P w K mg base CX0 3 Y.a_at_place Y.d_at_place zek zjx:=by
 have G_is_whole:FnOk P w K mg base CX0 2 Y.a_is_whole Y.d_is_whole zbc zj1:=zmR Y
 refine Y.at_place.fn.okQ znV (λvs H Q E h=>?_) `W3
 ·obtain ⟨l,k,us,u,rfl,_⟩:=h;rfl
 ·obtain ⟨l,k,us,u,rfl,hl,l1,e,q⟩:=h
  refine⟨_,(zf (zae (zcd (zbM (zh G_is_whole `U3 Y.is_whole.mg Y.is_whole.kp Y.is_whole.b .nil zk (za (qv 1) (za zg (za (zF zqU (zv z8 Y.len za0 (za (qv 0) zb)) zg) zb)))))) (zi zdg) zO)
   (zi (zr (zM zaq (qv 0) (qv 1))))),?_⟩
  have hk:=(y1.mp e).1
  refine⟨_,rfl,_,rfl, .inl ⟨l,us,rfl, .inl (SqL.of hl),_,_,rfl,rfl,k,0,_,rfl,(),(),?_⟩⟩
  exact⟨true,rfl,za3 rfl ⟨_,rfl,_,rfl,l,us,_,u,rfl,rfl,SqL.of hl,zZ e,q⟩⟩
noncomputable def zhR(C CR:Addr):Sp:=λvs H Q _=>∃(hs:List Str) (rp dr d wl:Addr) (v:V) (As:List HA) (st:Str->S3) (us:List V) (R:RdL),vs=[.ref rp]/\RnAt C CR hs H rp dr d wl v As st us R/\∀l,H l=none->Q (.ref l) (upd H l (.lst us))
theorem zj9(Y:Ev K mg):FnOk P w K mg base CX0 1 Y.a_Run_road Y.d_Run_road zdc (zhR Y.c_House Y.c_Run):=by
 refine Y.Run_road.fn.okQ zm4 (λvs H Q E h=>?_) `W3
 ·obtain ⟨hs,rp,dr,d,wl,v,As,st,us,R,rfl,_⟩:=h;rfl
 ·obtain ⟨hs,rp,dr,d,wl,v,As,st,us,R,rfl,A0,q⟩:=h
  refine⟨_,(zi (zr (zaj zkV Y.list ztH (za (zT (qv 0)) zb)))),?_⟩
  exact⟨_,rfl,rp,_,dr,_,_,rfl,A0.hr,Y.k_Run,Y.n_Run_waiting,zel,wl,us,rfl, .inl (SqL.of A0.hw),λl hl=>q l hl⟩
theorem zp7{hi:Option Int}{Q:VK}(h:H a=some (.tup xs))(k:∀p H',H' p=some (.tup (zde xs lo hi))->Same H H'->Q (.ref p) H'):zsA K (.ref a) lo hi H Q:=
 ⟨a,xs,rfl, .inl (.inl h),λz=>k a H (by rw[z];exact h) (Same.refl _),λp hp=>k p _ zc (Same.new hp)⟩
theorem dgk(e:H a=some (.dK kvs))(ev:za4 kvs (Sum.inr x)=some v):DGet H a (.str x) (some v):=by
 have:=DGet.k (k:=Sum.inr x) e
 rw[ev] at this
 exact this
theorem zsN{R:RdL}{f:Str×Lt->Bool}{ok:Hp->Prop}{src:List (Option Nat)}{Q:VK}(wk:Wk J us.length (λi x=>us[i]?=some x) ok)(hok:∀H',Same H H'->ok H')(r:RdO H us R)(hl:R.length<=900)(e:zfA src σ=none::σr)
 (he:∀(x:V) (d:Str×Lt) (H1:Hp) (Q1:VK),Same H H1->LtO H1 x d.1 d.2.1 d.2.2->d∈R->(∀H2,Same H1 H2->Q1 (.bl (f d)) H2)->te (some x::σr) H1 Q1)
 (q:∀l H',Same H H'->H l=none->H' l=some (.lst ((R.map f).map V.bl))->Q (.ref l) H'):ze0 (zbH 0) zp1 te src σ Q J H:=by
 refine zcx wk (λl i ys σ' H'=>(∃o,σ'=o::σr)/\ys=((R.take i).map f).map V.bl/\Same H H') ?_ ?_ ?_ ?_
 ·exact λl h'=>⟨⟨none,e⟩,rfl,Same.new h'⟩
 ·exact λl i ys σ' H' _ p=>hok H' p.2.2
 ·rintro l i y ys σ' H1 h' hi hy ⟨⟨o,rfl⟩,rfl,s1⟩ hl'
  obtain⟨d,hd,rd⟩:=r.of hy
  refine he y d H1 _ s1 (rd.mono λc xs e=>s1 _ _ e) (Z0 hd) λH2 s2=>?_
  refine⟨s2 _ _ hl',?_,⟨_,rfl⟩,?_,?_⟩
  ·rw[D0,D0,P1]
   exact zp ()
  ·rw[N3,hd]
   simp
  ·exact λc o e=>by
    rw[ze (zj e h')]
    exact s2 _ _ (s1 _ _ e)
 ·rintro l ys σ' H1 h' ⟨⟨o,rfl⟩,rfl,s1⟩ hl'
  rw[r.1,List.take_length] at hl'
  exact q l H1 s1 h' hl'
theorem zre(Y:Ev K mg){hm:Tb}(th:TbL H kh hm)(one:Str):∃A x y,(za4 kh (Sum.inr one)).getD (.ref Y.a_NOTHING)= .ref A/\SqT K H A [.int (zd9 (zJ hm one)),x,y]:=by
 rcases th.look one with⟨e1,e2⟩|⟨r,v',e1,e2,t,x,y,rfl,ht,wa⟩
 ·rw[e1,e2];exact⟨Y.a_NOTHING,_,_,rfl,Y.t_NOTHING _⟩
 ·rw[e1,e2];exact⟨t,x,y,rfl, .inl (.inl ht)⟩
noncomputable def zoC(C CR:Addr):Sp:=λvs H Q _=>∃(hs:List Str) (rp dr d wl:Addr) (v lv:V) (As:List HA) (st:Str->S3) (us:List V) (R:RdL) (one nm:Str) (r:Hr),vs=[.ref rp,lv]/\RnAt C CR hs H rp dr d wl v As st us R/\LtO H lv one nm r/\nm∈hs/\∀H',Same H H'->Q (.bl (decide (r.1<=zd9 (zJ (st nm).2.1 one)))) H'
theorem zr9(Y:Ev K mg):FnOk P w K mg base CX0 2 Y.a_Run_was_heard Y.d_Run_was_heard za7 (zoC Y.c_House Y.c_Run):=by
 have G_House_heard:FnOk P w K mg base CX0 1 Y.a_House_heard Y.d_House_heard za5 (zgK Y.c_House Y.a_NOTHING):=ziI Y
 refine Y.Run_was_heard.fn.okQ zba (λvs H Q E h=>?_) `W3
 ·obtain ⟨hs,rp,dr,d,wl,v,lv,As,st,us,R,one,nm,r,rfl,_⟩:=h;rfl
 ·obtain ⟨hs,rp,dr,d,wl,v,lv,As,st,us,R,one,nm,r,rfl,A0,⟨t,x,y,rfl,ht,_⟩,hnm,q⟩:=h
  refine⟨_,(zf (zcg (zqd zhJ (qv 1) zgw (zgX zg)) (zcv 3 rfl (zt (zo 2 zba.nd) (zt (zo 3 zba.nd) (zt (zo 4 zba.nd) zaA)))))
   (zi (zr (zaY zfs (qv 4) (zM zw (zcq (zlh (hu1 hr) (zT (qv 0)) (qv 3)) Y.k_House Y.House_heard.m G_House_heard `U3 Y.House_heard.b .nil zk (za (qv 2) zb)) zg))))),?_⟩
  refine⟨_,rfl,3,rfl,zp7 ht λp1 H1 e1 s1=>?_⟩
  have e1:H1 p1=some (.tup [V.str one,V.str nm,V.int r.1]):=e1
  have A1:=A0.same s1
  obtain⟨a,ha,en,ev⟩:=zhK A1.ns hnm
  obtain⟨ga,n,kh,kt,B⟩:=A1.ha a ha
  rw[en] at B
  obtain⟨A3,x3,y3,eA,hA⟩:=zre Y B.th one
  refine⟨p1,_,rfl, .inl (.inl e1),rfl,_,_,rfl,_,_,rfl,_,_,rfl,rfl,?_⟩
  refine⟨_,rfl,_,rfl,rp,_,dr,_,_,rfl,A1.hr,Y.k_Run,Y.n_Run_people,zbN,_,rfl,d,_,rfl,dgk A1.hd ev,a.p,a.dx,_,rfl,B.hp,rfl,_,rfl,a.p,a.dx,a.hd,a.td,ga,v,nm,one,n,kh,rfl,B.hp,B.hh,?_⟩
  rw[eA]
  exact⟨A3,_,0,_,rfl,rfl,hA,at0,_,_,rfl,rfl,q _ s1⟩
noncomputable def zj3(C CR:Addr):Sp:=λvs H Q _=>∃(hs O:List Str) (rp dr d wl:Addr) (v:V) (As:List HA) (st:Str->S3) (us:List V) (R:RdL),vs=[.ref rp]/\RnAt C CR hs H rp dr d wl v As st us R/\RdR hs O R/\R.length<=900/\∀H',Same H H'->Q (.bl ((R.map λe=>decide (e.2.2.1<=zd9 (zJ (st e.2.1).2.1 e.1))).all id)) H'
theorem znt(Y:Ev K mg):FnOk P w K mg base CX0 3 Y.a_Run_is_still Y.d_Run_is_still zbu (zj3 Y.c_House Y.c_Run):=by
 have G_Run_was_heard:FnOk P w K mg base CX0 2 Y.a_Run_was_heard Y.d_Run_was_heard za7 (zoC Y.c_House Y.c_Run):=zr9 Y
 refine Y.Run_is_still.fn.okQ zis (λvs H Q E h=>?_) `W3
 ·obtain ⟨hs,O,rp,dr,d,wl,v,As,st,us,R,rfl,_⟩:=h;rfl
 ·obtain ⟨hs,O,rp,dr,d,wl,v,As,st,us,R,rfl,A0,hR,l9,q⟩:=h
  refine⟨_,(zi (zr (zv (zdT rfl) Y.all zh2 (za (zcp (src:=[none,some 0]) zdK rfl rfl (zkw (zT (qc 0))) (λ_ _ _ _ _=>(zo 0 zdK.nd)) (λ_ _ _ _ _=>zdj) (λ_ _ _ _ _=>(zcq (qc 1) Y.k_Run Y.Run_was_heard.m G_Run_was_heard `U3 Y.Run_was_heard.b .nil zk (za (qv 0) zb)))) zb)))),?_⟩
  refine⟨_,rfl,rp,_,dr,_,_,rfl,A0.hr,Y.k_Run,Y.n_Run_waiting,zel,wl,rfl,⟨_,SqL.of A0.hw⟩,?_⟩
  refine zsN (f:=λe=>decide (e.2.2.1<=zd9 (zJ (st e.2.1).2.1 e.1))) (σr:=[some (.ref rp)]) (zhw (K:=K)) (λH' s'=>SqL.of (s' _ _ A0.hw)) A0.rd l9 rfl (λx e HA Q1 sA lx he q1=>?_) λl H1 s1 hl1 e1=>?_
  ·exact ⟨_,rfl,rp,dr,_,rfl,sA _ _ A0.hr,rfl,_,rfl,hs,rp,dr,d,wl,v,x,As,st,us,R,e.1,e.2.1,e.2.2,rfl,A0.same sA,lx,(hR e he).2.1,λHB sB=>q1 HB sB⟩
  ·exact ⟨l,_,rfl,SqL.of e1,q _ s1⟩
theorem zh5{n:Nat}{g:TG}{tk:TE}{src:List (Option Nat)}{Q:VK}(Pv:Addr->Nat->List (Key×V)->St->Hp->Prop)
 (h0:∀l,H1 l=none->Pv l 0 [] (zfA src σ) (upd H1 l (.dK []))) (hgo:∀l i ys σ H,H1 l=none->i<n->Pv l i ys σ H->J.go i H) (hst:∀l ys σ H,H1 l=none->Pv l n ys σ H->J.stop n H)
 (hs:∀l i x ys σ H H2,H1 l=none->i<n->Pv l i ys σ H->H l=some (.dK ys)->J.yld i H x H2->g x σ H2 λσ2 H3=>tc σ2 H3 λb H4=>
   if b=true then tk σ2 H4 λk H5=>tv σ2 H5 λy H6=>∃k',k=kV k'/\H6 l=some (.dK ys)/\ys.length<sizeLine/\Pv l (i+1) (zaB ys k' y) σ2 (upd H6 l (.dK (zaB ys k' y)))else H4 l=some (.dK ys)/\Pv l (i+1) ys σ2 H4)
 (hd:∀l ys σ H,H1 l=none->Pv l n ys σ H->H l=some (.dK ys)->Q (.ref l) H):zhU g tc tk tv src σ Q J H1:=by
 intro l hl
 refine⟨λi m ys σ H=>m=n -i/\i<=n/\Pv l i ys σ H,⟨n,`Z3,Z1 _,h0 l hl⟩,?_⟩
 rintro i m ys σ' H' ⟨rfl,hi,p⟩ hl'
 by_cases hlt:i<n
 ·exact .inr ⟨hgo l i ys σ' H' hl hlt p,Pv l (i+1),λzs σ2 H2 q=>⟨n -(i+1),(),rfl,hlt,q⟩,λx H2 y=>hs l i x ys σ' H' H2 hl hlt p hl' y⟩
 ·have e:i=n:=()
  subst e
  exact .inl ⟨hst l ys σ' H' hl p,hd l ys σ' H' hl p hl'⟩
inductive ChE(H:Hp):List (Key×V)->List (Str×Option WM)->Prop
 |nil:ChE H [] []
 |cons {x:Str} {v y:V} {b:Option WM} {kvs:List (Key×V)} {ws:List (Str×Option WM)} (h:WmAt H v y b) (t:ChE H kvs ws):ChE H ((Sum.inr x,v)::kvs) ((x,b)::ws)
section
variable{ws:List (Str×Option WM)}
theorem ChE.mono(h:ChE H kvs ws)(m:∀c xs,H c=some (.tup xs)->H' c=some (.tup xs)):ChE H' kvs ws:=by
 induction h with
 |nil=>exact .nil
 |cons h t ih=>exact .cons (h.mono m) ih
theorem ChE.snoc(h:ChE H kvs ws){y:V}{b:Option WM}(hw:WmAt H v y b):ChE H (kvs ++ [(Sum.inr x,v)]) (ws ++ [(x,b)]):=by
 induction h with
 |nil=>exact .cons hw .nil
 |cons h t ih=>exact .cons h ih
theorem ChE.none(h:ChE H kvs ws){x:Str}(hx:x∉ws.map (·.1)):za4 kvs (Sum.inr x)=none:=by
 induction h with
 |nil=>rfl
 |cons h t ih=>
  rw[E2,D1,not_or] at hx
  rw[zcf (λz=>hx.1 (by injection z with z;exact z.symm))]
  exact ih hx.2
theorem ChE.len(h:ChE H kvs ws):kvs.length=ws.length:=by
 induction h with
 |nil=>rfl
 |cons h t ih=>rw[L1,L1,ih]
theorem zq9{x y:V}{b:Option WM}(h:WmAt H x y b)(ok:zfg b):Tr H x (zer b):=by
 match b,h,ok with
 |none,⟨h1,_⟩,_=>rw[h1];exact .non
 |some (w,ms),⟨pw,pm,h1,h2,h3,h4⟩,ok=>
  rw[h1]
  refine .tup h3 (by unfold zI;rw[D0,D0]) λi v d e1 e2=>?_
  unfold zI at e2
  rw[V0] at e1 e2
  cases e3:w[i]? with
  |none=>rw[e3] at e1;cases e1
  |some x=>rw[e3] at e1 e2;cases e1;cases e2;exact .str x (zbd (ok.1 x (Z0 e3)))
theorem ChE.alk(h:ChE H kvs ws)(ok:∀e∈ws,zfg e.2):∀{kvs'},ChE H kvs' ws->Alk H kvs kvs':=by
 induction h with
 |nil=>intro kvs' h';cases h';exact .nil
 |cons h t ih=>
  intro kvs' h'
  cases h' with
  |cons h2 t2=>
   have o:=ok _ N1
   exact .cons (zq9 h o) (zq9 h2 o) (Y1 (zcI) ⋯) (ih (λe he=>ok e (F1 _ he)) t2)
end
noncomputable def ziA(C CR:Addr):Sp:=λvs H Q _=>∃(hs:List Str) (rp dr d wl:Addr) (v:V) (As:List HA) (st:Str->S3) (us:List V) (R:RdL),vs=[.ref rp]/\RnAt C CR hs H rp dr d wl v As st us R/\hs.Nodup/\hs.length<=10/\∀l kvs H',H' l=some (.dK kvs)->ChE H' kvs (hs.map λx=>(x,(st x).1))->Same H H'->Q (.ref l) H'
theorem zlJ(Y:Ev K mg):FnOk P w K mg base CX0 2 Y.a_Run_choice Y.d_Run_choice zcE (ziA Y.c_House Y.c_Run):=by
 have G_House_way:FnOk P w K mg base CX0 1 Y.a_House_way Y.d_House_way zdw (zoO Y.c_House 0):=zrN Y
 refine Y.Run_choice.fn.okQ zkM (λvs H Q E h=>?_) `W3
 ·obtain ⟨hs,rp,dr,d,wl,v,As,st,us,R,rfl,_⟩:=h;rfl
 ·obtain ⟨hs,rp,dr,d,wl,v,As,st,us,R,rfl,A0,nd,l10,q⟩:=h
  refine⟨_,(zi (zr (zkT (zhT (src:=[none,none]) zc9 rfl rfl (zmf (zT (qv 0))) (λ_ _ _ _ _=>(zir (K:=K) 2 rfl rfl (zt (zo 0 zc9.nd) (zt (zo 1 zc9.nd) zaA)))) (λ_ _ _ _ _=>zdj) (λ_ _ _ _ _=>(qv 0)) (λ_ _ _ _ _=>(zaH (qv 1) Y.k_House Y.House_way.m G_House_way `U3 Y.House_way.b .nil zk)))))),?_⟩
  refine⟨_,rfl,rp,_,dr,_,_,rfl,A0.hr,Y.k_Run,Y.n_Run_people,zbN,d,_,rfl,A0.hd,λo _=>?_⟩
  have la:As.length=hs.length:=by rw[←A0.ns,D0]
  have sd:∀{c ob},H c=some ob->c≠d->upd H d (.frz o (.dK (ppl As))) c=some ob:=λ{c ob} e n=>by rw[ze n];exact e
  refine zh5 (n:=As.length) (λl i ys σ' H'=>(∃o1 o2,σ'=[o1,o2])/\ChE H' ys ((As.take i).map λa=>(a.nm,(st a.nm).1))/\H' d=some (.frz o (.dK (ppl As)))/\∀c ob,c≠d->H c=some ob->H' c=some ob) ?_ ?_ ?_ ?_ ?_
  ·intro l hl
   have nl:l≠d:=λz=>by rw[z,zc] at hl;cases hl
   exact⟨⟨_,_,rfl⟩, .nil,by rw[ze (Ne.symm nl)];exact zc,λc ob n e=>by rw[ze (zj (sd e n) hl)];exact sd e n⟩
  ·exact λl i ys σ' H' hl hi z=>⟨by rw[D0];unfold ppl;rw[D0];exact hi,z.2.2.1⟩
  ·exact λl ys σ' H' hl z=>⟨by rw[D0];unfold ppl;rw[D0];exact S0 _,z.2.2.1⟩
  ·rintro l i x ys σ' H1 H2 hl hi ⟨⟨o1,o2,rfl⟩,ch,hd1,k1⟩ hl1 ⟨T,p,hp,rfl,hT,rfl⟩
   have ei:As[i]?=some As[i]:=F0 hi
   have ep:p=(V.str As[i].nm,V.ref As[i].p):=by
    unfold ppl at hp
    rw[List.map_map,V0,ei] at hp
    cases hp;rfl
   subst ep
   have hm:=List.getElem_mem hi
   have ix:∀j b,As[j]?=some b->b.nm=As[i].nm->j=i:=λj b e1 e2=>zbS nd (show hs[j]?=some b.nm by rw[←A0.ns,V0,e1];rfl) (show hs[i]?=some b.nm by rw[←A0.ns,V0,ei,e2];rfl)
   have tk:(As.take (i+1)).map (λa=>(a.nm,(st a.nm).1))=(As.take i).map (λa=>(a.nm,(st a.nm).1))++ [(As[i].nm,(st As[i].nm).1)]:=by rw[N3,ei,List.map_append];rfl
   obtain⟨ga,n,kh,kt,B⟩:=A0.ha _ hm
   generalize As[i]=a at *
   have S:=Same.new (o:= .tup [V.str a.nm,V.ref a.p]) hT
   have kd:∀c ob,c≠d->H c=some ob->upd H1 T (.tup [V.str a.nm,V.ref a.p]) c=some ob:=λc ob n e=>S _ _ (k1 c ob n e)
   have nd1:∀{c ob},H c=some ob->(∀z,ob≠ .dK z)->c≠d:=λ{c ob} e h z=>by rw[z,A0.hd] at e;cases e;exact h _ rfl
   have hp2:=kd _ _ (nd1 B.hp (λz y=>nomatch y)) B.hp
   obtain⟨gx,gy,hg,wm⟩:=B.gr
   have hg2:=kd _ _ (nd1 hg (λz y=>nomatch y)) hg
   have wm2:WmAt (upd H1 T (.tup [V.str a.nm,V.ref a.p])) gx gy (st a.nm).1:=wm.mono λc xs e=>kd _ _ (nd1 e (λz y=>nomatch y)) e
   have hl2:=S _ _ hl1
   have hd2:=S _ _ hd1
   have ch2:=ch.mono (H':=upd H1 T (.tup [V.str a.nm,V.ref a.p])) λc xs e=>S _ _ e
   refine⟨T,_,rfl, .inl (.inl zc),rfl,_,_,rfl,_,_,rfl,rfl,?_⟩
   refine⟨_,rfl,_,rfl,a.p,a.dx,_,rfl,hp2,rfl,a.p,a.dx,a.hd,a.td,ga,v,a.nm,n,_,gx,rfl,hp2,hg2,rfl,Sum.inr a.nm,rfl,hl2,?_,?_⟩
   ·have:=ch.len
    rw[D0,P1] at this
    exact zp ()
   ·have nx:a.nm∉((As.take i).map λa=>(a.nm,(st a.nm).1)).map (·.1):=λz=>by
     rw[List.map_map] at z
     obtain⟨b,hb,e⟩:=X1.mp z
     obtain⟨j,hj,ej⟩:=F2 hb
     rw[P1] at hj
     rw[List.getElem_take] at ej
     have:=ix j b (by rw[F0 (),ej]) e
     lia
    have up:∀c xs,upd H1 T (.tup [V.str a.nm,V.ref a.p]) c=some (.tup xs)->upd (upd H1 T (.tup [V.str a.nm,V.ref a.p])) l (.dK (zaB ys (Sum.inr a.nm) gx)) c=some (.tup xs):=λc xs e=>by rw[ze (zy e hl2 (λz=>nomatch z))];exact e
    refine⟨⟨_,_,rfl⟩,?_,?_,λc ob n e=>?_⟩
    ·rw[tk,zf2 _ (ch.none nx)]
     rw[zf2 _ (ch.none nx)] at up
     exact(ch2.mono up).snoc (wm2.mono up)
    ·rw[ze λz=>by rw[z,hl2] at hd2;cases hd2]
     exact hd2
    ·have nl:c≠l:=zj (sd e n) hl
     rw[ze nl]
     exact kd c ob n e
  ·rintro l ys σ' H1 hl ⟨_,ch,hd1,k1⟩ hl1
   rw[List.take_length] at ch
   have ew:(As.map λa=>(a.nm,(st a.nm).1))=hs.map λx=>(x,(st x).1):=by rw[←A0.ns,List.map_map];rfl
   rw[ew] at ch
   refine⟨d,o,_,hd1,λo' u' z=>?_,q l ys _ ?_ (ch.mono λc xs e=>?_) λc ob e=>?_⟩
   ·have z:H d=some (.frz o' u'):=z
    rw[A0.hd] at z;cases z
   ·rw[ze λz=>by rw[z,hd1] at hl1;cases hl1];exact hl1
   ·rw[ze λz=>by rw[z,hd1] at e;cases e];exact e
   ·by_cases z:c=d
    ·rw[z,zc,←A0.hd,←z];exact e
    ·rw[ze z];exact k1 c ob z e
noncomputable def zqb(st:Str->S3)(nm:Str)(s:S3):Str->S3:=λx=>if x=nm then s else st x
theorem zqB{nm:Str}{hd td g d:Addr}{n:Int}{C' dx dx':Addr}(h:(HO.ins C dx (zcb v nm hd td g n))= .ins C' dx' (zex v' d wl)):False:=by
 injection h with _ _ h
 have:=E3 List.length h
 exact absurd (show(6:Nat)=3 from this) ⋯
section
variable{CR:Addr}{d:Addr}{As:List HA}{st:Str->S3}{R:RdL}
theorem RnAt.wait(A0:RnAt C CR hs H rp dr d wl v As st us R){R':RdL}(h:RdO H us' R'):RnAt C CR hs (upd H wl (.lst us')) rp dr d wl v As st us' R':=by
 have m:∀c xs,H c=some (.tup xs)->upd H wl (.lst us') c=some (.tup xs):=λc xs e=>by rw[ze (zy e A0.hw (λz=>nomatch z))];exact e
 exact⟨by rw[ze (zy A0.hr A0.hw (λz=>nomatch z))];exact A0.hr,by rw[ze (zy A0.hd A0.hw (λz=>nomatch z))];exact A0.hd,zc,h.mono m,A0.ha.hold m λc hc o e=>by rw[ze (a:=wl) (b:=c) λz=>zhH A0.ha A0.hw (by rw[←z];exact hc)];exact e,A0.ns,A0.sep⟩
theorem RnAt.hear(A0:RnAt C CR hs H rp dr d wl v As st us R)(nd:hs.Nodup){a:HA}(ha:a∈As){s':S3}(B1:HsE C hs H1 v a s')(k1:∀c o,c≠a.p->c≠a.hd->c≠a.td->H c=some o->H1 c=some o):
 RnAt C CR hs H1 rp dr d wl v As (zqb st a.nm s') us R/\∀c o,c∉zdf As->H c=some o->H1 c=some o:=by
 obtain⟨ga,n,kh,kt,B0⟩:=A0.ha a ha
 have na:∀c,c∉adr a->c≠a.p/\c≠a.hd/\c≠a.td:=λc hc=>⟨λz=>hc (by simp[adr,z]),λz=>hc (by simp[adr,z]),λz=>hc (by simp[adr,z])⟩
 have k2:∀c o,c∉adr a->H c=some o->H1 c=some o:=λc o hc e=>k1 c o (na c hc).1 (na c hc).2.1 (na c hc).2.2 e
 have m:∀c xs,H c=some (.tup xs)->H1 c=some (.tup xs):=λc xs e=>k1 c _ (zy e B0.hp (λz=>nomatch z)) (zy e B0.hh (λz=>nomatch z)) (zy e B0.ht (λz=>nomatch z)) e
 have sd:d∉adr a:=λz=>(U2.mp A0.sep).1 (List.mem_flatMap.mpr ⟨a,ha,z⟩)
 refine⟨⟨?_,k2 _ _ sd A0.hd,k1 _ _ (zy A0.hw B0.hp (λz=>nomatch z)) (zy A0.hw B0.hh (λz=>nomatch z)) (zy A0.hw B0.ht (λz=>nomatch z)) A0.hw,A0.rd.mono m,λb hb=>?_,A0.ns,A0.sep⟩,λc o hc e=>k2 c o (λz=>hc (List.mem_flatMap.mpr ⟨a,ha,z⟩)) e⟩
 ·refine k1 _ _ (λz=>?_) (zy A0.hr B0.hh (λz=>nomatch z)) (zy A0.hr B0.ht (λz=>nomatch z)) A0.hr
  have:=A0.hr
  rw[z,B0.hp] at this
  exact zqB (U1 this)
 ·by_cases e:b.nm=a.nm
  ·have:=zv4 A0.ns nd hb ha e
   subst this
   show HsE C hs H1 v b (if b.nm=b.nm then s' else _)
   rw[R0 rfl]
   exact B1
  ·show HsE C hs H1 v b (if b.nm=a.nm then s' else st b.nm)
   rw[N0 e]
   exact(A0.ha b hb).hold m λc hc o e'=>k2 c o (zrc (U2.mp A0.sep).2 hb ha (λz=>e (by rw[z])) hc) e'
end
noncomputable def zlP(er:Bool)(C CR:Addr):Sp:=λvs H Q _=>∃(g:Str) (hs:List Str) (ps:List (Str×Str)) (lks hds:List D) (O:List Str) (rp dr d wl:Addr) (v:V) (As:List HA) (st:Str->S3) (us:List V) (R:RdL) (k:Nat) (e:Str×Lt),vs=[.ref rp, .int (k:Int)]/\RnAt C CR hs H rp dr d wl v As st us R/\Tn g hs ps lks hds O/\Rep H v (zag g hs ps lks hds)/\(∀x∈hs,SOk g hs ps lks hds O x (st x))/\RdR hs O R/\R.length<=800/\R[k]?=some e/\
 ∀(s':S3) (L:List Lt) (us':List V) (H':Hp),HearR hs ps hds e.2.1 (st e.2.1) e.1 e.2.2 s' L->SOk g hs ps lks hds O e.2.1 s'->RdR hs O (L.map λl=>(e.2.1,l))->RnAt C CR hs H' rp dr d wl v As (zqb st e.2.1 s') us' ((if er=true then R.eraseIdx k else R)++L.map λl=>(e.2.1,l))->(∀c o,c≠wl->c∉zdf As->H c=some o->H' c=some o)->Q .non H'
theorem zpO(Y:Ev K mg):FnOk P w K mg base CX0 10 Y.a_Run_come Y.d_Run_come zd4 (zlP true Y.c_House Y.c_Run):=by
 have G_at_place:FnOk P w K mg base CX0 3 Y.a_at_place Y.d_at_place zek zjx:=znl Y
 have G_House_hear:FnOk P w K mg base CX0 9 Y.a_House_hear Y.d_House_hear zcK (zmN Y.c_House):=zps Y
 refine Y.Run_come.fn.okQ ziL (λvs H Q E h=>?_) `W3
 ·obtain ⟨g,hs,ps,lks,hds,O,rp,dr,d,wl,v,As,st,us,R,k,e,rfl,_⟩:=h;rfl
 ·obtain ⟨g,hs,ps,lks,hds,O,rp,dr,d,wl,v,As,st,us,R,k,⟨one,nm,r⟩,rfl,A0,N,hv,hst,hR,l8,he,q⟩:=h
  obtain⟨lv,ev,lt⟩:=A0.rd.get he
  have h3:=hR _ (Z0 he)
  have lu:=A0.rd.1
  have hk:=(y1.mp he).1
  refine⟨_,(zf (zx 2 ziL.nd (zh G_at_place `U3 Y.at_place.mg Y.at_place.kp Y.at_place.b .nil zk (za (zT (qv 0)) (za (qv 1) zb))))
   (zf (zaZ (zgO F.plainAttrs_list F.slot_list_pop F.type_list_pop zsb (zT (qv 0)) (za (qv 1) zb)))
   (zi (zaZ (zgO F.plainAttrs_list F.slot_list_extend F.type_list_extend zgE (zT (qv 0)) (za (zcq (zlh (hu1 hr) (zT (qv 0)) (zM zw (qv 2) zg)) Y.k_House Y.House_hear.m G_House_hear `U3 Y.House_hear.b .nil zk (za (qv 2) zb)) zb)))))),?_⟩
  refine⟨_,rfl,rp,_,dr,_,_,rfl,A0.hr,Y.k_Run,Y.n_Run_waiting,zel,_,rfl,wl,k,us,lv,rfl,A0.hw,(),ev,?_⟩
  refine⟨_,rfl,rp,_,dr,_,_,rfl,A0.hr,Y.k_Run,Y.n_Run_waiting,zel, .inl ⟨rfl,_,SqL.of A0.hw⟩,_,rfl,wl,us,_,k,lv,rfl,rfl,A0.hw,(),(),?_,ev,?_⟩
  ·have:=StrLaws.seqIndex_nonneg (i:=(k:Int)) (n:=us.length) () ();rw[Int.toNat_natCast] at this;exact this
  have A1:=A0.wait (A0.rd.erase k)
  have f1:∀c o,c≠wl->H c=some o->upd H wl (.lst (us.eraseIdx k)) c=some o:=λc o n e=>by rw[ze n];exact e
  generalize upd H wl (.lst (us.eraseIdx k))=H1 at *
  have m1:∀c xs,H c=some (.tup xs)->H1 c=some (.tup xs):=λc xs e=>f1 _ _ (zy e A0.hw (λz=>nomatch z)) e
  have lt1:=lt.mono m1
  obtain⟨t,x,y,rfl,ht,wm⟩:=lt1
  obtain⟨a,ha,en,eva⟩:=zhK A1.ns h3.2.1
  have hna:a.nm=nm:=en
  obtain⟨ga,n,kh,kt,B⟩:=A1.ha a ha
  rw[hna] at B
  obtain⟨L0,I0⟩:=(hst nm h3.2.1).hi
  refine⟨_,rfl,rp,_,dr,_,_,rfl,A1.hr,Y.k_Run,Y.n_Run_waiting,zel, .inl ⟨rfl,_,SqL.of A1.hw⟩,?_⟩
  refine⟨_,rfl,rp,_,dr,_,_,rfl,A1.hr,Y.k_Run,Y.n_Run_people,zbN,_,rfl,t,_,1,_,rfl,rfl, .inl (.inl ht),zZ (j:=1) rfl,d,_,rfl,dgk A1.hd eva,a.p,a.dx,_,rfl,B.hp,rfl,_,rfl,?_⟩
  refine⟨a.p,a.dx,a.hd,a.td,ga,v,_,nm,one,r,n,_,kh,kt,_,_,L0,g,hs,ps,lks,hds,rfl,⟨t,x,y,rfl,ht,wm⟩,h3.1,h3.2.2.hr N,B,I0,zY hv N.T m1,N.T,N.hf,h3.2.1,λl ga' us2 n' b' kh' kt' tm' L H2 hl0 hl2 R2 B2 I2 k2 lL ee=>?_⟩
  have hh:HearR hs ps hds nm (st nm) one r (b',zfq (st nm).2.1 (one,r),tm') L:=⟨rfl,lL,ee⟩
  obtain⟨so,rl⟩:=zpo N h3.2.1 (hst nm h3.2.1) h3.2.2 hh I2
  obtain⟨A2,f2⟩:=A1.hear N.T.hs_nd ha (s':=(b',zfq (st nm).2.1 (one,r),tm')) ⟨ga',n',kh',kt',by rw[hna];exact B2⟩ k2
  rw[hna] at A2
  have lk:=R2.len
  refine⟨wl,l,_,us2,rfl,rfl,A2.hw,hl2,P2 (zp (by rw[List.length_eraseIdx];split<;>lia)),?_⟩
  refine q (b',zfq (st nm).2.1 (one,r),tm') L _ _ hh so rl (A2.wait (A2.rd.app (RdO.lts R2))) λc o n1 n2 e=>?_
  rw[ze n1]
  exact f2 c o n2 (f1 c o n1 e)
noncomputable def s0:S3:=(none,[],[])
noncomputable def zqt(g x:Str):Option WM:=if x=g then some ([x],[])else none
noncomputable def zie(g:Str)(hs:List Str)(ps:List (Str×Str))(hds:List D)(x:Str):S3:=(zqt g x,[],zcc (zA hs hds x) (zqt g x) [] (due hs ps x))
noncomputable def zt1(g:Str)(hs:List Str)(ps:List (Str×Str))(hds:List D)(x:Str):RdL:=(zbT (zA hs hds x) (zqt g x) [] (due hs ps x)).map λl=>(x,l)
noncomputable def stB(g:Str)(hs:List Str)(ps:List (Str×Str))(hds:List D)(xs:List Str)(x:Str):S3:=if x∈xs then zie g hs ps hds x else s0
noncomputable def rdB(g:Str)(hs:List Str)(ps:List (Str×Str))(hds:List D)(xs:List Str):RdL:=xs.flatMap (zt1 g hs ps hds)
theorem zkG{g:Str}{hs:List Str}{ps:List (Str×Str)}{hds:List D}(h:hs.length<=10):∀xs:List Str,(rdB g hs ps hds xs).length<=10*xs.length
 |[]=>Z1 _
 |x::xs=>by
  have h1:=zkG (g:=g) (ps:=ps) (hds:=hds) h xs
  have h2:(zt1 g hs ps hds x).length<=10:=by
   unfold zt1
   rw[D0]
   exact Y1 zeG (Y1 (List.length_filter_le _ _) h)
  unfold rdB at h1⊢
  rw[List.flatMap_cons,b0,L1]
  lia
theorem zr6{xs:List Str}:zqb (stB g hs ps hds xs) x (zie g hs ps hds x)=stB g hs ps hds (xs ++ [x]):=by
 funext y
 unfold zqb stB
 by_cases c:y=x
 ·rw[R0 c,c,R0 `Z3]
 ·rw[N0 c]
  by_cases d:y∈xs
  ·rw[R0 d,R0 (List.mem_append_left _ d)]
  ·rw[N0 d,N0 λz=>(Q2.mp z).elim d λz=>c (C2.mp z)]
theorem HsAll.congr{As:List HA}{st st':Str->S3}(h:HsAll C hs H v As st)(e:∀a∈As,st' a.nm=st a.nm):HsAll C hs H v As st':=λa ha=>by rw[e a ha];exact h a ha
theorem zwE{nm:Str}{b:Option WM}{tm:Tb}{L:List Lt}(i:HInv g nm (zA hs lks nm) (zA hs hds nm) (due hs ps nm) b [] tm L):b=zqt g nm:=by
 unfold zqt
 by_cases c:nm=g
 ·rw[R0 c,i.goal c]
 ·rw[N0 c]
  exact zpZ (λ_=>Iff.rfl) (λe he=>by cases(show e∈([]:List WM)from he)) (i.best c) (rfl:zh7 (zA hs lks nm) (zdd nm (zA hs lks nm) []) none)
theorem zvE{nm:Str}(hn:nm∈hs){L:List Lt}(i:HInv g nm (zA hs lks nm) (zA hs hds nm) (due hs ps nm) (zie g hs ps hds nm).1 [] (zie g hs ps hds nm).2.2 L):SOk g hs ps lks hds O nm (zie g hs ps hds nm):=
 ⟨⟨_,i⟩,zmw hn i λ_ z=>(nomatch z),λ_ z=>(nomatch z),List.nodup_nil⟩
theorem zsl(N:Tn g hs ps lks hds O){xs:List Str}(h:∀x∈xs,x∈hs/\SOk g hs ps lks hds O x (zie g hs ps hds x)):RdR hs O (rdB g hs ps hds xs):=λe he=>by
 obtain⟨x,hx,he⟩:=List.mem_flatMap.mp he
 exact zl6 N (h x hx).1 (h x hx).2.b e he
structure NwA(C:Addr)(hs:List Str)(H H':Hp)(v:V)(As:List HA)(xs:List Str):Prop where
 ns:As.map (·.nm)=xs
 al:HsAll C hs H' v As λ_=>s0
 nd:(zdf As).Nodup
 nw:∀c∈zdf As,H c=none
 sm:Same H H'
theorem zgD{As:List HA}{a:HA}:zdf (As ++ [a])=zdf As ++adr a:=by unfold zdf;rw[List.flatMap_append];simp
theorem NwA.one{H4:Hp}{As:List HA}{xs:List Str}{p dx hd td e:Addr}{nm:Str}(N:NwA C hs H H3 v As xs)(np:H3 p=none)(ndx:H3 dx=none)
 (f1:upd (upd H3 dx (.own p)) p (.ins C dx []) hd=none) (f2:upd (upd H3 dx (.own p)) p (.ins C dx []) td=none) (nht:hd≠td) (hp4:H4 p=some (.ins C dx (zcb v nm hd td ga 0))) (hh4:H4 hd=some (.dK [])) (ht4:H4 td=some (.dK [])) (hg4:H4 ga=some (.tup [.non, .ref e])) (he4:H4 e=some (.tup []))
 (k4:Keep p (upd (upd H3 dx (.own p)) p (.ins C dx [])) H4):NwA C hs H H4 v (As ++ [⟨nm,p,dx,hd,td⟩]) (xs ++ [nm])/\Same H3 H4:=by
 have ndp:∀{c o},H3 c=some o->c≠p:=λ{c o} e=>zj e np
 have u34:Same H3 (upd (upd H3 dx (.own p)) p (.ins C dx [])):=λc o e=>by rw[ze (ndp e),ze (zj e ndx)];exact e
 have s34:Same H3 H4:=λc o e=>k4 c o (ndp e) (u34 c o e)
 have hd0:H3 hd=none:=u34.free f1
 have td0:H3 td=none:=u34.free f2
 have A4:HsAt C hs H4 p dx hd td ga v nm 0 none [] [] [] []:=⟨hp4,hh4, .nil, .nil,ht4, .nil, .nil,⟨.non, .ref e,hg4,rfl,e,rfl,he4⟩,trivial,nht⟩
 have free3:∀c∈adr ⟨nm,p,dx,hd,td⟩,H3 c=none:=λc hc=>by
  simp only[adr,D1,O2,or_false] at hc
  rcases hc with rfl|rfl|rfl
  ·exact np
  ·exact hd0
  ·exact td0
 refine⟨⟨by rw[List.map_append,N.ns];rfl,λa ha=>?_,?_,λc hc=>?_,N.sm.trans s34⟩,s34⟩
 ·rcases Q2.mp ha with ha|ha
  ·exact (N.al.same s34) a ha
  ·rw[C2.mp ha]
   exact⟨ga,0,[],[],A4⟩
 ·rw[zgD,List.nodup_append]
  refine⟨N.nd,?_,λc hc c' hc' ee=>?_⟩
  ·have n1:p≠hd:=zy hp4 hh4 (λz=>nomatch z)
   have n2:p≠td:=zy hp4 ht4 (λz=>nomatch z)
   simp[adr,n1,n2,nht]
  ·obtain ⟨o,ho⟩:=zrH N.al hc
   rw[ee,free3 c' hc'] at ho
   cases ho
 ·rw[zgD] at hc
  rcases Q2.mp hc with hc|hc
  ·exact N.nw c hc
  ·exact N.sm.free (free3 c hc)
theorem NwA.put{As:List HA}{xs:List Str}{o:HO}(N:NwA C hs H H3 v As xs)(hl:H l=none)(hl3:H3 l=some o)(nt:∀z,o≠ .tup z)(na:l∉zdf As):NwA C hs H (upd H3 l o') v As xs:=
 ⟨N.ns,N.al.hold (λc xs e=>by rw[ze λz=>by rw[z,hl3] at e;cases e;exact nt _ rfl];exact e) λc hc ob e=>by rw[ze λz=>na (by rw[←z];exact hc)];exact e,N.nd,N.nw,λc ob e=>by rw[ze (zj e hl)];exact N.sm c ob e⟩
theorem zqr{As:List HA}{a:HA}:ppl (As ++ [a])=ppl As ++ [(Sum.inr a.nm, .ref a.p)]:=by unfold ppl;rw[List.map_append];rfl
theorem zry{As:List HA}(h:x∉As.map (·.nm)):za4 (ppl As) (Sum.inr x)=none:=by
 induction As with
 |nil=>rfl
 |cons a As ih=>
  rw[E2,D1,not_or] at h
  show za4 ((Sum.inr a.nm, .ref a.p)::ppl As) (Sum.inr x)=none
  rw[zcf (λz=>h.1 (by injection z with z;exact z.symm))]
  exact ih h.2
theorem zln(nd:hs.Nodup)(h:hs[i]?=some x):x∉hs.take i:=λz=>by
 obtain⟨j,hj,ej⟩:=F2 z
 rw[P1] at hj
 rw[List.getElem_take] at ej
 have:=zbS nd (show hs[j]?=some x by rw[F0 (),ej]) h
 lia
noncomputable def zoU(C CR:Addr):Sp:=λvs H Q _=>∃(g:Str) (hs:List Str) (ps:List (Str×Str)) (lks hds:List D) (O:List Str) (rp dr:Addr) (v:V),vs=[.ref rp,v]/\H rp=some (.ins CR dr [])/\Tn g hs ps lks hds O/\Rep H v (zag g hs ps lks hds)/\
 ∀(d wl:Addr) (As:List HA) (us:List V) (H':Hp),RnAt C CR hs H' rp dr d wl v As (zie g hs ps hds) us (rdB g hs ps hds hs)->(∀x∈hs,SOk g hs ps lks hds O x (zie g hs ps hds x))->H wl=none->H d=none->(∀c∈zdf As,H c=none)->Keep rp H H'->Q .non H'
theorem zr0(Y:Ev K mg):FnOk P w K mg base CX0 9 Y.a_Run___init__ Y.d_Run___init__ zbD (zoU Y.c_House Y.c_Run):=by
 have G_House___init__:FnOk P w K mg base CX0 1 Y.a_House___init__ Y.d_House___init__ zaU (zmD Y.c_House):=zpf Y
 have G_House_begin:FnOk P w K mg base CX0 8 Y.a_House_begin Y.d_House_begin zb4 (zjK Y.c_House):=zmX Y
 refine Y.Run___init__.fn.okQ zeB (λvs H Q E h=>?_) `W3
 ·obtain ⟨g,hs,ps,lks,hds,O,rp,dr,v,rfl,_⟩:=h;rfl
 ·obtain ⟨g,hs,ps,lks,hds,O,rp,dr,v,rfl,hrp,N,hv,q⟩:=h
  have T10:=N.T.ten
  refine⟨_,(zf (zeq (qv 0) (qc 1))
   (zf (zeq (qv 0) (zhT (src:=[none,some 1]) zdH rfl rfl (zcX (zM zw (qc 1) zg)) (λ_ _ _ _ _=>(zo 0 zdH.nd)) (λ_ _ _ _ _=>zdj) (λ_ _ _ _ _=>(qv 0)) (λ_ _ _ _ _=>(zrG Y.mk_House G_House___init__ `U3 Y.m_House Y.House___init__.b .nil zk (za (qc 1) (za (qv 0) zb))))))
   (zf (zeq (qv 0) (zaR zb))
   (zi (zcZ O3 rfl (zcX (zM zw (qc 1) zg)) (zo 2 zeB.nd) (zi (zaZ (zgO F.plainAttrs_list F.slot_list_extend F.type_list_extend zgE (zT (qv 0)) (za (zaH (zlh (hu1 hr) (zT (qv 0)) (qv 2)) Y.k_House Y.House_begin.m G_House_begin `U3 Y.House_begin.b .nil zk) zb))))))))),?_⟩
  refine⟨_,rfl,_,rfl,rp,_,dr,[],rfl,hrp,Y.k_Run,Y.n_Run_place,(by decide:0<1000),?_⟩
  have k1:Keep rp H (upd H rp (.ins Y.c_Run dr (zas "place" v []))):=Keep.upd _ _ _
  have r1:upd H rp (.ins Y.c_Run dr (zas "place" v [])) rp=some (.ins Y.c_Run dr [("place",v)]):=zc
  generalize upd H rp (.ins Y.c_Run dr (zas "place" v []))=H1 at *
  have m1:∀c xs,H c=some (.tup xs)->H1 c=some (.tup xs):=λc xs e=>k1 _ _ (zy e hrp (λz=>nomatch z)) e
  have hv1:=zY hv N.T m1
  obtain⟨p,pr,pt,pl,pa,vt,vl,va,rfl,hp,hpr,hpt,rt,hpl,rl,hpa,ra⟩:=zbm hv1
  refine⟨_,rfl,p,_,1,_,rfl,rfl, .inl (.inl hp),at1,pr,rfl,⟨_, .inl (.inl hpr)⟩,?_⟩
  refine zpE (zbk (K:=K) (xs:=hs.map V.str)) (λl i ys σ' H'=>(∃o1,σ'=[o1,some (.ref p)])/\∃As,ys=ppl As/\l∉zdf As/\NwA Y.c_House hs H1 H' (.ref p) As (hs.take i)) ?_ ?_ ?_ ?_
  ·exact λl hl=>⟨⟨_,rfl⟩,[],rfl,(λz=>nomatch z),rfl,(λ_ z=>nomatch z),List.nodup_nil,(λ_ z=>nomatch z),Same.new hl⟩
  ·exact λl i ys σ' H' hl ⟨_,As,_,_,Nw⟩=> .inl (.inl (Nw.sm _ _ hpr))
  ·rintro l i x ys σ' H3 hl hi hx ⟨⟨o1,rfl⟩,As,rfl,nl,Nw⟩ hl3
   rw[D0] at hi
   have ei:hs[i]?=some hs[i]:=F0 hi
   have ex:x= .str hs[i]:=by rw[V0,ei] at hx;cases hx;rfl
   subst ex
   have tk:hs.take (i+1)=hs.take i ++ [hs[i]]:=by rw[N3,ei];rfl
   have nx:=zln N.T.hs_nd ei
   generalize hs[i]=nm at *
   refine⟨_,rfl,_,rfl,_,rfl,λp4 dx np ndx nex=>⟨p4,dx, .ref p,nm,rfl,zc,λhd td ga e H4 f1 f2 f3 f4 nht hp4 hh4 ht4 hg4 he4 k4=>⟨rfl,?_⟩⟩⟩
   obtain⟨Nw4,s34⟩:=Nw.one (nm:=nm) np ndx f1 f2 nht hp4 hh4 ht4 hg4 he4 k4
   have hl4:=s34 _ _ hl3
   have nl4:l∉zdf (As ++ [⟨nm,p4,dx,hd,td⟩]):=λz=>by
    rw[zgD] at z
    rcases Q2.mp z with z|z
    ·exact nl z
    ·simp only[adr,D1,O2,or_false] at z
     have u34:Same H3 (upd (upd H3 dx (.own p4)) p4 (.ins Y.c_House dx [])):=λc o e=>by rw[ze (zj e np),ze (zj e ndx)];exact e
     rcases z with z|z|z
     ·rw[←z,hl3] at np;cases np
     ·rw[←z,u34 _ _ hl3] at f1;cases f1
     ·rw[←z,u34 _ _ hl3] at f2;cases f2
   have la:As.length<=10:=by have:=E3 List.length Nw.ns;rw[D0,P1] at this;lia
   refine⟨Sum.inr nm,rfl,hl4,zp (by unfold ppl;rw[D0];lia),⟨_,rfl⟩,_,?_,nl4,?_⟩
   ·rw[zf2 _ (zry (by rw[Nw.ns];exact nx)),zqr]
   ·rw[tk]
    exact Nw4.put hl hl4 (λz y=>nomatch y) nl4
  rintro d ys σ' H3 hd0 ⟨_,As,rfl,nl,Nw⟩ hd3
  rw[show hs.take (hs.map V.str).length=hs by rw[D0];exact List.take_length] at Nw
  have nr:rp∉zdf As:=λz=>by have:=Nw.nw _ z;rw[r1] at this;cases this
  have hr3:=Nw.sm _ _ r1
  refine⟨_,rfl,rp,_,dr,_,rfl,hr3,Y.k_Run,Y.n_Run_people,(by decide:1<1000),?_⟩
  have k4:Keep rp H3 (upd H3 rp (.ins Y.c_Run dr (zas "people" (.ref d) [("place", .ref p)]))):=Keep.upd _ _ _
  have r4:upd H3 rp (.ins Y.c_Run dr (zas "people" (.ref d) [("place", .ref p)])) rp=some (.ins Y.c_Run dr [("place", .ref p),("people", .ref d)]):=zc
  generalize upd H3 rp (.ins Y.c_Run dr (zas "people" (.ref d) [("place", .ref p)]))=H4 at *
  refine⟨few rfl,λwl hwl=>⟨_,rfl,rp,_,dr,_,rfl,Same.new hwl _ _ r4,Y.k_Run,Y.n_Run_waiting,(by decide:2<1000),?_⟩⟩
  have nwr:wl≠rp:=λz=>by rw[z,r4] at hwl;cases hwl
  have r5:upd (upd H4 wl (.lst [])) rp (.ins Y.c_Run dr (zas "waiting" (.ref wl) [("place", .ref p),("people", .ref d)])) rp=some (.ins Y.c_Run dr (zex (.ref p) d wl)):=zc
  have w5:upd (upd H4 wl (.lst [])) rp (.ins Y.c_Run dr (zas "waiting" (.ref wl) [("place", .ref p),("people", .ref d)])) wl=some (.lst []):=by rw[ze nwr];exact zc
  have k5:∀c o,c≠rp->H3 c=some o->upd (upd H4 wl (.lst [])) rp (.ins Y.c_Run dr (zas "waiting" (.ref wl) [("place", .ref p),("people", .ref d)])) c=some o:=λc o n e=>by
   have e4:=k4 c o n e
   rw[ze n,ze (zj e4 hwl)];exact e4
  generalize upd (upd H4 wl (.lst [])) rp (.ins Y.c_Run dr (zas "waiting" (.ref wl) [("place", .ref p),("people", .ref d)]))=H5 at *
  have m5:∀c xs,H3 c=some (.tup xs)->H5 c=some (.tup xs):=λc xs e=>k5 c _ (zy e hr3 (λz=>nomatch z)) e
  have hd5:=k5 d _ (zy hd3 hr3 (λz=>nomatch z)) hd3
  have A5:RnAt Y.c_House Y.c_Run hs H5 rp dr d wl (.ref p) As (stB g hs ps hds []) [] (rdB g hs ps hds []):=⟨r5,hd5,w5, .nil,(Nw.al.hold m5 λc hc o e=>k5 c o (λz=>nr (by rw[←z];exact hc)) e).congr λa _=>rfl,Nw.ns,U2.mpr ⟨nl,Nw.nd⟩⟩
  have m15:∀c xs,H1 c=some (.tup xs)->H5 c=some (.tup xs):=λc xs e=>m5 _ _ (Nw.sm _ _ e)
  refine⟨_,rfl,p,_,1,_,rfl,rfl, .inl (.inl (m15 _ _ hp)),at1,pr,rfl,⟨_, .inl (.inl (m15 _ _ hpr))⟩,?_⟩
  have ntw:∀{c xs},H5 c=some (.tup xs)->c≠wl:=λ{c xs} e=>zy e w5 (λz=>nomatch z)
  refine zbe (zbk (K:=K) (xs:=hs.map V.str)) (λi σ' H'=>(∃o2,σ'=[some (.ref rp),some (.ref p),o2])/\(∃us,RnAt Y.c_House Y.c_Run hs H' rp dr d wl (.ref p) As (stB g hs ps hds (hs.take i)) us (rdB g hs ps hds (hs.take i)))/\(∀x∈hs.take i,SOk g hs ps lks hds O x (zie g hs ps hds x))/\∀c o,c≠wl->c∉zdf As->H5 c=some o->H' c=some o) ?_ ?_ ?_ ?_
  ·exact ⟨⟨_,rfl⟩,⟨[],A5⟩,(λ_ z=>nomatch z),λc o _ _ e=>e⟩
  ·exact λi σ' H' z=> .inl (.inl (z.2.2.2 _ _ (ntw (m15 _ _ hpr)) (zhF A5.ha (m15 _ _ hpr)) (m15 _ _ hpr)))
  ·rintro i y σ' H6 hi hy ⟨⟨o2,rfl⟩,⟨us,A6⟩,so6,k6⟩
   rw[D0] at hi
   have ei:hs[i]?=some hs[i]:=F0 hi
   have ex:y= .str hs[i]:=by rw[V0,ei] at hy;cases hy;rfl
   subst ex
   have tk:hs.take (i+1)=hs.take i ++ [hs[i]]:=by rw[N3,ei];rfl
   have nx:=zln N.T.hs_nd ei
   have hnm:=List.getElem_mem hi
   generalize hs[i]=nm at *
   obtain⟨a,ha,en,eva⟩:=zhK A6.ns hnm
   obtain⟨ga,n,kh,kt,B⟩:=A6.ha a ha
   rw[en,show stB g hs ps hds (hs.take i) nm=s0 from N0 nx] at B
   cases B.th
   cases B.tt
   have m56:∀c xs,H5 c=some (.tup xs)->H6 c=some (.tup xs):=λc xs e=>k6 _ _ (ntw e) (zhF A5.ha e) e
   have lR:=zkG (g:=g) (ps:=ps) (hds:=hds) T10 (hs.take i)
   rw[P1] at lR
   have lu:=A6.rd.1
   refine⟨_,rfl,rp,_,dr,_,_,rfl,A6.hr,Y.k_Run,Y.n_Run_waiting,zel, .inl ⟨rfl,_,SqL.of A6.hw⟩,?_⟩
   refine⟨_,rfl,rp,_,dr,_,_,rfl,A6.hr,Y.k_Run,Y.n_Run_people,zbN,_,rfl,d,_,rfl,dgk A6.hd eva,a.p,a.dx,_,rfl,B.hp,rfl,?_⟩
   refine⟨a.p,a.dx,a.hd,a.td,ga, .ref p,nm,n,g,hs,ps,lks,hds,rfl,B,zY hv1 N.T λc xs e=>m56 _ _ (m15 _ _ e),N.T,N.hf,hnm,λl ga' us2 n' b' kt' tm' L H7 hl0 hl7 R7 B7 I7 k7 lL eL eT=>?_⟩
   have eb:=zwE I7
   subst eb
   subst eL
   subst eT
   obtain⟨A7,f7⟩:=A6.hear N.T.hs_nd ha (s':=zie g hs ps hds nm) ⟨ga',n',_,kt',by rw[en];exact B7⟩ k7
   rw[en,zr6,←tk] at A7
   have lk:=R7.len
   refine⟨wl,l,us,us2,rfl,rfl,A7.hw,hl7,P2 (zp ()),⟨_,rfl⟩,⟨us ++us2,?_⟩,λx hx=>?_,λc o n1 n2 e=>?_⟩
   ·have e2:rdB g hs ps hds (hs.take (i+1))=rdB g hs ps hds (hs.take i)++zt1 g hs ps hds nm:=by rw[tk];unfold rdB;rw[List.flatMap_append];simp
    rw[e2]
    exact A7.wait (A7.rd.app (RdO.lts R7))
   ·rw[tk] at hx
    rcases Q2.mp hx with hx|hx
    ·exact so6 x hx
    ·rw[C2.mp hx];exact zvE hnm I7
   ·rw[ze n1]
    exact f7 c o n2 (k6 c o n1 n2 e)
  ·rintro σ' H6 ⟨_,⟨us,A6⟩,so6,k6⟩
   rw[show hs.take (hs.map V.str).length=hs by rw[D0];exact List.take_length] at A6 so6
   have back:∀c,H1 c=none->H c=none:=λc e=>by
    cases z:H c with
    |none=>rfl
    |some o=>
     by_cases y:c=rp
     ·rw[y,r1] at e;cases e
     ·rw[k1 c o y z] at e;cases e
   have nm1:∀{c o},H1 c=some o->c∉zdf As:=λ{c o} e z=>by rw[Nw.nw c z] at e;cases e
   refine q d wl As us H6 ⟨A6.hr,A6.hd,A6.hw,A6.rd,A6.ha.congr λa ha=>?_,A6.ns,A6.sep⟩ so6 (back wl ?_) (back d hd0) (λc hc=>back c (Nw.nw c hc)) λc o n e=>?_
   ·exact (R0 (by rw[←A6.ns];exact X1.mpr ⟨a,ha,rfl⟩)).symm
   ·cases z:H1 wl with
    |none=>rfl
    |some o=>rw[k4 wl o nwr (Nw.sm _ _ z)] at hwl;cases hwl
   ·have e1:=k1 c o n e
    have e3:=Nw.sm _ _ e1
    exact k6 c o (λz=>by rw[z] at e3;rw[k4 wl o nwr e3] at hwl;cases hwl) (nm1 e1) (k5 c o n e3)
theorem zkE(Y:Ev K mg):FnOk P w K mg base CX0 1 Y.a_is_number Y.d_is_number zbi (zaL zrR):=by
 refine Y.is_number.fn.okQ zg3 (λvs H Q E h=>?_) `W3
 ·obtain ⟨v,d,rfl,_⟩:=h;rfl
 ·obtain ⟨v,d,rfl,hd,q⟩:=h
  obtain⟨t,ht,h1,h2,h3,h4⟩:=hd.isi (K:=K)
  have q:=q H (Same.refl H)
  refine⟨_,(zi (zr (zbf (zv zcW Y.isinstance zV (za (qv 0) (za (zl1 Y.int zgG) zb))) (zbv (zma (zv zcW Y.isinstance zV (za (qv 0) (za (zl1 Y.bool zow) zb)))))))),?_⟩
  refine⟨_,rfl,_,_,_,_,rfl,ht,h2,_,rfl,?_⟩
  refine zat (λe=>?_) (λe=>?_)
  ·refine ⟨_,rfl,_,_,_,_,rfl,ht,h3,_,rfl,?_⟩
   cases d<;>first|exact q|cases e
  ·cases d<;>first|exact q|exact absurd rfl e
noncomputable def zk4:Sp:=λvs H Q _=>∃v d lo hi,vs=[v, .int lo, .int hi]/\Rep H v d/\∀H',Same H H'->Q (.bl (zc5 d lo hi)) H'
theorem zha(Y:Ev K mg):FnOk P w K mg base CX0 2 Y.a_is_whole Y.d_is_whole zbc zk4:=by
 have G_is_number:FnOk P w K mg base CX0 1 Y.a_is_number Y.d_is_number zbi (zaL zrR):=zkE Y
 refine Y.is_whole.fn.okQ ziS (λvs H Q E h=>?_) `W3
 ·obtain ⟨v,d,lo,hi,rfl,_⟩:=h;rfl
 ·obtain ⟨v,d,lo,hi,rfl,hd,q⟩:=h
  refine⟨_,(zi (zr (zbf (zh G_is_number `U3 Y.is_number.mg Y.is_number.kp Y.is_number.b .nil zk (za (qv 0) zb)) (zbv (zhI zfs zfs (qv 1) (qv 0) (qv 2)))))),?_⟩
  refine⟨_,rfl,v,d,rfl,hd,λH1 s1=>?_⟩
  have q:=q H1 s1
  refine⟨_,rfl,zat (λe=>?_) (λe=>?_)⟩
  ·cases hd with
   |int i=>
    refine⟨_,rfl,_,rfl,_,_,rfl,rfl,_,rfl,zat (λe1=>?_) (λe1=>?_)⟩
    ·refine ⟨_,rfl,_,_,rfl,rfl,?_⟩
     have:zc5 (.int i) lo hi=decide (i<=hi):=by show(decide (lo<=i)&&decide (i<=hi))=_;rw[e1];rfl
     rw[this] at q;exact q
    ·have:zc5 (.int i) lo hi=false:=by show(decide (lo<=i)&&decide (i<=hi))=_;rw[tru e1];rfl
     rw[this] at q;exact q
   |_=>cases e
  ·have:zc5 d lo hi=false:=by cases d<;>first|rfl|exact absurd rfl e
   rw[this] at q;exact q
noncomputable def zhP:Sp:=λvs H Q _=>∃v d lo hi,vs=[v, .int lo, .int hi]/\Rep H v d/\∀H',Same H H'->Q (.bl (zao d lo hi)) H'
theorem zcQ(Y:Ev K mg):FnOk P w K mg base CX0 1 Y.a_is_row Y.d_is_row zbJ zhP:=by
 refine Y.is_row.fn.okQ zsH (λvs H Q E h=>?_) `W3
 ·obtain ⟨v,d,lo,hi,rfl,_⟩:=h;rfl
 ·obtain ⟨v,d,lo,hi,rfl,hd,q⟩:=h
  have q:=q H (Same.refl H)
  obtain⟨t,ht,h1,h2,h3,h4⟩:=hd.isi (K:=K)
  refine⟨_,(zi (zr (zbf (zv zcW Y.isinstance zV (za (qv 0) (za (zl1 Y.tuple zaK) zb))) (zbv (zhI zfs zfs (qv 1) (zv z8 Y.len za0 (za (qv 0) zb)) (qv 2)))))),?_⟩
  refine⟨_,rfl,_,_,_,_,rfl,ht,h1,_,rfl,zat (λe=>?_) (λe=>?_)⟩
  ·cases hd with
   | @tup p vs ds hp l b r=>
     refine⟨_,rfl,_,rfl, .inl ⟨p,vs,rfl, .inr (.inl (.inl hp)),_,_,rfl,rfl,_,rfl,zat (λe1=>?_) (λe1=>?_)⟩⟩
     ·refine ⟨_,rfl,_,_,rfl,rfl,?_⟩
      have:zao (.tup ds) lo hi=decide ((vs.length:Int)<=hi):=by show(decide (lo<=(ds.length:Int))&&decide ((ds.length:Int)<=hi))=_;rw[←l,e1];rfl
      rw[this] at q;exact q
     ·have:zao (.tup ds) lo hi=false:=by show(decide (lo<=(ds.length:Int))&&decide ((ds.length:Int)<=hi))=_;rw[←l,tru e1];rfl
      rw[this] at q;exact q
   |_=>cases e
  ·have:zao d lo hi=false:=by cases d<;>first|rfl|exact absurd rfl e
   rw[this] at q;exact q
noncomputable def zeD:Sp:=λvs H Q _=>∃v d n,vs=[v, .int n]/\1<=n/\Rep H v d/\∀H',Same H H'->Q (.bl (zL d n)) H'
theorem zcJ(Y:Ev K mg):FnOk P w K mg base CX0 2 Y.a_is_worded Y.d_is_worded zaP zeD:=by
 have G_is_row:FnOk P w K mg base CX0 1 Y.a_is_row Y.d_is_row zbJ zhP:=zcQ Y
 refine Y.is_worded.fn.okQ zlz (λvs H Q E h=>?_) `W3
 ·obtain ⟨v,d,n,rfl,_⟩:=h;rfl
 ·obtain ⟨v,d,n,rfl,hn,hd,q⟩:=h
  refine⟨_,(zi (zr (zbf (zh G_is_row `U3 Y.is_row.mg Y.is_row.kp Y.is_row.b .nil zk (za (qv 0) (za (qv 1) (za (qv 1) zb)))) (zbv (zv zcW Y.isinstance zV (za (zM zw (qv 0) zg) (za (zl1 Y.str zrA) zb))))))),?_⟩
  refine⟨_,rfl,_,rfl,_,rfl,v,d,n,n,rfl,hd,λH1 s1=>?_⟩
  have q:=q H1 s1
  have hd1:=hd.same s1
  refine⟨_,rfl,zat (λe=>?_) (λe=>?_)⟩
  ·have e0:=e
   unfold zL at q
   rw[e] at q
   cases hd1 with
   | @tup p vs ds hp l b r=>
     match ds,vs,l with
     |[],_,_=>
      exfalso
      simp[zao] at e0
      lia
     |d0::ds,x::vs,l=>
      have h0:Rep H1 x d0:=r 0 x d0 rfl rfl
      obtain⟨t,ht,h1,h2,h3,h4⟩:=h0.isi (K:=K)
      refine⟨_,rfl,p,x::vs,0,x,rfl,rfl, .inl (.inl hp),at0,_,_,_,_,rfl,ht,h4,?_⟩
      cases d0<;>exact q
   |_=>cases e
  ·unfold zL at q
   rw[tru e] at q;exact q
theorem zfR(Y:Ev K mg):FnOk P w K mg base CX0 1 Y.a_is_name Y.d_is_name zcS (zaL zaO):=by
 refine Y.is_name.fn.okQ zo3 (λvs H Q E h=>?_) `W3
 ·obtain ⟨v,d,rfl,_⟩:=h;rfl
 ·obtain ⟨v,d,rfl,hd,q⟩:=h
  refine⟨_,(zf (zae (t_w (zmd (zcd (zbM (zv zcW Y.isinstance zV (za (qv 0) (za (zl1 Y.str zrA) zb))))) (zhd (zcd (zsI zfs zfs zg (zv z8 Y.len za0 (za (qv 0) zb)) (zaF Y.m_LONGEST Y.r_LONGEST)))))) (zi (zr zgc)) zO)
   (zi (zr (zbf (zv (zdT rfl) Y.all zh2 (za (zcp (src:=[none]) zg7 rfl rfl (zwY (qv 0)) (λ_ _ _ _ _=>(zo 0 zg7.nd)) (λ_ _ _ _ _=>zdj) (λ_ _ _ _ _=>(zhI zkd zkd zu (qv 0) zu))) zb)) (zbv (zaY zgk (qv 0) (zaF (v:= .ref Y.a_TAKEN) Y.m_TAKEN rfl))))))),?_⟩
  obtain⟨t,ht,_,_,_,h4⟩:=hd.isi (K:=K)
  refine⟨_,rfl,_,_,_,_,rfl,ht,h4,_,rfl,?_⟩
  cases hd with
  |str x hx=>
   have hz:x.length<=sizeLine:=P2 (zp hx)
   refine⟨_,rfl, .inr ⟨x,rfl,hz,_,_,rfl,rfl,_,rfl,?_⟩⟩
   refine zat (λh1=>?_) (λh1=>?_)
   ·have h1':1<=x.length:=by
     have:=O0 h1
     lia
    refine⟨_,_,rfl,rfl,_,rfl,?_⟩
    cases h8:decide ((x.length:Int)<=8)with
    |false=>
     have e:zm x=false:=by
      have h8':=of_decide_eq_false h8
      have:decide (x.length<=8)=false:=U0 ()
      unfold zm
      rw[this]
      simp
     have q:=q H (Same.refl H)
     rw[zdS] at q
     rw[e] at q
     exact q
    |true=>
     have h8':x.length<=8:=by
      have:=O0 h8
      lia
     refine⟨_,rfl,x,rfl,?_⟩
     refine zcx zvm (λl i ys σ' H'=>(∃o,σ'=[o])/\ys=(x.cps.toList.take i).map (λc=>V.bl (zaG c))/\H'=upd H l (.lst ys)) ?_ (λ_ _ _ _ _ _ _=>trivial) ?_ ?_
     ·exact λl hl=>⟨⟨_,rfl⟩,rfl,rfl⟩
     ·rintro l i y ys σ' H' hl hi ⟨c,hc,rfl⟩ ⟨⟨o,rfl⟩,rfl,rfl⟩ hl'
      repeat (first|with_reducible_and_instances refine⟨_,rfl,?_⟩|refine⟨_,rfl,?_⟩|refine⟨_,_,rfl,rfl,?_⟩|refine⟨_,_,_,_,rfl,rfl,SqL.of (by assumption),rfl,?_⟩|refine⟨_,_,_,_,rfl,rfl,(by assumption),rfl,?_⟩|refine .inl ⟨_,rfl,?_⟩|refine .inr ⟨_,rfl,?_⟩|refine⟨(by first|assumption|decide|lia|exact few rfl|exact .inl ⟨⋯,⋯⟩|exact .inr ⟨⋯,⋯⟩|exact .inl ⟨(),()⟩|exact .inr ⟨(),()⟩|exact⟨(),()⟩),?_⟩)
      have hc':x.cps.toList[i]?=some c:=by simpa using hc
      have tk:(x.cps.toList.take i).map (λc=>V.bl (zaG c))++ [V.bl (zaG c)]=(x.cps.toList.take (i+1)).map (λc=>V.bl (zaG c)):=by
       rw[N3,hc']
       simp
      have ll:((x.cps.toList.take i).map (λc=>V.bl (zaG c))).length<sizeLine:=Nat.lt_of_le_of_lt (by rw[D0,P1];lia) (zp (n:=8) ⋯)
      rw[zxe]
      refine zat (λha=>⟨_,_,rfl,rfl,hl',ll,⟨_,rfl⟩,?_,zhy⟩) (λha=>⟨hl',ll,⟨_,rfl⟩,?_,zhy⟩)
      ·rw[zxl,←tk]
       congr 2
       unfold zaG
       have ha':¬c<97:=by simpa using ha
       by_cases hq:122<c
       ·rw[P0 hq,U0 (show¬c<=122 by lia)];simp
       ·rw[U0 hq,P0 (show c<=122 by lia),P0 (show 97<=c by lia)];rfl
      ·rw[←tk]
       congr 2
       unfold zaG
       have ha':c<97:=by simpa using ha
       rw[U0 (show¬97<=c by lia)];rfl
     ·rintro l ys σ' H' hl ⟨⟨o,rfl⟩,rfl,rfl⟩ hl'
      have tk:(x.cps.toList.take x.length).map (λc=>V.bl (zaG c))=(x.cps.toList.map zaG).map V.bl:=by
       rw[List.take_of_length_le (by simp[Str.length]),List.map_map]
       rfl
      rw[tk] at hl'
      rw[tk]
      refine⟨l,_,rfl,SqL.of hl',_,rfl,?_⟩
      have sm:Same H (upd H l (.lst ((x.cps.toList.map zaG).map V.bl))):=Same.new hl
      have ea:(x.cps.toList.map zaG).all id=x.cps.toList.all zaG:=by rw[List.all_map];rfl
      rw[ea]
      refine zat (λhA=>?_) (λhA=>?_)
      ·refine ⟨_,rfl,Y.a_TAKEN,_,rfl, .inr (Y.t_TAKEN _),rfl,rfl,?_⟩
       have e:zm x=!inV (.str x) (zr2.map V.str):=by
        unfold zm inV
        rw[hA,P0 h1',P0 h8',List.any_map]
        simp only[Bool.true_and]
        congr 2
       have q:=q _ sm
       rw[zdS] at q
       rw[e] at q
       exact q
      ·have e:zm x=false:=by
        unfold zm
        have:x.cps.toList.all zaG=false:=by simpa using hA
        rw[this]
        simp
       have q:=q _ sm
       rw[zdS] at q
       rw[e] at q
       exact q
   ·have e:zm x=false:=by
     have h1':¬(1:Int)<=(x.length:Int):=λz=>h1 (P0 z)
     have:decide (1<=x.length)=false:=U0 ()
     unfold zm
     rw[this]
     simp
    have q:=q H (Same.refl H)
    rw[zdS] at q
    rw[e] at q
    exact⟨_,rfl,q⟩
  |_=>exact q H (Same.refl H)
theorem zgB(Y:Ev K mg):FnOk P w K mg base CX0 3 Y.a_is_plain_cond Y.d_is_plain_cond za8 (zaL zE):=by
 have G_is_worded:FnOk P w K mg base CX0 2 Y.a_is_worded Y.d_is_worded zaP zeD:=zcJ Y
 have G_is_whole:FnOk P w K mg base CX0 2 Y.a_is_whole Y.d_is_whole zbc zk4:=zha Y
 have G_is_name:FnOk P w K mg base CX0 1 Y.a_is_name Y.d_is_name zcS (zaL zaO):=zfR Y
 refine Y.is_plain_cond.fn.okQ zct (λvs H Q E h=>?_) `W3
 ·obtain ⟨v,d,rfl,_⟩:=h;rfl
 ·obtain ⟨v,d,rfl,hd,q⟩:=h
  refine⟨_,(zf (zae (zcd (zbM (zh G_is_worded `U3 Y.is_worded.mg Y.is_worded.kp Y.is_worded.b .nil zk (za (qv 0) (za zg zb))))) (zi (zr zgc)) zO)
   (zf (zcg (qv 0) (zcv 2 rfl (zt (zo 1 zct.nd) (zt (zo 2 zct.nd) zaA))))
   (zf (zae (zK zac (qv 1) zu) (zi (zr (zh G_is_whole `U3 Y.is_whole.mg Y.is_whole.kp Y.is_whole.b .nil zk (za (qv 2) (za zg (za (zaF Y.m_LONGEST_ASKED Y.r_LONGEST_ASKED) zb)))))) zO)
   (zi (zr (zbf (zaY zaW (qv 1) (zaF (v:= .ref Y.a_NAMING) Y.m_NAMING rfl)) (zbv (zh G_is_name `U3 Y.is_name.mg Y.is_name.kp Y.is_name.b .nil zk (za (qv 2) zb))))))))),?_⟩
  refine⟨_,rfl,v,d,2,rfl,⋯,hd,λH1 s1=>⟨_,rfl,?_⟩⟩
  have hd1:=hd.same s1
  cases hw:zL d 2 with
  |false=>
   have q:=q H1 s1
   rw[zmi hw] at q
   exact q
  |true=>
   obtain⟨x,e,rfl⟩:=zlk hw
   obtain⟨p,v0,v1,rfl,hp,r0,r1⟩:=hd1.of2
   cases r0 with
   |str _ hx=>
   refine⟨_,rfl,p,_,rfl, .inl (.inl hp),rfl,_,_,rfl,_,_,rfl,rfl,?_⟩
   refine⟨_,rfl,rfl,_,rfl,zat (λel=>?_) (λel=>?_)⟩
   ·have el':x="long":=by
     have:=O0 el
     exact V.str.inj this
    refine⟨_,rfl,v1,e,0,99,rfl,r1,λH2 s2=>?_⟩
    have q:=q H2 (s1.trans s2)
    rw[zcV] at q
    rw[R0 el'] at q
    exact q
   ·have el':¬x="long":=λz=>el (P0 (by rw[z]))
    refine⟨_,rfl,Y.a_NAMING,_,rfl, .inr (Y.t_NAMING _),rfl,rfl,_,rfl,zat (λen=>?_) (λen=>?_)⟩
    ·refine ⟨_,rfl,v1,e,rfl,r1,λH2 s2=>?_⟩
     have q:=q H2 (s1.trans s2)
     rw[zcV] at q
     rw[N0 el',zjV,en] at q
     exact q
    ·have q:=q H1 s1
     rw[zcV] at q
     rw[N0 el',zjV,tru en] at q
     exact q
theorem znS(Y:Ev K mg):FnOk P w K mg base CX0 4 Y.a_is_cond Y.d_is_cond zfb (zaL zD):=by
 have G_is_worded:FnOk P w K mg base CX0 2 Y.a_is_worded Y.d_is_worded zaP zeD:=zcJ Y
 have G_is_plain_cond:FnOk P w K mg base CX0 3 Y.a_is_plain_cond Y.d_is_plain_cond za8 (zaL zE):=zgB Y
 refine Y.is_cond.fn.okQ zpG (λvs H Q E h=>?_) `W3
 ·obtain ⟨v,d,rfl,_⟩:=h;rfl
 ·obtain ⟨v,d,rfl,hd,q⟩:=h
  refine⟨_,(zf (zae (t_w (zv7 (zbM (zh G_is_worded `U3 Y.is_worded.mg Y.is_worded.kp Y.is_worded.b .nil zk (za (qv 0) (za zg zb)))) (zvi (zK zac (zM zw (qv 0) zg) zu)))) (zi (zr (zh G_is_plain_cond `U3 Y.is_plain_cond.mg Y.is_plain_cond.kp Y.is_plain_cond.b .nil zk (za (zM zw (qv 0) zg) zb)))) zO)
   (zi (zr (zh G_is_plain_cond `U3 Y.is_plain_cond.mg Y.is_plain_cond.kp Y.is_plain_cond.b .nil zk (za (qv 0) zb))))),?_⟩
  refine⟨_,rfl,v,d,2,rfl,⋯,hd,λH1 s1=>⟨_,rfl,?_⟩⟩
  have hd1:=hd.same s1
  cases hw:zL d 2 with
  |false=>
   refine⟨_,rfl,v,d,rfl,hd1,λH2 s2=>?_⟩
   have q:=q H2 (s1.trans s2)
   rw[zul hw] at q
   rw[zmi hw]
   exact q
  |true=>
   obtain⟨x,e,rfl⟩:=zlk hw
   obtain⟨p,v0,v1,rfl,hp,r0,r1⟩:=hd1.of2
   cases r0 with
   |str _ hx=>
   refine⟨_,rfl,p,_,0,_,rfl,rfl, .inl (.inl hp),at0,rfl,_,rfl,zat (λel=>?_) (λel=>?_)⟩
   ·have el':x="not":=V.str.inj (O0 el)
    refine⟨_,rfl,p,_,1,_,rfl,rfl, .inl (.inl hp),at1,v1,e,rfl,r1,λH2 s2=>?_⟩
    have q:=q H2 (s1.trans s2)
    rw[zdW] at q
    rw[R0 el'] at q
    exact q
   ·have el':¬x="not":=λz=>el (P0 (by rw[z]))
    refine⟨_,rfl,_,_,rfl,hd1,λH2 s2=>?_⟩
    have q:=q H2 (s1.trans s2)
    rw[zdW] at q
    rw[N0 el'] at q
    exact q
theorem zf0(Y:Ev K mg):FnOk P w K mg base CX0 5 Y.a_are_conds Y.d_are_conds zb9 (zaL zad):=by
 have G_is_row:FnOk P w K mg base CX0 1 Y.a_is_row Y.d_is_row zbJ zhP:=zcQ Y
 have G_is_cond:FnOk P w K mg base CX0 4 Y.a_is_cond Y.d_is_cond zfb (zaL zD):=znS Y
 refine Y.are_conds.fn.okQ zme (λvs H Q E h=>?_) `W3
 ·obtain ⟨v,d,rfl,_⟩:=h;rfl
 ·obtain ⟨v,d,rfl,hd,q⟩:=h
  refine⟨_,(zi (zr (zbf (zh G_is_row `U3 Y.is_row.mg Y.is_row.kp Y.is_row.b .nil zk (za (qv 0) (za zg (za (zaF Y.m_MOST_CONDS Y.r_MOST_CONDS) zb)))) (zbv (zv (zdT rfl) Y.all zh2 (za (zcp (src:=[none]) zfl rfl rfl (zcX (qv 0)) (λ_ _ _ _ _=>(zo 0 zfl.nd)) (λ_ _ _ _ _=>zdj) (λ_ _ _ _ _=>(zh G_is_cond `U3 Y.is_cond.mg Y.is_cond.kp Y.is_cond.b .nil zk (za (qv 0) zb)))) zb)))))),?_⟩
  refine⟨_,rfl,v,d,0,4,rfl,hd,λH1 s1=>⟨_,rfl,zat (λe=>?_) (λe=>?_)⟩⟩
  ·have hd1:=hd.same s1
   cases d with
   |tup ds=>
    obtain⟨p,vs,rfl,hp,r,b⟩:=hd1.ofT
    have h4:decide (ds.length<=4)=true:=by
     simp[zao] at e
     exact P0 ()
    refine⟨_,rfl,p,rfl,⟨vs, .inl (.inl hp)⟩,?_⟩
    refine zdm (g:=zD) (ok:=λH=>SqT K H p vs) zbk (λH' s=> .inl (.inl (s _ _ hp))) r b rfl (λx d H2 Q1 s2 rx _ q1=>?_) (λl H2 s2 _ hl=>?_)
    ·exact ⟨_,rfl,x,d,rfl,rx,q1⟩
    ·refine ⟨l,_,rfl,SqL.of hl,?_⟩
     have q:=q H2 (s1.trans s2)
     rw[zeO] at q
     rw[h4,←zfU] at q
     exact q
   |_=>cases e
  ·have q:=q H1 s1
   have:zad d=false:=by
    cases d with
    |tup ds=>
     have:decide (ds.length<=4)=false:=by
      simp[zao] at e
      exact U0 ()
     rw[zeO,this];rfl
    |_=>rfl
   rw[this] at q
   exact q
noncomputable def zmr(c:D->Bool)(g:D->Bool):Sp:=λvs H Q _=>∃v d,vs=[v]/\Rep H v d/\c d=true/\∀H',Same H H'->Q (.bl (g d)) H'
theorem zfW{k:Nat}{c g:D->Bool}(Y:Ev K mg)(G_asks_to:FnOk P w K mg base CX0 k Y.a_asks_to Y.d_asks_to zbO (zmr c g))(c' g':D->Bool)
 (hc:∀d,c' d=true->∃x e,d= .tup [.str x,e]) (h1:∀x e,c' (.tup [.str x,e])=true->x="not"->c e=true/\g e=g' (.tup [.str x,e])) (h2:∀x e,c' (.tup [.str x,e])=true->¬x="not"->decide (V.str x=V.str "to")=g' (.tup [.str x,e])):
 FnOk P w K mg base CX0 (k+1) Y.a_asks_to Y.d_asks_to zbO (zmr c' g'):=by
 refine Y.asks_to.fn.okQ zjL (λvs H Q E h=>?_) `W3
 ·obtain ⟨v,d,rfl,_⟩:=h;rfl
 ·obtain ⟨v,d,rfl,hd,hcd,q⟩:=h
  obtain⟨x,e,rfl⟩:=hc d hcd
  obtain⟨p,v0,v1,rfl,hp,r0,r1⟩:=hd.of2
  cases r0 with
  |str _ hx=>
  refine⟨_,(zf (zae (zK zac (zM zw (qv 0) zg) zu) (zi (zr (zh G_asks_to hr Y.asks_to.mg Y.asks_to.kp Y.asks_to.b .nil zk (za (zM zw (qv 0) zg) zb)))) zO)
   (zi (zr (zaY zac (zM zw (qv 0) zg) zu)))),?_⟩
  refine⟨_,rfl,p,_,0,_,rfl,rfl, .inl (.inl hp),at0,rfl,_,rfl,zat (λel=>?_) (λel=>?_)⟩
  ·obtain ⟨ce,ge⟩:=h1 x e hcd (V.str.inj (O0 el))
   refine⟨_,rfl,p,_,1,_,rfl,rfl, .inl (.inl hp),at1,v1,e,rfl,r1,ce,λH' s'=>?_⟩
   rw[ge]
   exact q H' s'
  ·have ge:=h2 x e hcd λz=>el (P0 (by rw[z]))
   refine⟨_,rfl,p,_,0,_,rfl,rfl, .inl (.inl hp),at0,rfl,?_⟩
   rw[ge]
   exact q H (Same.refl H)
theorem zr7(Y:Ev K mg):FnOk P w K mg base CX0 1 Y.a_asks_to Y.d_asks_to zbO (zmr (λ_=>false) (λ_=>false)):=by
 refine Y.asks_to.fn.okQ zjL (λvs H Q E h=>?_) `W3
 ·obtain ⟨v,d,rfl,_,z,_⟩:=h;cases z
 ·obtain ⟨v,d,rfl,_,z,_⟩:=h;cases z
theorem znM(Y:Ev K mg):FnOk P w K mg base CX0 3 Y.a_asks_to Y.d_asks_to zbO (zmr zD zc1):=by
 refine zfW (c:=zE) (g:=zeV) Y ?_ zD zc1 ze6 ?_ ?_
 ·refine zfW Y (zr7 Y) zE zeV zbb ?_ ?_
  ·intro x e h z
   subst z
   exact absurd h (by rw[zdR];exact K1)
  ·intro x e _ _
   rw[zav];rfl
 ·intro x e h z
  subst z
  exact⟨h,rfl⟩
 ·intro x e h z
  rw[zav]
  show _=(if x="not"then zeV e else decide (x="to"))
  rw[N0 z]
theorem zmB(Y:Ev K mg):FnOk P w K mg base CX0 3 Y.a_is_worth Y.d_is_worth zdV (zaL za6):=by
 have G_is_whole:FnOk P w K mg base CX0 2 Y.a_is_whole Y.d_is_whole zbc zk4:=zha Y
 refine Y.is_worth.fn.okQ znp (λvs H Q E h=>?_) `W3
 ·obtain ⟨v,d,rfl,_⟩:=h;rfl
 ·obtain ⟨v,d,rfl,hd,q⟩:=h
  refine⟨_,(zi (zr (zxk (zaY zkY (qv 0) zcj) (zbv (zh G_is_whole `U3 Y.is_whole.mg Y.is_whole.kp Y.is_whole.b .nil zk (za (qv 0) (za (zr1 ziM (zaF Y.m_GREATEST_WORTH Y.r_GREATEST_WORTH)) (za (zaF Y.m_GREATEST_WORTH Y.r_GREATEST_WORTH) zb)))))))),?_⟩
  refine⟨_,rfl,rfl,_,rfl,zat (λe=>?_) (λe=>?_)⟩
  ·have e':v= .non:=O0 e
   subst e'
   cases hd
   exact q H (Same.refl H)
  ·have e':¬v= .non:=λz=>e (P0 z)
   refine⟨_,rfl,_,rfl,v,d,-999,999,rfl,hd,λH' s'=>?_⟩
   have q:=q H' s'
   cases hd<;>first|exact absurd rfl e'|exact q
theorem zkB(Y:Ev K mg):FnOk P w K mg base CX0 6 Y.a_is_liking Y.d_is_liking zdn (zaL zC):=by
 have G_is_row:FnOk P w K mg base CX0 1 Y.a_is_row Y.d_is_row zbJ zhP:=zcQ Y
 have G_are_conds:FnOk P w K mg base CX0 5 Y.a_are_conds Y.d_are_conds zb9 (zaL zad):=zf0 Y
 have G_is_worth:FnOk P w K mg base CX0 3 Y.a_is_worth Y.d_is_worth zdV (zaL za6):=zmB Y
 have G_asks_to:FnOk P w K mg base CX0 3 Y.a_asks_to Y.d_asks_to zbO (zmr zD zc1):=znM Y
 refine Y.is_liking.fn.okQ zlY (λvs H Q E h=>?_) `W3
 ·obtain ⟨v,d,rfl,_⟩:=h;rfl
 ·obtain ⟨v,d,rfl,hd,q⟩:=h
  refine⟨_,(zf (zae (t_w (zmd (zcd (zbM (zh G_is_row `U3 Y.is_row.mg Y.is_row.kp Y.is_row.b .nil zk (za (qv 0) (za zg (za zg zb)))))) (zhd (zcd (zbM (zh G_are_conds `U3 Y.are_conds.mg Y.are_conds.kp Y.are_conds.b .nil zk (za (zM zw (qv 0) zg) zb))))))) (zi (zr zgc)) zO)
   (zi (zr (zbf (zh G_is_worth `U3 Y.is_worth.mg Y.is_worth.kp Y.is_worth.b .nil zk (za (zM zw (qv 0) zg) zb)) (zbv (zma (zv (zpX rfl) Y.any zvI (za (zcp (src:=[none]) zfm rfl rfl (zcX (zM zw (qv 0) zg)) (λ_ _ _ _ _=>(zo 0 zfm.nd)) (λ_ _ _ _ _=>zdj) (λ_ _ _ _ _=>(zh G_asks_to `U3 Y.asks_to.mg Y.asks_to.kp Y.asks_to.b .nil zk (za (qv 0) zb)))) zb)))))))),?_⟩
  refine⟨_,rfl,v,d,2,2,rfl,hd,λH1 s1=>⟨_,rfl,?_⟩⟩
  have hd1:=hd.same s1
  cases hw:zao d 2 2 with
  |false=>
   have q:=q H1 s1
   rw[zpJ hw] at q
   exact q
  |true=>
   obtain⟨c,e,rfl⟩:=zvp hw
   obtain⟨p,v0,v1,rfl,hp,r0,r1⟩:=hd1.of2
   refine⟨_,rfl,p,_,0,_,rfl,rfl, .inl (.inl hp),at0,v0,c,rfl,r0,λH2 s2=>⟨_,rfl,?_⟩⟩
   cases hcs:zad c with
   |false=>
    have q:=q H2 (s1.trans s2)
    rw[zdP] at q
    rw[hcs] at q
    exact q
   |true=>
    refine⟨_,rfl,p,_,1,_,rfl,rfl, .inl (.inl (s2 _ _ hp)),at1,v1,e,rfl,r1.same s2,λH3 s3=>⟨_,rfl,zat (λe1=>?_) (λe1=>?_)⟩⟩
    ·cases c with
     |tup ds=>
      have r03:=(r0.same s2).same s3
      obtain⟨pc,vs,rfl,hpc,rc,bc⟩:=r03.ofT
      have hall:∀d∈ds,zD d=true:=by
       rw[zeO] at hcs
       rw[X0,N2] at hcs
       exact hcs.2
      refine⟨_,rfl,p,_,0,_,rfl,rfl, .inl (.inl (s3 _ _ (s2 _ _ hp))),at0,pc,rfl,⟨vs, .inl (.inl hpc)⟩,?_⟩
      refine zdm (g:=zc1) (ok:=λH=>SqT K H pc vs) zbk (λH' s=> .inl (.inl (s _ _ hpc))) rc bc rfl (λx d H4 Q1 s4 rx hdm q1=>?_) (λl H4 s4 _ hl=>?_)
      ·exact ⟨_,rfl,x,d,rfl,rx,hall d hdm,q1⟩
      ·refine ⟨l,_,rfl,SqL.of hl,_,rfl,?_⟩
       have q:=q H4 (((s1.trans s2).trans s3).trans s4)
       rw[zdP] at q
       rw[hcs,e1] at q
       have ea:zd3 (.tup ds)=(ds.map zc1).any id:=by
        show ds.any zc1=_
        rw[List.any_map];rfl
       rw[ea] at q
       exact q
     |_=>cases hcs
    ·have q:=q H3 ((s1.trans s2).trans s3)
     rw[zdP] at q
     rw[hcs,tru e1] at q
     exact q
theorem zpy(Y:Ev K mg):FnOk P w K mg base CX0 3 Y.a_is_act Y.d_is_act zgi (zaL za1):=by
 have G_is_worded:FnOk P w K mg base CX0 2 Y.a_is_worded Y.d_is_worded zaP zeD:=zcJ Y
 have G_is_name:FnOk P w K mg base CX0 1 Y.a_is_name Y.d_is_name zcS (zaL zaO):=zfR Y
 refine Y.is_act.fn.okQ zq7 (λvs H Q E h=>?_) `W3
 ·obtain ⟨v,d,rfl,_⟩:=h;rfl
 ·obtain ⟨v,d,rfl,hd,q⟩:=h
  refine⟨_,(zf (zae (zbM (zh G_is_worded `U3 Y.is_worded.mg Y.is_worded.kp Y.is_worded.b .nil zk (za (qv 0) (za zg zb)))) (zi (zr (zaY zac (zM zw (qv 0) zg) zu))) zO)
   (zi (zr (zbf (zh G_is_worded `U3 Y.is_worded.mg Y.is_worded.kp Y.is_worded.b .nil zk (za (qv 0) (za zg zb))) (zbf (zaY zaW (zM zw (qv 0) zg) (zn (za zu (za zu zb)))) (zbv (zh G_is_name `U3 Y.is_name.mg Y.is_name.kp Y.is_name.b .nil zk (za (zM zw (qv 0) zg) zb)))))))),?_⟩
  refine⟨_,rfl,v,d,1,rfl,⋯,hd,λH1 s1=>⟨_,rfl,?_⟩⟩
  have hd1:=hd.same s1
  cases hw:zL d 1 with
  |true=>
   obtain⟨x,rfl⟩:=zt7 hw
   obtain⟨p,v0,rfl,hp,r0⟩:=hd1.of1
   cases r0 with
   |str _ hx=>
   refine⟨_,rfl,p,_,0,_,rfl,rfl, .inl (.inl hp),at0,rfl,?_⟩
   have q:=q H1 s1
   have e:za1 (.tup [.str x])=decide (V.str x=V.str "keep"):=by rw[zav];rfl
   rw[e] at q
   exact q
  |false=>
   refine⟨_,rfl,v,d,2,rfl,⋯,hd1,λH2 s2=>⟨_,rfl,zat (λew=>?_) (λew=>?_)⟩⟩
   ·obtain ⟨x,e,rfl⟩:=zlk ew
    obtain⟨p,v0,v1,rfl,hp,r0,r1⟩:=(hd1.same s2).of2
    cases r0 with
    |str _ hx=>
    refine⟨_,rfl,p,_,0,_,rfl,rfl, .inl (.inl hp),at0,⋯,λpt hpt=>⟨pt,_,rfl, .inr (.inl (.inl zc)),rfl,rfl,_,rfl,?_⟩⟩
    have es:(if false=true then !inV (V.str x) [V.str "put",V.str "strike"] else inV (V.str x) [V.str "put",V.str "strike"])=(decide (x="put")||decide (x="strike")):=zu2
    rw[es]
    have s3:Same H2 (upd H2 pt (.tup [V.str "put",V.str "strike"])):=Same.new hpt
    refine zat (λe1=>?_) (λe1=>?_)
    ·refine ⟨_,rfl,p,_,1,_,rfl,rfl, .inl (.inl (s3 _ _ hp)),at1,v1,e,rfl,r1.same s3,λH4 s4=>?_⟩
     have q:=q H4 (((s1.trans s2).trans s3).trans s4)
     rw[zmS] at q
     rw[e1] at q
     exact q
    ·have q:=q _ ((s1.trans s2).trans s3)
     rw[zmS] at q
     rw[tru e1] at q
     exact q
   ·have q:=q H2 (s1.trans s2)
    rw[zv0 hw (tru ew)] at q
    exact q
theorem znK(Y:Ev K mg):FnOk P w K mg base CX0 6 Y.a_is_hand Y.d_is_hand zfa (zaL zal):=by
 have G_is_row:FnOk P w K mg base CX0 1 Y.a_is_row Y.d_is_row zbJ zhP:=zcQ Y
 have G_are_conds:FnOk P w K mg base CX0 5 Y.a_are_conds Y.d_are_conds zb9 (zaL zad):=zf0 Y
 have G_is_act:FnOk P w K mg base CX0 3 Y.a_is_act Y.d_is_act zgi (zaL za1):=zpy Y
 refine Y.is_hand.fn.okQ zqf (λvs H Q E h=>?_) `W3
 ·obtain ⟨v,d,rfl,_⟩:=h;rfl
 ·obtain ⟨v,d,rfl,hd,q⟩:=h
  refine⟨_,(zi (zr (zbf (zh G_is_row `U3 Y.is_row.mg Y.is_row.kp Y.is_row.b .nil zk (za (qv 0) (za zg (za zg zb)))) (zbf (zh G_are_conds `U3 Y.are_conds.mg Y.are_conds.kp Y.are_conds.b .nil zk (za (zM zw (qv 0) zg) zb)) (zbv (zh G_is_act `U3 Y.is_act.mg Y.is_act.kp Y.is_act.b .nil zk (za (zM zw (qv 0) zg) zb))))))),?_⟩
  refine⟨_,rfl,v,d,2,2,rfl,hd,λH1 s1=>⟨_,rfl,zat (λhw=>?_) (λhw=>?_)⟩⟩
  ·obtain ⟨c,e,rfl⟩:=zvp hw
   obtain⟨p,v0,v1,rfl,hp,r0,r1⟩:=(hd.same s1).of2
   refine⟨_,rfl,p,_,0,_,rfl,rfl, .inl (.inl hp),at0,v0,c,rfl,r0,λH2 s2=>⟨_,rfl,zat (λe1=>?_) (λe1=>?_)⟩⟩
   ·refine ⟨_,rfl,p,_,1,_,rfl,rfl, .inl (.inl (s2 _ _ hp)),at1,v1,e,rfl,r1.same s2,λH3 s3=>?_⟩
    have q:=q H3 ((s1.trans s2).trans s3)
    rw[zkx] at q
    rw[e1] at q
    exact q
   ·have q:=q H2 (s1.trans s2)
    rw[zkx] at q
    rw[tru e1] at q
    exact q
  ·have q:=q H1 s1
   rw[ztK (tru hw)] at q
   exact q
def HsA(H:Hp)(v:V)(hs:List Str):Prop:=∃p,v= .ref p/\H p=some (.tup (hs.map V.str))/\hs.length<=10/\∀x∈hs,zm x=true
noncomputable def zo0:Sp:=λvs H Q _=>∃u v d hs,vs=[u,v]/\HsA H u hs/\Rep H v d/\∀H',Same H H'->Q (.bl (zR hs d)) H'
theorem zmm(Y:Ev K mg):FnOk P w K mg base CX0 2 Y.a_is_house Y.d_is_house zeo zo0:=by
 have G_is_name:FnOk P w K mg base CX0 1 Y.a_is_name Y.d_is_name zcS (zaL zaO):=zfR Y
 refine Y.is_house.fn.okQ znP (λvs H Q E h=>?_) `W3
 ·obtain ⟨u,v,d,hs,rfl,_⟩:=h;rfl
 ·obtain ⟨u,v,d,hs,rfl,⟨p,rfl,hp,hl,hn⟩,hd,q⟩:=h
  refine⟨_,(zi (zr (zbf (zh G_is_name `U3 Y.is_name.mg Y.is_name.kp Y.is_name.b .nil zk (za (qv 1) zb)) (zbv (zaY zaW (qv 1) (qv 0)))))),?_⟩
  refine⟨_,rfl,v,d,rfl,hd,λH1 s1=>⟨_,rfl,zat (λe=>?_) (λe=>?_)⟩⟩
  ·cases d with
   |str x=>
    cases hd
    refine⟨_,rfl,_,rfl,p,_,rfl, .inr (.inl (.inl (s1 _ _ hp))),rfl,zbV,?_⟩
    have q:=q H1 s1
    have ea:zR hs (.str x)=inV (.str x) (hs.map V.str):=by
     show(zm x&&hs.any λy=>decide (y=x))=_
     rw[zed,show zm x=true from e];rfl
    rw[ea] at q
    exact q
   |_=>cases e
  ·have q:=q H1 s1
   have ea:zR hs d=false:=by
    show(zaO d&&inD hs d)=false
    rw[tru e];rfl
   rw[ea] at q
   exact q
theorem zhM(Y:Ev K mg):FnOk P w K mg base CX0 7 Y.a_are_likings Y.d_are_likings zb1 (zaL zN):=by
 have G_is_row:FnOk P w K mg base CX0 1 Y.a_is_row Y.d_is_row zbJ zhP:=zcQ Y
 have G_is_liking:FnOk P w K mg base CX0 6 Y.a_is_liking Y.d_is_liking zdn (zaL zC):=zkB Y
 refine Y.are_likings.fn.okQ zjl (λvs H Q E h=>?_) `W3
 ·obtain ⟨v,d,rfl,_⟩:=h;rfl
 ·obtain ⟨v,d,rfl,hd,q⟩:=h
  refine⟨_,(zi (zr (zbf (zh G_is_row `U3 Y.is_row.mg Y.is_row.kp Y.is_row.b .nil zk (za (qv 0) (za zg (za (zaF Y.m_MOST_RULES Y.r_MOST_RULES) zb)))) (zbv (zv (zdT rfl) Y.all zh2 (za (zcp (src:=[none]) zes rfl rfl (zcX (qv 0)) (λ_ _ _ _ _=>(zo 0 zes.nd)) (λ_ _ _ _ _=>zdj) (λ_ _ _ _ _=>(zh G_is_liking `U3 Y.is_liking.mg Y.is_liking.kp Y.is_liking.b .nil zk (za (qv 0) zb)))) zb)))))),?_⟩
  refine⟨_,rfl,v,d,0,90,rfl,hd,λH1 s1=>⟨_,rfl,zat (λe=>?_) (λe=>?_)⟩⟩
  ·have hd1:=hd.same s1
   cases d with
   |tup ds=>
    obtain⟨p,vs,rfl,hp,r,b⟩:=hd1.ofT
    have h90:decide (ds.length<=90)=true:=by
     simp[zao] at e
     exact P0 ()
    refine⟨_,rfl,p,rfl,⟨vs, .inl (.inl hp)⟩,?_⟩
    refine zdm (g:=zC) (ok:=λH=>SqT K H p vs) zbk (λH' s=> .inl (.inl (s _ _ hp))) r b rfl (λx d H2 Q1 s2 rx _ q1=>⟨_,rfl,x,d,rfl,rx,q1⟩) (λl H2 s2 _ hl=>?_)
    refine⟨l,_,rfl,SqL.of hl,?_⟩
    rw[zfU]
    have q:=q H2 (s1.trans s2)
    have et:zN (.tup ds)=ds.all zC:=by
     show(decide (ds.length<=90)&&ds.all zC)=_
     rw[h90];rfl
    rw[et] at q
    exact q
   |_=>cases e
  ·have q:=q H1 s1
   have et:zN d=false:=by
    cases d with
    |tup ds=>
     have h90:decide (ds.length<=90)=false:=by
      simp[zao] at e
      exact U0 ()
     show(decide (ds.length<=90)&&ds.all zC)=_
     rw[h90];rfl
    |_=>rfl
   rw[et] at q
   exact q
theorem zkS(Y:Ev K mg):FnOk P w K mg base CX0 7 Y.a_are_hands Y.d_are_hands zdr (zaL z7):=by
 have G_is_row:FnOk P w K mg base CX0 1 Y.a_is_row Y.d_is_row zbJ zhP:=zcQ Y
 have G_is_hand:FnOk P w K mg base CX0 6 Y.a_is_hand Y.d_is_hand zfa (zaL zal):=znK Y
 refine Y.are_hands.fn.okQ zms (λvs H Q E h=>?_) `W3
 ·obtain ⟨v,d,rfl,_⟩:=h;rfl
 ·obtain ⟨v,d,rfl,hd,q⟩:=h
  refine⟨_,(zi (zr (zbf (zh G_is_row `U3 Y.is_row.mg Y.is_row.kp Y.is_row.b .nil zk (za (qv 0) (za zg (za (zaF Y.m_MOST_RULES Y.r_MOST_RULES) zb)))) (zbv (zv (zdT rfl) Y.all zh2 (za (zcp (src:=[none]) zfp rfl rfl (zcX (qv 0)) (λ_ _ _ _ _=>(zo 0 zfp.nd)) (λ_ _ _ _ _=>zdj) (λ_ _ _ _ _=>(zh G_is_hand `U3 Y.is_hand.mg Y.is_hand.kp Y.is_hand.b .nil zk (za (qv 0) zb)))) zb)))))),?_⟩
  refine⟨_,rfl,v,d,0,90,rfl,hd,λH1 s1=>⟨_,rfl,zat (λe=>?_) (λe=>?_)⟩⟩
  ·have hd1:=hd.same s1
   cases d with
   |tup ds=>
    obtain⟨p,vs,rfl,hp,r,b⟩:=hd1.ofT
    have h90:decide (ds.length<=90)=true:=by
     simp[zao] at e
     exact P0 ()
    refine⟨_,rfl,p,rfl,⟨vs, .inl (.inl hp)⟩,?_⟩
    refine zdm (g:=zal) (ok:=λH=>SqT K H p vs) zbk (λH' s=> .inl (.inl (s _ _ hp))) r b rfl (λx d H2 Q1 s2 rx _ q1=>⟨_,rfl,x,d,rfl,rx,q1⟩) (λl H2 s2 _ hl=>?_)
    refine⟨l,_,rfl,SqL.of hl,?_⟩
    rw[zfU]
    have q:=q H2 (s1.trans s2)
    have et:z7 (.tup ds)=ds.all zal:=by
     show(decide (ds.length<=90)&&ds.all zal)=_
     rw[h90];rfl
    rw[et] at q
    exact q
   |_=>cases e
  ·have q:=q H1 s1
   have et:z7 d=false:=by
    cases d with
    |tup ds=>
     have h90:decide (ds.length<=90)=false:=by
      simp[zao] at e
      exact U0 ()
     show(decide (ds.length<=90)&&ds.all zal)=_
     rw[h90];rfl
    |_=>rfl
   rw[et] at q
   exact q
noncomputable def zlc(hs:List Str)(ps:List (Str×Str))(w x:Str):D->Bool
 | .str y=>zR hs (.str y)&&!decide (y=x)&&(if w="tie"then !decide (y∈zbo ps x)else decide (w="untie")&&decide (y∈zbo ps x))
 |_=>false
noncomputable def zdL(hs:List Str)(ps:List (Str×Str))(w x:Str)(b:D):Bool:=
 if w="like"then zN b else if w="hand"then z7 b else zlc hs ps w x b
noncomputable def zax(hs:List Str)(ps:List (Str×Str)):D->Bool
 | .tup [.str w, .str x,b]=>zR hs (.str x)&&zdL hs ps w x b
 |_=>false
theorem zuj(h:zL d 3=true):∃x e f,d= .tup [.str x,e,f]:=by
 unfold zL at h
 rw[X0] at h
 cases d with
 |tup ds=>
  have hl:ds.length=3:=by
   have h:=h.1
   simp[zao] at h
   lia
  match ds,hl,h with
  |[a,b,c],_,h=>
   cases a with
   |str x=>exact ⟨x,b,c,rfl⟩
   |_=>exact absurd h.2 (by simp[zbI])
 |_=>exact absurd h.1 (by simp[zao])
theorem zs4(h:zL d 3=false):zax hs ps d=false:=by
 unfold zax
 split
 ·rename_i w x b
  exact absurd h (by simp[zL,zao,zbI])
 ·rfl
theorem zjZ(h:zR hs d=true):∃x,d= .str x/\x∈hs/\zm x=true:=by
 have h:(zaO d&&inD hs d)=true:=h
 rw[X0] at h
 cases d with
 |str x=>
  obtain⟨y,hy,e⟩:=List.any_eq_true.mp (show hs.any (λy=>decide (y=x))=true from h.2)
  exact⟨x,rfl,(O0 e)▸hy,h.1⟩
 |_=>exact absurd h.1 (by simp[zaO])
theorem ztN{w:Str}{a b:D}(h:zR hs a=false):zax hs ps (.tup [.str w,a,b])=false:=by
 cases a with
 |str x=>show (zR hs (.str x)&&_)=false;rw[h];rfl
 |_=>rfl
theorem zk2{e f:D}(h:Rep H v (.tup [d,e,f])):∃p x y z,v= .ref p/\H p=some (.tup [x,y,z])/\Rep H x d/\Rep H y e/\Rep H z f:=by
 obtain⟨p,vs,rfl,hp,r,_⟩:=h.ofT
 match vs,r.1 with
 |[x,y,z],_=>exact ⟨p,x,y,z,rfl,hp,r.2 0 _ _ rfl rfl,r.2 1 _ _ rfl rfl,r.2 2 _ _ rfl rfl⟩
noncomputable def znH:Sp:=λvs H Q _=>∃(v u:V) (d:D) (g:Str) (hs:List Str) (ps:List (Str×Str)) (lks hds:List D),vs=[v,u]/\Rep H v (zag g hs ps lks hds)/\TownOk g hs ps lks hds/\Rep H u d/\∀H',Same H H'->Q (.bl (zax hs ps d)) H'
theorem zil(Y:Ev K mg):FnOk P w K mg base CX0 8 Y.a_is_deed Y.d_is_deed zdG znH:=by
 have G_is_worded:FnOk P w K mg base CX0 2 Y.a_is_worded Y.d_is_worded zaP zeD:=zcJ Y
 have G_is_house:FnOk P w K mg base CX0 2 Y.a_is_house Y.d_is_house zeo zo0:=zmm Y
 have G_are_likings:FnOk P w K mg base CX0 7 Y.a_are_likings Y.d_are_likings zb1 (zaL zN):=zhM Y
 have G_are_hands:FnOk P w K mg base CX0 7 Y.a_are_hands Y.d_are_hands zdr (zaL z7):=zkS Y
 have G_tied:FnOk P w K mg base CX0 1 Y.a_tied Y.d_tied zgS zlf:=zlm Y
 refine Y.is_deed.fn.okQ zfe (λvs H Q E h=>?_) `W3
 ·obtain ⟨v,u,d,g,hs,ps,lks,hds,rfl,_⟩:=h;rfl
 ·obtain ⟨v,u,d,g,hs,ps,lks,hds,rfl,hv,T,hd,q⟩:=h
  obtain⟨p,pr,pt,pl,pa,vt,vl,va,rfl,hp,hpr,_⟩:=zbm hv
  have hA:∀{H'},Same H H'->HsA H' (.ref pr) hs:=λs=>⟨pr,rfl,s _ _ hpr,T.ten,T.names⟩
  refine⟨_,(zf (zae (t_w (zmd (zcd (zbM (zh G_is_worded `U3 Y.is_worded.mg Y.is_worded.kp Y.is_worded.b .nil zk (za (qv 1) (za zg zb))))) (zhd (zcd (zbM (zh G_is_house `U3 Y.is_house.mg Y.is_house.kp Y.is_house.b .nil zk (za (zM zw (qv 0) zg) (za (zM zw (qv 1) zg) zb)))))))) (zi (zr zgc)) zO)
   (zf (zcg (qv 1) (zcv 3 rfl (zt (zo 2 zfe.nd) (zt (zo 3 zfe.nd) (zt (zo 4 zfe.nd) zaA)))))
   (zf (zae (zK zac (qv 2) zu) (zi (zr (zh G_are_likings `U3 Y.are_likings.mg Y.are_likings.kp Y.are_likings.b .nil zk (za (qv 4) zb)))) zO)
   (zf (zae (zK zac (qv 2) zu) (zi (zr (zh G_are_hands `U3 Y.are_hands.mg Y.are_hands.kp Y.are_hands.b .nil zk (za (qv 4) zb)))) zO)
   (zf (zae (t_w (zmd (zcd (zbM (zh G_is_house `U3 Y.is_house.mg Y.is_house.kp Y.is_house.b .nil zk (za (zM zw (qv 0) zg) (za (qv 4) zb))))) (zhd (zK zac (qv 4) (qv 3))))) (zi (zr zgc)) zO)
   (zf (zae (zK zac (qv 2) zu) (zi (zr (zaY zgk (qv 4) (zh G_tied `U3 Y.tied.mg Y.tied.kp Y.tied.b .nil zk (za (qv 0) (za (qv 3) zb)))))) zO)
   (zi (zr (zbf (zaY zac (qv 2) zu) (zbv (zaY zaW (qv 4) (zh G_tied `U3 Y.tied.mg Y.tied.kp Y.tied.b .nil zk (za (qv 0) (za (qv 3) zb)))))))))))))),?_⟩
  refine⟨_,rfl,u,d,3,rfl,⋯,hd,λH1 s1=>⟨_,rfl,?_⟩⟩
  have hd1:=hd.same s1
  cases hw:zL d 3 with
  |false=>
   have q:=q H1 s1
   rw[zs4 hw] at q
   exact q
  |true=>
   obtain⟨wd,a,b,rfl⟩:=zuj hw
   obtain⟨pd,v0,v1,v2,rfl,hpd,r0,r1,r2⟩:=zk2 hd1
   cases r0 with|str _ lw=>
   refine⟨_,rfl,p,_,1,_,rfl,rfl, .inl (.inl (s1 _ _ hp)),at1,_,rfl,pd,_,1,_,rfl,rfl, .inl (.inl hpd),at1, .ref pr,v1,a,hs,rfl,hA s1,r1,λH2 s2=>⟨_,rfl,?_⟩⟩
   cases ha:zR hs a with
   |false=>
    have q:=q H2 (s1.trans s2)
    rw[ztN ha] at q
    exact q
   |true=>
    obtain⟨x,rfl,hx,nx⟩:=zjZ ha
    cases r1 with|str _ lx=>
    refine⟨_,rfl,pd,_,rfl, .inl (.inl (s2 _ _ hpd)),rfl,_,_,rfl,_,_,rfl,_,_,rfl,rfl,?_⟩
    have s12:=s1.trans s2
    have ee:zax hs ps (.tup [.str wd, .str x,b])=zdL hs ps wd x b:=by show(zR hs (.str x)&&_)=_;rw[ha];rfl
    rw[ee] at q
    unfold zdL at q
    refine⟨_,rfl,rfl,_,rfl,?_⟩
    rw[zav]
    refine zat (λe1=>?_) (λe1=>?_)
    ·rw[R0 (O0 e1)] at q
     exact⟨_,rfl,v2,b,rfl,r2.same s2,λH3 s3=>q H3 (s12.trans s3)⟩
    rw[N0 (of_decide_eq_false (tru e1))] at q
    refine⟨_,rfl,rfl,_,rfl,?_⟩
    rw[zav]
    refine zat (λe2=>?_) (λe2=>?_)
    ·rw[R0 (O0 e2)] at q
     exact⟨_,rfl,v2,b,rfl,r2.same s2,λH3 s3=>q H3 (s12.trans s3)⟩
    rw[N0 (of_decide_eq_false (tru e2))] at q
    refine⟨_,rfl,p,_,1,_,rfl,rfl, .inl (.inl (s12 _ _ hp)),at1,_,rfl, .ref pr,v2,b,hs,rfl,hA s12,r2.same s2,λH3 s3=>⟨_,rfl,?_⟩⟩
    have s13:=s12.trans s3
    cases hb:zR hs b with
    |false=>
     have q:=q H3 s13
     have e0:zlc hs ps wd x b=false:=by
      cases b with
      |str y=>show (zR hs (.str y)&&_&&_)=false;rw[hb];rfl
      |_=>rfl
     rw[e0] at q
     exact q
    |true=>
     obtain⟨y,rfl,hy,ny⟩:=zjZ hb
     cases r2 with|str _ ly=>
     have q:∀H',Same H H'->Q (.bl (!decide (y=x)&&(if wd="tie"then !decide (y∈zbo ps x)else decide (wd="untie")&&decide (y∈zbo ps x)))) H':=λH' s'=>by
      have q:=q H' s'
      have e:zlc hs ps wd x (.str y)=(!decide (y=x)&&(if wd="tie"then !decide (y∈zbo ps x)else decide (wd="untie")&&decide (y∈zbo ps x))):=by
       show(zR hs (.str y)&&_&&_)=_
       rw[hb,Bool.true_and]
      rw[e] at q
      exact q
     refine⟨_,rfl,_,rfl,rfl,_,rfl,?_⟩
     rw[zav]
     cases c3:decide (y=x)with
     |true=>
      have q:=q H3 s13
      rw[c3] at q
      exact q
     |false=>
      have q:∀H',Same H H'->Q (.bl (if wd="tie"then !decide (y∈zbo ps x)else decide (wd="untie")&&decide (y∈zbo ps x))) H':=λH' s'=>by
       have q:=q H' s'
       rw[c3] at q
       exact q
      refine⟨_,rfl,rfl,_,rfl,?_⟩
      rw[zav]
      refine zat (λe4=>?_) (λe4=>?_)
      ·rw[R0 (O0 e4)] at q
       refine⟨_,rfl,_,rfl,_,rfl, .ref p,x,g,hs,ps,lks,hds,rfl,hv.same s13,T,λl ts H4 hl hl4 pt st s4=>?_⟩
       have q:=q H4 (s13.trans s4)
       have em:decide (y∈zbo ps x)=inV (.str y) (ts.map V.str):=by
        rw[zed]
        refine(B3.mpr ?_)
        rw[J2,List.any_eq_true,←pt.mem_iff]
        exact⟨λz=>⟨y,z,`Z3⟩,λ⟨z,hz,e⟩=>(O0 e)▸hz⟩
       rw[em] at q
       exact⟨l,_,rfl, .inl (SqL.of hl4),rfl,zbV,q⟩
      ·rw[N0 (of_decide_eq_false (tru e4))] at q
       refine⟨_,rfl,rfl,_,rfl,?_⟩
       rw[zav]
       cases e5:decide (wd="untie")with
       |false=>
        have q:=q H3 s13
        rw[e5] at q
        exact q
       |true=>
        refine⟨_,rfl,_,rfl,_,rfl, .ref p,x,g,hs,ps,lks,hds,rfl,hv.same s13,T,λl ts H4 hl hl4 pt st s4=>?_⟩
        have q:=q H4 (s13.trans s4)
        have em:decide (y∈zbo ps x)=inV (.str y) (ts.map V.str):=by
         rw[zed]
         refine(B3.mpr ?_)
         rw[J2,List.any_eq_true,←pt.mem_iff]
         exact⟨λz=>⟨y,z,`Z3⟩,λ⟨z,hz,e⟩=>(O0 e)▸hz⟩
        rw[e5,Bool.true_and,em] at q
        exact⟨l,_,rfl, .inl (SqL.of hl4),rfl,zbV,q⟩
noncomputable def zgy:Sp:=λvs H Q _=>∃(pd:Addr) (w x:Str) (v2:V),vs=[.ref pd]/\H pd=some (.tup [.str w, .str x,v2])/\(w="like"\/w="hand")/\∀l H',H l=none->H' l=some (.lst [.str x])->Same H H'->Q (.ref l) H'
theorem ziR(Y:Ev K mg):FnOk P w K mg base CX0 1 Y.a_houses_named Y.d_houses_named zaS zgy:=by
 refine Y.houses_named.fn.okQ zi4 (λvs H Q E h=>?_) `W3
 ·obtain ⟨pd,w,x,v2,rfl,_⟩:=h;rfl
 ·obtain ⟨pd,w,x,v2,rfl,hpd,hw,q⟩:=h
  refine⟨_,(zi (zr (zvb (zK zaW (zM zw (qv 0) zg) (zn (za zu (za zu zb)))) (zv zcG Y.sorted zcU (za (zqd zhJ (qv 0) (zgX zg) zgw) zb)) (zaR (za (zM zw (qv 0) zg) zb))))),?_⟩
  refine⟨_,rfl,pd,_,0,_,rfl,rfl, .inl (.inl hpd),at0,few rfl,λpt hpt=>⟨pt,_,rfl, .inr (.inl (.inl zc)),rfl,rfl,_,rfl,?_⟩⟩
  have S1:=Same.new (o:= .tup [.str "tie", .str "untie"]) hpt
  refine za3 (by rcases hw with rfl|rfl<;>rfl) ?_
  refine⟨_,rfl,pd,_,1,_,rfl,rfl, .inl (.inl (S1 _ _ hpd)),at1,few rfl,λl hl=>?_⟩
  exact q l _ (zbK S1 hl) zc (S1.trans (Same.new hl))
noncomputable def zoe:Sp:=λvs H Q _=>∃(v r u:V) (x:Str) (ds:List D) (d:D) (j:Nat) (g:Str) (hs:List Str) (ps:List (Str×Str)) (lks hds:List D),vs=[v,r, .str x,u]/\Rep H v (zag g hs ps lks hds)/\TownOk g hs ps lks hds/\hs[j]?=some x/\Rep H r (.tup ds)/\ds.length=hs.length/\Rep H u d/\∀r' H',Rep H' r' (.tup (putAt ds j d))->Same H H'->Q r' H'
theorem zr3(Y:Ev K mg):FnOk P w K mg base CX0 1 Y.a_put_for Y.d_put_for zfc zoe:=by
 refine Y.put_for.fn.okQ zj4 (λvs H Q E h=>?_) `W3
 ·obtain ⟨v,r,u,x,ds,d,j,g,hs,ps,lks,hds,rfl,_⟩:=h;rfl
 ·obtain ⟨v,r,u,x,ds,d,j,g,hs,ps,lks,hds,rfl,hv,T,hj,rr,ld,ru,q⟩:=h
  obtain⟨p,pr,pt,pl,pa,vt,vl,va,rfl,hp,hpr,_⟩:=zbm hv
  have T10:=T.ten
  refine⟨_,(zf (zx 4 zj4.nd (zgO F.plainAttrs_tuple F.slot_tuple_index F.type_tuple_index ze7 (zM zw (qv 0) zg) (za (qv 2) zb)))
   (zi (zr (zF zd7 (zF zd7 (zqd zhJ (qv 1) zgw (zgX (qv 4))) (zn (za (qv 3) zb))) (zqd zhJ (qv 1) (zgX (zF zap (qv 4) zg)) zgw))))),?_⟩
  refine⟨_,rfl,p,_,1,_,rfl,rfl, .inl (.inl hp),at1,?_⟩
  refine⟨.inr (.inr (.inr (.inr ⟨rfl,_,hpr⟩))),_,rfl,pr,hs,x,j,rfl,rfl, .inl (.inl hpr),hj,zgb T.hs_nd hj,?_⟩
  refine zwO (d:= .tup (putAt ds j d)) (zmt (zmt (zqh rfl rr rfl) (zbW (zB (zdy rfl ru) zaJ) (J1 rfl)) (by rw[P1,List.length_singleton];lia)) (znZ rfl rr rfl) (by rw[b0,P1,List.length_singleton,List.length_drop];lia)) λv' H' s' r'=>q v' H' r' s'
noncomputable def zi3:Sp:=λvs H Q _=>∃(v u:V) (w x:Str) (b:D) (j:Nat) (g:Str) (hs:List Str) (ps:List (Str×Str)) (lks hds:List D),vs=[v,u]/\Rep H v (zag g hs ps lks hds)/\TownOk g hs ps lks hds/\hs[j]?=some x/\Rep H u (.tup [.str w, .str x,b])/\(w="like"\/w="hand")/\∀v' H',Rep H' v' (zag g hs ps (if w="like"then putAt lks j b else lks) (if w="like"then hds else putAt hds j b))->Same H H'->Q v' H'
theorem zlF{p pr pt pl pa:Addr}(h:H p=some (.tup [.str g, .ref pr, .ref pt, .ref pl, .ref pa]))(lg:g.length<=1000)(a:Rep H (.ref pr) (.tup (hs.map D.str)))(b:Rep H (.ref pt) (.tup (ps.map pairD)))(c:Rep H (.ref pl) (.tup lks))(d:Rep H (.ref pa) (.tup hds)):Rep H (.ref p) (zag g hs ps lks hds):=
 .mkL h (J1 rfl) (.cons (.str _ lg) (.cons a (.cons b (.cons c (.cons d .nil)))))
theorem zlI(Y:Ev K mg):FnOk P w K mg base CX0 2 Y.a_town_behind Y.d_town_behind zb6 zi3:=by
 have G_houses_named:FnOk P w K mg base CX0 1 Y.a_houses_named Y.d_houses_named zaS zgy:=ziR Y
 have G_put_for:FnOk P w K mg base CX0 1 Y.a_put_for Y.d_put_for zfc zoe:=zr3 Y
 refine Y.town_behind.fn.okQ zG (λvs H Q E h=>?_) `W3
 ·obtain ⟨v,u,w,x,b,j,g,hs,ps,lks,hds,rfl,_⟩:=h;rfl
 ·obtain ⟨v,u,w,x,b,j,g,hs,ps,lks,hds,rfl,hv,T,hj,hu,hw,q⟩:=h
  obtain⟨p,pr,pt,pl,pa,vt,vl,va,rfl,hp,hpr,hpt,rt,hpl,rl,hpa,ra⟩:=zbm hv
  obtain⟨pd,v0,v1,v2,rfl,hpd,r0,r1,r2⟩:=zk2 hu
  cases r0 with|str _ lw=>
  cases r1 with|str _ lx=>
  have T10:=T.ten
  have TP:=T.lp
  have rl1:Rep H (.ref pl) (.tup lks):= .mkL hpl (by rw[T.ll];lia) rl
  have ra1:Rep H (.ref pa) (.tup hds):= .mkL hpa (by rw[T.lh];lia) ra
  have rh1:Rep H (.ref pr) (.tup (hs.map D.str)):= .mkL hpr (by rw[D0];lia) (zlK λx hx=>zX (T.names x hx))
  have rt1:Rep H (.ref pt) (.tup (ps.map pairD)):= .mkL hpt (by rw[D0];lia) rt
  have lg:g.length<=1000:=zX (T.names g T.goal)
  refine⟨_,(zf (zcg (qv 0) (zcv 5 rfl (zt (zo 2 zG.nd) (zt (zo 3 zG.nd) (zt (zo 4 zG.nd) (zt (zo 5 zG.nd) (zt (zo 6 zG.nd) zaA)))))))
   (zf (zcg (qv 1) (zcv 3 rfl (zt (zo 7 zG.nd) (zt (zo 8 zG.nd) (zt (zo 9 zG.nd) zaA)))))
   (zf (zh8 10 zG.nd (zaj zS Y.tuple zaK (za (zh G_houses_named `U3 Y.houses_named.mg Y.houses_named.kp Y.houses_named.b .nil zk (za (qv 1) zb)) zb)))
   (zf (zae (zK zac (qv 7) zu) (zi (zx 4 zG.nd (zaj zS Y.tuple zaK (za (zv zcG Y.sorted zcU (za (zF zd7 (qv 4) (zn (za (qc 10) zb))) zb)) zb)))) (zi (zae (zK zac (qv 7) zu) (zi (zx 4 zG.nd (zaj zS Y.tuple zaK (za (zcp (src:=[none,some 10]) zep rfl rfl (zcX (qv 4)) (λ_ _ _ _ _=>(zo 0 zep.nd)) (λ_ _ _ _ _=>(zob (zK zou (qv 0) (qc 1)))) (λ_ _ _ _ _=>(qv 0))) zb)))) (zi (zae (zK zac (qv 7) zu) (zi (zx 5 zG.nd (zh G_put_for `U3 Y.put_for.mg Y.put_for.kp Y.put_for.b .nil zk (za (qv 0) (za (qv 5) (za (qv 8) (za (qv 9) zb))))))) (zi (zx 6 zG.nd (zh G_put_for `U3 Y.put_for.mg Y.put_for.kp Y.put_for.b .nil zk (za (qv 0) (za (qv 6) (za (qv 8) (za (qv 9) zb))))))))))))
   (zi (zr (zn (za (qv 2) (za (qv 3) (za (qv 4) (za (qv 5) (za (qv 6) zb)))))))))))),?_⟩
  refine⟨_,rfl,p,_,rfl, .inl (.inl hp),rfl,_,_,rfl,_,_,rfl,_,_,rfl,_,_,rfl,_,_,rfl,rfl,?_⟩
  refine⟨_,rfl,pd,_,rfl, .inl (.inl hpd),rfl,_,_,rfl,_,_,rfl,_,_,rfl,rfl,?_⟩
  refine⟨_,rfl,pd,w,x,v2,rfl,hpd,hw,λl H1 hl e1 s1=>?_⟩
  refine⟨l,_,rfl, .inl ⟨SqL.of e1,λpp hpp=>?_⟩⟩
  have S2:=s1.trans (Same.new (o:= .tup [.str x]) hpp)
  generalize upd H1 pp (.tup [V.str x])=H2 at *
  rcases hw with rfl|rfl
  ·refine ⟨_,rfl,rfl,_,rfl,za3 rfl ?_⟩
   refine⟨_,rfl,rfl,_,rfl,za3 rfl ?_⟩
   refine⟨_,rfl,rfl,_,rfl,zcl rfl ?_⟩
   refine⟨_,rfl,_,rfl,_,rfl,_,rfl, .ref p, .ref pl,v2,x,lks,b,j,g,hs,ps,lks,hds,rfl,hv.same S2,T,hj,rl1.same S2,T.ll,r2.same S2,λr' H3 r3 s3=>?_⟩
   have r4:=r3
   obtain⟨pl',_,rfl,_⟩:=r4.ofT
   refine⟨_,rfl,_,rfl,_,rfl,_,rfl,_,rfl,few rfl,λq1 hq1=>?_⟩
   have S4:=Same.new (o:= .tup [V.str g,V.ref pr,V.ref pt,V.ref pl',V.ref pa]) hq1
   have S5:=(S2.trans s3).trans S4
   exact q _ _ (zlF zc lg (rh1.same S5) (rt1.same S5) (r3.same S4) (ra1.same S5)) S5
  ·refine ⟨_,rfl,rfl,_,rfl,za3 rfl ?_⟩
   refine⟨_,rfl,rfl,_,rfl,za3 rfl ?_⟩
   refine⟨_,rfl,rfl,_,rfl,za3 rfl ?_⟩
   refine⟨_,rfl,_,rfl,_,rfl,_,rfl, .ref p, .ref pa,v2,x,hds,b,j,g,hs,ps,lks,hds,rfl,hv.same S2,T,hj,ra1.same S2,T.lh,r2.same S2,λr' H3 r3 s3=>?_⟩
   have r4:=r3
   obtain⟨pl',_,rfl,_⟩:=r4.ofT
   refine⟨_,rfl,_,rfl,_,rfl,_,rfl,_,rfl,few rfl,λq1 hq1=>?_⟩
   have S4:=Same.new (o:= .tup [V.str g,V.ref pr,V.ref pt,V.ref pl,V.ref pl']) hq1
   have S5:=(S2.trans s3).trans S4
   exact q _ _ (zlF zc lg (rh1.same S5) (rt1.same S5) (rl1.same S5) (r3.same S4)) S5
noncomputable def zlC(C:Addr):Sp:=λvs H Q _=>∃(p dx hd td ga:Addr) (v v':V) (nm:Str) (n:Int),vs=[.ref p,v']/\H p=some (.ins C dx (zcb v nm hd td ga n))/\Q .non (upd H p (.ins C dx (zcb v' nm hd td ga n)))
theorem zpz(Y:Ev K mg):FnOk P w K mg base CX0 1 Y.a_House_move_to Y.d_House_move_to za9 (zlC Y.c_House):=by
 refine Y.House_move_to.fn.okQ zhm (λvs H Q E h=>?_) `W3
 ·obtain ⟨p,dx,hd,td,ga,v,v',nm,n,rfl,_⟩:=h;rfl
 ·obtain ⟨p,dx,hd,td,ga,v,v',nm,n,rfl,hp,q⟩:=h
  refine⟨_,(zi (zeq (qv 0) (qv 1))),?_⟩
  exact⟨_,rfl,_,rfl,p,_,dx,_,rfl,hp,Y.k_House,Y.n_House_place,(by decide:6<1000),q⟩
noncomputable def ziw(C CR NL:Addr):Sp:=λvs H _ E=>∃(g:Str) (hs:List Str) (ps:List (Str×Str)) (lks hds:List D) (rp dr d wl:Addr) (v0:V) (As:List HA) (st:Str->S3) (us:List V) (R:RdL) (v:V) (dd:D),vs=[.ref rp,v]/\RnAt C CR hs H rp dr d wl v0 As st us R/\Rep H v0 (zag g hs ps lks hds)/\TownOk g hs ps lks hds/\Rep H v dd/\zax hs ps dd=false/\∀H',Same H H'->E (.ref NL) none H'
theorem zna(Y:Ev K mg):FnOk P w K mg base (CXe P w) 9 Y.a_Run_change Y.d_Run_change zaX (ziw Y.c_House Y.c_Run Y.X_NoDeed):=by
 refine Y.Run_change.fn.okX zbr (λvs H Q E h=>?_) (λcdv A outer s H vs Q E hr h z=>?_)
 ·obtain ⟨g,hs,ps,lks,hds,rp,dr,d,wl,v0,As,st,us,R,v,dd,rfl,_⟩:=h;rfl
 ·obtain ⟨g,hs,ps,lks,hds,rp,dr,d,wl,v0,As,st,us,R,v,dd,rfl,A0,hv,T,hd,hb,q⟩:=h
  have G_is_deed:FnOk P w K mg base CX0 8 Y.a_is_deed Y.d_is_deed zdG znH:=zil Y
  refine⟨_,(zf (zae (zcd (zbM (zh G_is_deed `U3 Y.is_deed.mg Y.is_deed.kp Y.is_deed.b .nil zk (za (zT (qv 0)) (za (qv 1) zb))))) (zi (ztW z Y.m_NoDeed Y.e_NoDeed F.excBase_ValueError)) zO) (zf zdg (zf zdg (zf zdg (zf zdg (zi zdg)))))),?_⟩
  refine⟨_,rfl,rp,_,dr,_,_,rfl,A0.hr,Y.k_Run,Y.n_Run_place,zeN,_,rfl,v0,v,dd,g,hs,ps,lks,hds,rfl,hv,T,hd,λH1 s1=>⟨_,rfl,?_⟩⟩
  rw[hb]
  exact q H1 s1
def ChO(g:Str)(hs:List Str)(st:Str->S3):Prop:=∀y∈hs,(y=g->(st y).1=some ([y],[]))/\∃L0:List Lt,∀z,zft L0 z=zay (st y).2.2 z
noncomputable def lkO(w:Str)(lks:List D)(j:Nat)(b:D):List D:=if w="like"then putAt lks j b else lks
noncomputable def hdO(w:Str)(hds:List D)(j:Nat)(b:D):List D:=if w="like"then hds else putAt hds j b
theorem zuV{As:List HA}{y:V}(h:((ppl As).map (·.2))[i]?=some y):∃a,As[i]?=some a/\y= .ref a.p:=by
 unfold ppl at h
 rw[List.map_map,V0] at h
 cases e:As[i]? with
 |none=>rw[e] at h;cases h
 |some a=>rw[e] at h;cases h;exact⟨a,rfl,rfl⟩
noncomputable def zi2(C CR:Addr):Sp:=λvs H Q _=>∃(g:Str) (hs:List Str) (ps:List (Str×Str)) (lks hds:List D) (rp dr d wl:Addr) (v:V) (As:List HA) (st:Str->S3) (us:List V) (R:RdL) (u:V) (w x:Str) (b:D) (j:Nat),vs=[.ref rp,u]/\RnAt C CR hs H rp dr d wl v As st us R/\Rep H v (zag g hs ps lks hds)/\TownOk g hs ps lks hds/\Rep H u (.tup [.str w, .str x,b])/\(w="like"\/w="hand")/\zdL hs ps w x b=true/\hs[j]?=some x/\TownOk g hs ps (lkO w lks j b) (hdO w hds j b)/\HfO (hdO w hds j b)/\ChO g hs st/\R.length<=900/\
 ∀(v':V) (st':Str->S3) (us':List V) (R':RdL) (H':Hp),RnAt C CR hs H' rp dr d wl v' As st' us' R'->Rep H' v' (zag g hs ps (lkO w lks j b) (hdO w hds j b))->ChO g hs st'->R'.length<=R.length+10->(∀c xs,H c=some (.tup xs)->H' c=some (.tup xs))->Q .non H'
theorem zmb(Y:Ev K mg):FnOk P w K mg base CX0 9 Y.a_Run_change Y.d_Run_change zaX (zi2 Y.c_House Y.c_Run):=by
 have G_is_deed:FnOk P w K mg base CX0 8 Y.a_is_deed Y.d_is_deed zdG znH:=zil Y
 have G_town_behind:FnOk P w K mg base CX0 2 Y.a_town_behind Y.d_town_behind zb6 zi3:=zlI Y
 have G_houses_named:FnOk P w K mg base CX0 1 Y.a_houses_named Y.d_houses_named zaS zgy:=ziR Y
 have G_House_move_to:FnOk P w K mg base CX0 1 Y.a_House_move_to Y.d_House_move_to za9 (zlC Y.c_House):=zpz Y
 have G_House_choose:FnOk P w K mg base CX0 8 Y.a_House_choose Y.d_House_choose zaQ (zfx Y.c_House):=zg8 Y
 refine Y.Run_change.fn.okQ zbr (λvs H Q E h=>?_) `W3
 ·obtain ⟨g,hs,ps,lks,hds,rp,dr,d,wl,v,As,st,us,R,u,w,x,b,j,rfl,_⟩:=h;rfl
 ·obtain ⟨g,hs,ps,lks,hds,rp,dr,d,wl,v,As,st,us,R,u,w,x,b,j,rfl,A0,hv,T,hu,hw,hb,hj,T',hf',co,l9,q⟩:=h
  have hx:x∈hs:=Z0 hj
  have T10:=T.ten
  have la:As.length=hs.length:=by rw[←A0.ns,D0]
  have edd:zax hs ps (.tup [.str w, .str x,b])=true:=by
   show(zR hs (.str x)&&zdL hs ps w x b)=true
   rw[hb,zqP hx (T.names x hx)];rfl
  refine⟨_,(zf (zae (zcd (zbM (zh G_is_deed `U3 Y.is_deed.mg Y.is_deed.kp Y.is_deed.b .nil zk (za (zT (qv 0)) (za (qv 1) zb))))) (zi zdg) zO)
   (zf (zeq (qv 0) (zh G_town_behind `U3 Y.town_behind.mg Y.town_behind.kp Y.town_behind.b .nil zk (za (zT (qv 0)) (za (qv 1) zb))))
   (zf (zcZ O3 rfl (zq5 (zT (qv 0))) (zo 2 zbr.nd) (zi (zaZ (zcq (qv 2) Y.k_House Y.House_move_to.m G_House_move_to `U3 Y.House_move_to.b .nil zk (za (zT (qv 0)) zb)))))
   (zf (zx 3 zbr.nd (zkT (zh G_houses_named `U3 Y.houses_named.mg Y.houses_named.kp Y.houses_named.b .nil zk (za (qv 1) zb))))
   (zf (zae (zK zac (zM zw (qv 1) zg) zu) (zi zdg) zO)
   (zi (zcZ O3 rfl (zkw (qv 3)) (zo 4 zbr.nd) (zi (zaZ (zgO F.plainAttrs_list F.slot_list_extend F.type_list_extend zgE (zT (qv 0)) (za (zaH (zlh (hu1 hr) (zT (qv 0)) (qv 4)) Y.k_House Y.House_choose.m G_House_choose `U3 Y.House_choose.b .nil zk) zb))))))))))),?_⟩
  refine⟨_,rfl,rp,_,dr,_,_,rfl,A0.hr,Y.k_Run,Y.n_Run_place,zeN,_,rfl,v,u,_,g,hs,ps,lks,hds,rfl,hv,T,hu,λH1 s1=>⟨_,rfl,?_⟩⟩
  rw[edd]
  refine za3 rfl ?_
  have A1:=A0.same s1
  refine⟨_,rfl,rp,_,dr,_,_,rfl,A1.hr,Y.k_Run,Y.n_Run_place,zeN,_,rfl,v,u,w,x,b,j,g,hs,ps,lks,hds,rfl,hv.same s1,T,hj,hu.same s1,hw,λv' H2 hv2 s2=>?_⟩
  have s12:=s1.trans s2
  have A2:=A1.same s2
  have hu2:=hu.same s12
  clear A1
  refine⟨_,rfl,rp,_,dr,_,rfl,A2.hr,Y.k_Run,Y.n_Run_place,(by decide:3<1000),?_⟩
  have k3:Keep rp H2 (upd H2 rp (.ins Y.c_Run dr (zas "place" v' (zex v d wl)))):=Keep.upd _ _ _
  have r3:upd H2 rp (.ins Y.c_Run dr (zas "place" v' (zex v d wl))) rp=some (.ins Y.c_Run dr (zex v' d wl)):=zc
  generalize upd H2 rp (.ins Y.c_Run dr (zas "place" v' (zex v d wl)))=H3 at *
  have nr:∀{c o},H2 c=some o->(∀C dx fs,o≠ .ins C dx fs)->c≠rp:=λ{c o} e h=>zy e A2.hr (h _ _ _)
  have nra:rp∉zdf As:=λz=>by
   obtain⟨a,ha,hc⟩:=List.mem_flatMap.mp z
   obtain⟨ga,n,kh,kt,B⟩:=A2.ha a ha
   simp only[adr,D1,O2,or_false] at hc
   rcases hc with e|e|e
   ·have:=A2.hr;rw[e,B.hp] at this;exact zqB (U1 this)
   ·have:=A2.hr;rw[e,B.hh] at this;cases this
   ·have:=A2.hr;rw[e,B.ht] at this;cases this
  have m3:∀c xs,H2 c=some (.tup xs)->H3 c=some (.tup xs):=λc xs e=>k3 _ _ (nr e λ_ _ _ z=>nomatch z) e
  have d3:=k3 _ _ (nr A2.hd λ_ _ _ z=>nomatch z) A2.hd
  have w3:=k3 _ _ (nr A2.hw λ_ _ _ z=>nomatch z) A2.hw
  have ha3:HsAll Y.c_House hs H3 v As st:=A2.ha.hold m3 λc hc o e=>k3 c o (λz=>nra (by rw[←z];exact hc)) e
  have hv3:=zY hv2 T' m3
  obtain⟨pd,v0,vx,v2,rfl,hpd,r0,r1,_⟩:=zk2 hu2
  cases r0 with|str _ lw=>
  cases r1 with|str _ lx=>
  have hpd3:=m3 _ _ hpd
  refine⟨_,rfl,rp,_,dr,_,_,rfl,r3,Y.k_Run,Y.n_Run_people,zbN,d,ppl As,rfl,d3,λob nd=>?_⟩
  have npd:∀a∈As,a.p≠d:=λa ha z=>(U2.mp A2.sep).1 (List.mem_flatMap.mpr ⟨a,ha,by rw[←z];simp[adr]⟩)
  refine zbe zuC (λi σ' H'=>(∃o2 o3 o4,σ'=[some (.ref rp),some (.ref pd),o2,o3,o4])/\H' d=some (.frz ob (.dK (ppl As)))/\H' rp=some (.ins Y.c_Run dr (zex v' d wl))/\H' wl=some (.lst us)/\(∀k a,As[k]?=some a->HsE Y.c_House hs H' (if k<i then v' else v) a (st a.nm))/\∀c xs,H3 c=some (.tup xs)->H' c=some (.tup xs)) ?_ ?_ ?_ ?_
  ·have kd:∀c o,c≠d->H3 c=some o->upd H3 d (.frz ob (.dK (ppl As))) c=some o:=λc o n e=>by rw[ze n];exact e
   have md:∀c xs,H3 c=some (.tup xs)->upd H3 d (.frz ob (.dK (ppl As))) c=some (.tup xs):=λc xs e=>kd _ _ (zy e d3 (λz=>nomatch z)) e
   have adn:∀a∈As,∀c∈adr a,c≠d:=λa ha c hc z=>(U2.mp A2.sep).1 (List.mem_flatMap.mpr ⟨a,ha,by rw[←z];exact hc⟩)
   refine⟨⟨_,_,_,rfl⟩,zc,kd _ _ (zy r3 d3 (λz=>nomatch z)) r3,kd _ _ (zy w3 d3 (λz=>nomatch z)) w3,λk a ea=>?_,md⟩
   have ham:=Z0 ea
   rw[N0 (Nat.not_lt_zero _)]
   exact(ha3 a ham).hold md λc hc o e=>kd c o (adn a ham c hc) e
  ·exact λi σ' H' z=>z.2.1
  ·rintro i y σ' H4 hi hy ⟨⟨o2,o3,o4,rfl⟩,hz4,r4,w4,ha4,m4⟩
   obtain⟨a,ea,rfl⟩:=zuV hy
   have ham:=Z0 ea
   obtain⟨ga,n,kh,kt,B⟩:=ha4 i a ea
   rw[N0 (Nat.lt_irrefl _)] at B
   have k5:Keep a.p H4 (upd H4 a.p (.ins Y.c_House a.dx (zcb v' a.nm a.hd a.td ga n))):=Keep.upd _ _ _
   have p5:upd H4 a.p (.ins Y.c_House a.dx (zcb v' a.nm a.hd a.td ga n)) a.p=some (.ins Y.c_House a.dx (zcb v' a.nm a.hd a.td ga n)):=zc
   refine⟨_,rfl,a.p,a.dx,_,rfl,B.hp,rfl,_,rfl,rp,_,dr,_,_,rfl,r4,Y.k_Run,Y.n_Run_place,zeN,a.p,a.dx,a.hd,a.td,ga,v,v',a.nm,n,rfl,B.hp,?_⟩
   generalize upd H4 a.p (.ins Y.c_House a.dx (zcb v' a.nm a.hd a.td ga n))=H5 at *
   have m5:∀c xs,H4 c=some (.tup xs)->H5 c=some (.tup xs):=λc xs e=>k5 _ _ (zy e B.hp (λz=>nomatch z)) e
   refine⟨⟨_,_,_,rfl⟩,k5 _ _ (Ne.symm (npd a ham)) hz4,k5 _ _ (λz=>?_) r4,k5 _ _ (zy w4 B.hp (λz=>nomatch z)) w4,λk a' ea'=>?_,λc xs e=>m5 _ _ (m4 _ _ e)⟩
   ·rw[z,B.hp] at r4;exact zqB (U1 r4)
   ·by_cases c:a'=a
    ·subst c
     have ki:k=i:=by
      have z1:(As.map (·.nm))[k]?=some a'.nm:=by rw[V0,ea'];rfl
      have z2:(As.map (·.nm))[i]?=some a'.nm:=by rw[V0,ea];rfl
      exact zbS (by rw[A2.ns];exact T.hs_nd) z1 z2
     subst ki
     rw[R0 (Nat.lt_succ_self _)]
     exact⟨ga,n,kh,kt,p5,k5 _ _ (zy B.hh B.hp (λz=>nomatch z)) B.hh,B.th.mono m5,B.oh,k5 _ _ (zy B.ht B.hp (λz=>nomatch z)) B.ht,B.tt.mono m5,B.ot,B.gr.mono m5,B.go,B.ne⟩
    ·have ham':=Z0 ea'
     have nk:k≠i:=λz=>c (by rw[z,ea] at ea';exact(U1 ea').symm)
     have:=ha4 k a' ea'
     rw[show(if k<i+1 then v' else v)=(if k<i then v' else v) by
      by_cases z:k<i
      ·rw[R0 z,R0 ()]
      ·rw[N0 z,N0 ()]]
     exact this.hold m5 λc' hc o e=>k5 c' o (λz=>zrc (U2.mp A2.sep).2 ham ham' (λz=>c z.symm) (show a.p∈adr a by simp[adr]) (by rw[←z];exact hc)) e
  ·rintro σ' H4 ⟨⟨o2,o3,o4,rfl⟩,hz4,r4,w4,ha4,m4⟩
   rw[show((ppl As).map (·.2)).length=As.length by unfold ppl;simp] at ha4
   refine⟨_,rfl,pd,w,x,v2,rfl,m4 _ _ hpd3,hw,λln H5 hln e5 s5=>?_⟩
   refine⟨d,ob, .dK (ppl As),s5 _ _ hz4,(λo' u' z=>by have z:H d=some (.frz o' u'):=z;rw[A0.hd] at z;cases z),?_⟩
   have nlw:ln≠wl:=λz=>by rw[z,w4] at hln;cases hln
   have nld:ln≠d:=λz=>by rw[z,hz4] at hln;cases hln
   have k6:∀c o,c≠d->H4 c=some o->upd H5 d (.dK (ppl As)) c=some o:=λc o n e=>by rw[ze n];exact s5 _ _ e
   have d6:upd H5 d (.dK (ppl As)) d=some (.dK (ppl As)):=zc
   have e6:upd H5 d (.dK (ppl As)) ln=some (.lst [V.str x]):=by rw[ze nld];exact e5
   generalize upd H5 d (.dK (ppl As))=H6 at *
   have m46:∀c xs,H4 c=some (.tup xs)->H6 c=some (.tup xs):=λc xs e=>k6 _ _ (zy e hz4 (λz=>nomatch z)) e
   have m36:∀c xs,H3 c=some (.tup xs)->H6 c=some (.tup xs):=λc xs e=>m46 _ _ (m4 _ _ e)
   have m06:∀c xs,H c=some (.tup xs)->H6 c=some (.tup xs):=λc xs e=>m36 _ _ (m3 _ _ (s12 _ _ e))
   have adn:∀a∈As,∀c∈adr a,c≠d:=λa ha c hc z=>(U2.mp A2.sep).1 (List.mem_flatMap.mpr ⟨a,ha,by rw[←z];exact hc⟩)
   have A6:RnAt Y.c_House Y.c_Run hs H6 rp dr d wl v' As st us R:=by
    refine⟨k6 _ _ (zy r4 hz4 (λz=>nomatch z)) r4,d6,k6 _ _ (zy w4 hz4 (λz=>nomatch z)) w4,A0.rd.mono m06,λa ha=>?_,A0.ns,A0.sep⟩
    obtain⟨k,hk,ek⟩:=F2 ha
    have:=ha4 k a (by rw[F0 hk,ek])
    rw[R0 hk] at this
    exact this.hold m46 λc hc o e=>k6 c o (adn a ha c hc) e
   refine⟨_,rfl,pd,_,0,_,rfl,rfl, .inl (.inl (m36 _ _ hpd3)),at0,rfl,_,rfl,za3 (by rcases hw with rfl|rfl<;>rfl) ?_⟩
   refine⟨_,rfl,ln,rfl,⟨_,SqL.of e6⟩,?_⟩
   have hv6:=zY hv3 T' m36
   clear ha4 hz4 r4 w4 s5 k6 hln
   refine zbe (zhw (K:=K) (a:=ln) (xs:=[V.str x])) (λi σ' H'=>(∃o2 o4,σ'=[some (.ref rp),some (.ref pd),o2,some (.ref ln),o4])/\H' ln=some (.lst [V.str x])/\(∃st' us' R',RnAt Y.c_House Y.c_Run hs H' rp dr d wl v' As st' us' R'/\ChO g hs st'/\R'.length<=R.length+10*i)/\∀c xs,H6 c=some (.tup xs)->H' c=some (.tup xs)) ?_ ?_ ?_ ?_
   ·exact ⟨⟨_,_,rfl⟩,e6,⟨_,_,_,A6,co,S0 _⟩,λc xs e=>e⟩
   ·exact λi σ' H' z=>SqL.of z.2.1
   ·rintro i y σ' H7 hi hy ⟨⟨o2,o4,rfl⟩,e7,⟨st',us',R',A7,co7,l7⟩,m7⟩
    have i0:i=0:=by have hi:i<1:=hi;lia
    subst i0
    cases hy
    obtain⟨a,ha,en,eva⟩:=zhK A7.ns hx
    obtain⟨ga,n,kh,kt,B⟩:=A7.ha a ha
    rw[en] at B
    obtain⟨cg,L0,cl⟩:=co7 x hx
    have lu:=A7.rd.1
    refine⟨_,rfl,rp,_,dr,_,_,rfl,A7.hr,Y.k_Run,Y.n_Run_waiting,zel, .inl ⟨rfl,_,SqL.of A7.hw⟩,?_⟩
    refine⟨_,rfl,rp,_,dr,_,_,rfl,A7.hr,Y.k_Run,Y.n_Run_people,zbN,_,rfl,d,_,rfl,dgk A7.hd eva,a.p,a.dx,_,rfl,B.hp,rfl,?_⟩
    refine⟨a.p,a.dx,a.hd,a.td,ga,v',x,n,_,kh,kt,_,_,L0,g,hs,ps,lkO w lks j b,hdO w hds j b,rfl,B,cg,cl,zY hv6 T' m7,T',hf',hx,λl ga' us2 n' b' kt' tm' L H8 hl0 hl8 R8 B8 I8 k8 lL eL eT=>?_⟩
    obtain⟨A8,f8⟩:=A7.hear T.hs_nd ha (s':=(b',(st' x).2.1,tm')) ⟨ga',n',kh,kt',by rw[en];exact B8⟩ (λc o n1 _ n3 e=>k8 c o n1 n3 e)
    rw[en] at A8
    have lk:=R8.len
    refine⟨wl,l,us',us2,rfl,rfl,A8.hw,hl8,P2 (zp ()),?_⟩
    have e8:=f8 _ _ (zhH A7.ha e7) e7
    have m8:∀c xs,H7 c=some (.tup xs)->H8 c=some (.tup xs):=λc xs e=>f8 _ _ (zhF A7.ha e) e
    refine⟨⟨_,_,rfl⟩,by rw[ze nlw];exact e8,⟨_,us' ++us2,_,A8.wait (A8.rd.app (RdO.lts R8)),λy hy=>?_,by rw[b0,D0];lia⟩,λc xs e=>?_⟩
    ·unfold zqb
     by_cases c:y=x
     ·subst c
      rw[R0 rfl]
      exact⟨I8.goal,_,I8.last⟩
     ·rw[N0 c];exact co7 y hy
    ·rw[ze (zy (m8 _ _ (m7 _ _ e)) A8.hw (λz=>nomatch z))]
     exact m8 _ _ (m7 _ _ e)
   ·rintro σ' H7 ⟨⟨o2,o4,rfl⟩,e7,⟨st',us',R',A7,co7,l7⟩,m7⟩
    exact q v' st' us' R' H7 A7 (zY hv6 T' m7) co7 l7 λc xs e=>m7 _ _ (m06 _ _ e)
theorem zbC{n:Int}(h:Hand H a n):∃xs,H a=some (.lst xs):=let⟨x,m,t,e,r⟩:=h;⟨_,e⟩
theorem zpp{n:Int}(h:Hand H a n)(k:∀o,H a=some o->H' a=some o):Hand H' a n:=let⟨x,m,t,e,r⟩:=h;⟨x,m,t,k _ e,r⟩
noncomputable def zhA:Sp:=λvs H Q _=>∃(a:Addr) (n:Int) (b:Addr) (xs:List V),vs=[.ref a, .ref b]/\Hand H a n/\n<2^40/\H b=some (.tup xs)/\0<xs.length/\xs.length<1000/\∀v H',v∈xs->Hand H' a (n+1)->Keep a H H'->Q v H'
theorem zlU(Y:Ev K mg):FnOk P w K mg base CX0 2 Y.a__law_pick Y.d__law_pick zU zhA:=by
 have G__law_take:FnOk P w K mg base CX0 1 Y.a__law_take Y.d__law_take z9 zdB:=zcO Y
 refine Y._law_pick.fn.okQ zhh (λvs H Q E h=>?_) `W3
 ·obtain ⟨a,n,b,xs,rfl,_⟩:=h;rfl
 ·obtain ⟨a,n,b,xs,rfl,hH,hn,hb,x0,x1,q⟩:=h
  refine⟨_,(zi (zr (zM zn1 (qv 1) (zh G__law_take `U3 Y._law_take.mg Y._law_take.kp Y._law_take.b .nil zk (za (qv 0) (za (zv z8 Y.len za0 (za (qv 1) zb)) zb)))))),?_⟩
  refine⟨_,rfl,_,rfl,_,rfl, .inl ⟨b,xs,rfl, .inr (.inl (.inl hb)),a,_,n,rfl,hH,hn,(),(),λd H' h0 h1 hH' kp=>?_⟩⟩
  obtain⟨v,e,hv⟩:=zga h0 h1
  have nb:b≠a:=λz=>by obtain⟨_,_,_,e',_⟩:=hH;rw[z,e'] at hb;cases hb
  exact .inr (.inl ⟨b,xs,d,v,rfl,rfl, .inl (.inl (kp _ _ nb hb)),e,q v H' hv hH' kp⟩)
theorem zwW{k:Nat}{ps:List Str}{sp':Sp}(F:FnOk P w K mg base CX k f fd ps sp)(G:FnOk P w K mg base CX k f fd ps sp'):FnOk P w K mg base CX k f fd ps (λvs H Q E=>sp vs H Q E\/sp' vs H Q E):=
 ⟨λvs H Q E h=>h.elim (F.len vs H Q E) (G.len vs H Q E),λA outer s H args us vs Q E hr he hb hv h=>h.elim (F.run A outer s H args us vs Q E hr he hb hv) (G.run A outer s H args us vs Q E hr he hb hv)⟩
theorem zjA:y∈zbo ps x↔x∈zbo ps y:=by
 unfold zbo
 simp only[Q2,X1,Y2,J2]
 constructor
 ·rintro (⟨p,⟨hp,e⟩,rfl⟩|⟨p,⟨hp,e⟩,rfl⟩)
  ·exact .inr ⟨p,⟨hp,rfl⟩,e⟩
  ·exact .inl ⟨p,⟨hp,rfl⟩,e⟩
 ·rintro (⟨p,⟨hp,e⟩,rfl⟩|⟨p,⟨hp,e⟩,rfl⟩)
  ·exact .inr ⟨p,⟨hp,rfl⟩,e⟩
  ·exact .inl ⟨p,⟨hp,rfl⟩,e⟩
noncomputable def zoZ(K:W.Frag):Sp:=λvs H Q _=>∃(a:Addr) (n:Int) (v:V) (g:Str) (hs:List Str) (ps:List (Str×Str)) (lks hds:List D),vs=[.ref a,v]/\Hand H a n/\n<2^37/\Rep H v (zag g hs ps lks hds)/\TownOk g hs ps lks hds/\(∀x∈hs,x≠"nobody")/\∀(u:V) (dd:D) (H':Hp),Rep H' u dd->zax hs ps dd=false->Hand H' a (n+3)->Keep a H H'->Q u H'
section
variable{w:Str}{b:D}
theorem zce(h:zN b=false):zax hs ps (.tup [.str "like", .str x,b])=false:=by
 show(_&&zdL hs ps "like" x b)=false
 unfold zdL;rw[R0 rfl,h,Bool.and_false]
theorem zgl(h:z7 b=false):zax hs ps (.tup [.str "hand", .str x,b])=false:=by
 show(_&&zdL hs ps "hand" x b)=false
 unfold zdL;rw[N0 ⋯,R0 rfl,h,Bool.and_false]
theorem zsk(h:zR hs (.str x)=false):zax hs ps (.tup [.str w, .str x,b])=false:=by
 show(zR hs (.str x)&&_)=false
 rw[h];rfl
theorem zbX(h1:w≠"like")(h2:w≠"hand")(h:zlc hs ps w x b=false):zax hs ps (.tup [.str w, .str x,b])=false:=by
 show(_&&zdL hs ps w x b)=false
 unfold zdL;rw[N0 h1,N0 h2,h,Bool.and_false]
theorem zml:zlc hs ps w x (.str x)=false:=by
 show(_&&!decide (x=x)&&_)=false
 rw[P0 rfl];simp
theorem zvN(h:zR hs (.str y)=false):zlc hs ps w x (.str y)=false:=by
 show(zR hs (.str y)&&_&&_)=false
 rw[h];rfl
theorem zsr(h:y∈zbo ps x):zlc hs ps "tie" x (.str y)=false:=by
 show(_&&(if("tie":Str)="tie"then _ else _))=false
 rw[R0 rfl,P0 h];simp
theorem zoX(h:y∉zbo ps x):zlc hs ps "untie" x (.str y)=false:=by
 show(_&&(if("untie":Str)="tie"then _ else _))=false
 rw[N0 ⋯,U0 h];simp
theorem zsi(h1:w≠"tie")(h2:w≠"untie"):zlc hs ps w x (.str y)=false:=by
 show(_&&(if w="tie"then _ else _))=false
 rw[N0 h1,U0 h2];simp
end
noncomputable abbrev ruD:D:= .tup [.tup [], .int 3]
noncomputable abbrev hoD:D:= .tup [.tup [], .tup [.str "keep"]]
theorem zra{x:D}{g:D->Bool}:(decide ((List.replicate (91:Int).toNat [x]).flatten.length<=90)&&(List.replicate (91:Int).toNat [x]).flatten.all g)=false:=by
 rw[List.flatten_replicate_singleton,List.length_replicate];rfl
theorem zvO{x:D}:z7 (.tup (List.replicate (91:Int).toNat [x]).flatten)=false:=zra (x:=x) (g:=zal)
theorem zvk{x:D}:zN (.tup (List.replicate (91:Int).toNat [x]).flatten)=false:=zra (x:=x) (g:=zC)
theorem zqO{x:D}(hx:Dsp te σ H x):Dsp (tOp (zoF K) (zmQ (zbL te zgP)) (tC (.int 91))) σ H (.tup (List.replicate (91:Int).toNat [x]).flatten):=
 zoz (ds:=[x]) (zbW (zB hx zaJ) (J1 rfl)) `Z3 ⋯ ⋯ (by rw[List.flatten_replicate_singleton,List.length_replicate];decide) (J1 rfl)
theorem zvD:zN (.tup [.tup [.tup [.tup [.str "to", .str y]], .int 3]])=false:=by
 show(decide (1<=90)&&(zC (.tup [.tup [.tup [.str "to", .str y]], .int 3])&&true))=false
 rw[zdP,show zd3 (.tup [.tup [.str "to", .str y]])=true from rfl]
 simp
theorem zuU{k:Int}(h:zsE te σ H ds)(k0:0<=k)(k2:k<2^63)(hl:ds.length*k.toNat<=900):zsE (tOp zu3 te (tC (.int k))) σ H (List.replicate k.toNat ds).flatten:=λH1 Q s q=>
 h H1 _ s λl vs H2 s2 e r=>⟨l,k,vs,rfl,rfl,e,(),k2,P2 (zp (by rw[r.1];lia)),λp hp=>q p _ _ (s2.trans (Same.new hp)) zc ((r.rep _).mono (.new hp))⟩
theorem zo8{g:D->Bool}{es:List D}{m n:Nat}{Q:VK}(hσ:σ[i]?=some (some (.ref l)))(b:BadL g H l m)(h:zsE te σ H es)(he:es.length=n)(hb:∀d∈es,g d=false)(hm:m+n<=900)(q:∀l' H2 vs ds,H l'=none->Same H H2->H2 l'=some (.lst vs)->RepL H2 vs ds->ds.length<=m+n->n<=ds.length->(∀d∈ds,g d=false)->Q (.ref l') H2):tOp zuf (zdQ i) te σ H Q:=by
 obtain⟨vs,ds,e,r,c,bd⟩:=b
 refine⟨_,hσ,h H _ (Same.refl H) λb us H3 s3 e3 r3=>⟨l,b,vs,us,rfl,rfl,s3 _ _ e,e3,P2 (zp (by have:=r.1;have:=r3.1;lia)),λp hp=>?_⟩⟩
 exact q p _ _ (ds ++es) (zbK s3 hp) (s3.trans (Same.new hp)) zc (((r.mono (.of s3)).append r3).mono (.new hp)) (by rw[b0];lia) (by rw[b0];lia) λd hd=>(Q2.mp hd).elim (bd d) (hb d)
theorem zqY(Y:Ev K mg):FnOk P w K mg base CX0 3 Y.a__law_odd Y.d__law_odd zeb (zoZ K):=by
 have G__law_pick:FnOk P w K mg base CX0 2 Y.a__law_pick Y.d__law_pick zU (λvs H Q E=>zbn K vs H Q E\/zhA vs H Q E):=zwW (zcA Y) (zlU Y)
 have G_tied:FnOk P w K mg base CX0 1 Y.a_tied Y.d_tied zgS zlf:=zlm Y
 refine Y._law_odd.fn.okQ zah (λvs H Q E h=>?_) `W3
 ·obtain ⟨a,n,v,g,hs,ps,lks,hds,rfl,_⟩:=h;rfl
 ·obtain ⟨a,n,v,g,hs,ps,lks,hds,rfl,hH,hn,hv,T,hno,q⟩:=h
  obtain⟨p,pr,pt,pl,pa,vt,vl,va,rfl,hp,hpr,_⟩:=zbm hv
  have T1:=T.one
  have T10:=T.ten
  obtain⟨xs0,ea⟩:=zbC hH
  refine⟨_,(zf (zx 2 zah.nd (zh G__law_pick `U3 Y._law_pick.mg Y._law_pick.kp Y._law_pick.b .nil zk (za (qv 0) (za (zM zw (qv 1) zg) zb))))
   (zf (zx 3 zah.nd (zh G__law_pick `U3 Y._law_pick.mg Y._law_pick.kp Y._law_pick.b .nil zk (za (qv 0) (za (zM zw (qv 1) zg) zb))))
   (zf (zx 4 zah.nd (zn (za (zn zb) (za zg zb))))
   (zf (zx 5 zah.nd (zn (za (zn zb) (za (zn (za zu zb)) zb))))
   (zf (zx 6 zah.nd (zaR (za zcj (za zg (za zu (za (zn zb) (za (zn (za zu zb)) (za (zn (za zu (za (qv 2) zb))) (za (zaR (za zu (za (qv 2) (za (qv 3) zb)))) (za (zn (za zu (za (qv 2) (za (qv 3) (za (qv 2) zb))))) (za (zn (za zu (za (qv 2) (za (qv 3) zb)))) (za (zn (za zcj (za (qv 2) (za (qv 3) zb)))) zb))))))))))))
   (zf (zx 6 zah.nd (zF zd0 (qv 6) (zaR (za (zn (za zu (za (qv 2) (za (qv 2) zb)))) (za (zn (za zu (za (qv 2) (za (qv 2) zb)))) (za (zn (za zu (za (qv 2) (za zu zb)))) (za (zn (za zu (za zu (za (qv 2) zb)))) (za (zn (za zu (za (qv 2) (za zcj zb)))) zb))))))))
   (zf (zx 6 zah.nd (zF zd0 (qv 6) (zaR (za (zn (za zu (za (zaR (za (qv 2) zb)) (za (qv 3) zb)))) (za (zn (za zu (za (qv 2) (za (zn (za (qv 3) zb)) zb)))) (za (zn (za zu (za zu (za (zn zb) zb)))) (za (zn (za zu (za (qv 2) (za zcj zb)))) (za (zn (za zu (za (qv 2) (za (zaR zb) zb)))) zb))))))))
   (zf (zx 6 zah.nd (zF zd0 (qv 6) (zaR (za (zn (za zu (za (qv 2) (za (zn (za (qv 4) (za (qv 5) zb))) zb)))) (za (zn (za zu (za (qv 2) (za (zn (za (qv 4) zb)) zb)))) (za (zn (za zu (za (qv 2) (za (zF zhB (zn (za (qv 5) zb)) zg) zb)))) zb))))))
   (zf (zx 6 zah.nd (zF zd0 (qv 6) (zaR (za (zn (za zu (za (qv 2) (za (zF zhB (zn (za (qv 4) zb)) zg) zb)))) (za (zn (za zu (za (qv 2) (za (zn (za (zn (za (zn (za zu (za (qv 3) zb))) zb)) (za zg zb))) zb)))) (za (zn (za zu (za zcj (za (zn zb) zb)))) zb))))))
   (zf (zx 6 zah.nd (zF zd0 (qv 6) (zaR (za (zn (za zu (za (qv 2) (za (zn (za (zn (za (zn (za (zn (za zu (za (qv 3) zb))) zb)) (za zg zb))) zb)) zb)))) (za (zn (za zu (za (qv 2) (za (qv 2) zb)))) zb)))))
   (zf (zx 6 zah.nd (zF zd0 (qv 6) (zaR (za (zn (za zu (za (qv 2) (za (zn (za (zn (za (zn zb) (za zg zb))) zb)) zb)))) (za (zn (za zu (za (qv 2) (za (zn (za (zn (za (zn zb) (za zgc zb))) zb)) zb)))) (za (zn (za zu (za (qv 2) (za (zn (za (zn (za (zn zb) (za (zn (za zu (za zu zb))) zb))) zb)) zb)))) (za zm3 zb)))))))
   (zf (zae (zK zaW (qv 3) (zh G_tied `U3 Y.tied.mg Y.tied.kp Y.tied.b .nil zk (za (qv 1) (za (qv 2) zb)))) (zi (zr (zh G__law_pick `U3 Y._law_pick.mg Y._law_pick.kp Y._law_pick.b .nil zk (za (qv 0) (za (zF zd0 (qv 6) (zF zqT (zaR (za (zn (za zu (za (qv 2) (za (qv 3) zb)))) (za (zn (za zu (za (qv 3) (za (qv 2) zb)))) zb))) zg)) zb))))) zO)
   (zi (zr (zh G__law_pick `U3 Y._law_pick.mg Y._law_pick.kp Y._law_pick.b .nil zk (za (qv 0) (za (zF zd0 (qv 6) (zF zqT (zaR (za (zn (za zu (za (qv 2) (za (qv 3) zb)))) (za (zn (za zu (za (qv 3) (za (qv 2) zb)))) zb))) zg)) zb))))))))))))))))),?_⟩
  refine⟨_,rfl,_,rfl,p,_,1,_,rfl,rfl, .inl (.inl hp),at1, .inr ⟨a,n,pr,_,rfl,hH,(),hpr,by rw[D0];lia,by rw[D0];lia,λvx H1 hx0 hH1 k1=>?_⟩⟩
  obtain⟨x,hx,rfl⟩:=X1.mp hx0
  have t1:∀c xs,H c=some (.tup xs)->H1 c=some (.tup xs):=λc xs e=>k1 c _ (zy e ea (λz=>nomatch z)) e
  refine⟨_,rfl,_,rfl,p,_,1,_,rfl,rfl, .inl (.inl (t1 _ _ hp)),at1, .inr ⟨a,n+1,pr,_,rfl,hH1,(),t1 _ _ hpr,by rw[D0];lia,by rw[D0];lia,λvy H2 hy0 hH2 k2=>?_⟩⟩
  obtain⟨y,hy,rfl⟩:=X1.mp hy0
  obtain⟨xs1,ea1⟩:=zbC hH1
  have t2:∀c xs,H c=some (.tup xs)->H2 c=some (.tup xs):=λc xs e=>k2 c _ (zy (t1 _ _ e) ea1 (λz=>nomatch z)) (t1 _ _ e)
  have hv2:=zY hv T t2
  have k02:=k1.trans k2
  have nx:=T.names x hx
  have ny:=T.names y hy
  have nob:zR hs (.str "nobody")=false:=zpW hno
  have rx2:Rep H2 (.str x) (.str x):= .str x (zX nx)
  have ry2:Rep H2 (.str y) (.str y):= .str y (zX ny)
  clear k1 k2 t1 hH1 hv hp hpr ea ea1 hH
  dsimp only[zbH]
  refine zuB (d:=ruD) `X3 λv3 H3 s3 r3=>?_
  have rx3:=rx2.same s3
  have ry3:=ry2.same s3
  refine zuB (d:=hoD) `X3 λv4 H4 s4 r4=>?_
  have rx4:=rx3.same s4
  have ry4:=ry3.same s4
  have r34:=r3.same s4
  clear rx2 ry2 rx3 ry3 r3
  refine zqC (g:=zax hs ps) [.non, .int 7, .str "tie", .tup [], .tup [.str "tie"], .tup [.str "tie", .str x], .oth, .tup [.str "tie", .str x, .str y, .str x], .tup [.str "Tie", .str x, .str y], .tup [.non, .str x, .str y]] `X3 (by
   (repeat' (first|exact znN|refine List.forall_mem_append.mpr ⟨?_,?_⟩|refine List.forall_mem_cons.mpr ⟨?_,?_⟩))<;>first|rfl|exact zbX ⋯ ⋯ (zsi ⋯ ⋯)) (λl5 H5 s5 _ B5=>?_) (J1 rfl)
  have rx5:=rx4.same s5
  have ry5:=ry4.same s5
  have r35:=r34.same s5
  have r45:=r4.same s5
  clear rx4 ry4 r34 r4
  refine zcR rfl B5 [.tup [.str "tie", .str x, .str x], .tup [.str "untie", .str x, .str x], .tup [.str "tie", .str x, .str "nobody"], .tup [.str "untie", .str "nobody", .str x], .tup [.str "tie", .str x, .non]] `X3 (by
   (repeat' (first|exact znN|refine List.forall_mem_append.mpr ⟨?_,?_⟩|refine List.forall_mem_cons.mpr ⟨?_,?_⟩))
   ·exact zbX ⋯ ⋯ zml
   ·exact zbX ⋯ ⋯ zml
   ·exact zbX ⋯ ⋯ (zvN nob)
   ·exact zsk nob
   ·exact zbX ⋯ ⋯ rfl) (λl6 H6 s6 _ B6=>?_) (J1 rfl)
  have rx6:=rx5.same s6
  have ry6:=ry5.same s6
  have r36:=r35.same s6
  have r46:=r45.same s6
  clear rx5 ry5 r35 r45 B5
  refine zcR rfl B6 [.tup [.str "tie", .oth, .str y], .tup [.str "untie", .str x, .tup [.str y]], .tup [.str "like", .str "nobody", .tup []], .tup [.str "like", .str x, .non], .tup [.str "like", .str x, .oth]] `X3 (by
   (repeat' (first|exact znN|refine List.forall_mem_append.mpr ⟨?_,?_⟩|refine List.forall_mem_cons.mpr ⟨?_,?_⟩))
   ·rfl
   ·exact zbX ⋯ ⋯ rfl
   ·exact zsk nob
   ·exact zce rfl
   ·exact zce rfl) (λl7 H7 s7 _ B7=>?_) (J1 rfl)
  have rx7:=rx6.same s7
  have ry7:=ry6.same s7
  have r37:=r36.same s7
  have r47:=r46.same s7
  clear rx6 ry6 r36 r46 B6
  refine zcR rfl B7 [.tup [.str "like", .str x, .tup [ruD,hoD]], .tup [.str "hand", .str x, .tup [ruD]], .tup [.str "hand", .str x, .tup (List.replicate (91:Int).toNat [hoD]).flatten]] (zB `X3 (zB `X3 (zB (zbW (zB (zej ⋯) (zB `X3 (zB (zqO `X3) zaJ))) (J1 rfl)) zaJ))) (by
   (repeat' (first|exact znN|refine List.forall_mem_append.mpr ⟨?_,?_⟩|refine List.forall_mem_cons.mpr ⟨?_,?_⟩))
   ·exact zce rfl
   ·exact zgl rfl
   ·exact zgl zvO) (λl8 H8 s8 _ B8=>?_) (J1 rfl)
  have rx8:=rx7.same s8
  have ry8:=ry7.same s8
  have r38:=r37.same s8
  have r48:=r47.same s8
  clear rx7 ry7 r37 r47 B7
  refine zcR rfl B8 [.tup [.str "like", .str x, .tup (List.replicate (91:Int).toNat [ruD]).flatten], .tup [.str "like", .str x, .tup [.tup [.tup [.str "to", .str y]], .int 3]], .tup [.str "hand", .non, .tup []]] (zB (zbW (zB (zej ⋯) (zB `X3 (zB (zqO `X3) zaJ))) (J1 rfl)) `X3) (by
   (repeat' (first|exact znN|refine List.forall_mem_append.mpr ⟨?_,?_⟩|refine List.forall_mem_cons.mpr ⟨?_,?_⟩))
   ·exact zce zvk
   ·exact zce rfl
   ·rfl) (λl9 H9 s9 _ B9=>?_) (J1 rfl)
  have rx9:=rx8.same s9
  have ry9:=ry8.same s9
  have r39:=r38.same s9
  have r49:=r48.same s9
  clear rx8 ry8 r38 r48 B8
  refine zcR rfl B9 [.tup [.str "like", .str x, .tup [.tup [.tup [.tup [.str "to", .str y]], .int 3]]], .tup [.str "hand", .str x, .str x]] `X3 (by
   (repeat' (first|exact znN|refine List.forall_mem_append.mpr ⟨?_,?_⟩|refine List.forall_mem_cons.mpr ⟨?_,?_⟩))
   ·exact zce zvD
   ·exact zgl rfl) (λl10 H10 s10 _ B10=>?_) (J1 rfl)
  have rx10:=rx9.same s10
  have ry10:=ry9.same s10
  have r310:=r39.same s10
  have r410:=r49.same s10
  clear rx9 ry9 r39 r49 B9
  refine zcR rfl B10 [.tup [.str "like", .str x, .tup [.tup [.tup [], .int 1000]]], .tup [.str "like", .str x, .tup [.tup [.tup [], .bl true]]], .tup [.str "hand", .str x, .tup [.tup [.tup [], .tup [.str "put", .str "if"]]]], .oth] `X3 (by
   (repeat' (first|exact znN|refine List.forall_mem_append.mpr ⟨?_,?_⟩|refine List.forall_mem_cons.mpr ⟨?_,?_⟩))
   ·exact zce rfl
   ·exact zce rfl
   ·exact zgl rfl
   ·rfl) (λl11 H11 s11 _ B11=>?_) (J1 rfl)
  have rx11:=rx10.same s11
  have ry11:=ry10.same s11
  have r311:=r310.same s11
  have r411:=r410.same s11
  clear rx10 ry10 r310 r410 B10
  replace B11:BadL (zax hs ps) H11 l11 32:=B11
  have s2b:=(s3.trans s4).trans ((s5.trans s6).trans ((s7.trans s8).trans ((s9.trans s10).trans s11)))
  have hvb:=hv2.same s2b
  have hHb:=hH2.same s2b
  have kb:=k02.trans (Keep.of s2b)
  clear s3 s4 s5 s6 s7 s8 s9 s10 s11 s2b r311 r411 hv2 hH2 k02
  have fin:∀(w:Str) (H12:Hp),w.length<=1000->Same H11 H12->zax hs ps (.tup [.str w, .str x, .str y])=false->zax hs ps (.tup [.str w, .str y, .str x])=false->
   zqD (λvs H Q E=>zbn K vs H Q E\/zhA vs H Q E) [] E0 (zbL (zdQ 0) (zbL (tOp zuf (zdQ 6) (tOp zu3 (znG (zbL (zmQ (zbL (tC (V.str w)) (zbL (zdQ 2) (zbL (zdQ 3) zgP)))) (zbL (zmQ (zbL (tC (V.str w)) (zbL (zdQ 3) (zbL (zdQ 2) zgP)))) zgP))) (tC (V.int 6)))) zgP)) [some (.ref a),some (.ref p),some (.str x),some (.str y),some v3,some v4,some (.ref l11)] H12 Q:=by
   intro w H12 lw s12 b1 b2
   have rx:=rx11.same s12
   have ry:=ry11.same s12
   refine⟨_,rfl,zo8 (n:=12) (es:=(List.replicate (6:Int).toNat [D.tup [.str w, .str x, .str y],D.tup [.str w, .str y, .str x]]).flatten) rfl (B11.same s12) (zuU (zls (zB (zbW (zB (zej lw) (zB (zdy rfl rx) (zB (zdy rfl ry) zaJ))) (J1 rfl)) (zB (zbW (zB (zej lw) (zB (zdy rfl ry) (zB (zdy rfl rx) zaJ))) (J1 rfl)) zaJ)) (J1 rfl)) ⋯ ⋯ (J1 rfl)) rfl (λd hd=>?_) ⋯ λlp H13 vs ds hlp s13 e13 r13 n13 p13 b13=>?_⟩
   ·obtain ⟨L,hL,hd⟩:=List.mem_flatten.mp hd
    rw[List.eq_of_mem_replicate hL] at hd
    simp only[D1,O2,or_false] at hd
    rcases hd with rfl|rfl
    ·exact b1
    ·exact b2
   ·have S:=s12.trans s13
    have hH:=hHb.same S
    obtain⟨xs,ea⟩:=zbC (hHb.same s12)
    have nla:lp≠a:=λz=>by rw[z,ea] at hlp;cases hlp
    have lv:=r13.1
    refine .inl ⟨a,n+1+1,hH,(), .inl ⟨lp,vs,rfl,nla,SqL.of e13,(),(),λu H14 hu hH14 k14=>?_⟩⟩
    obtain⟨i,hi,ei⟩:=F2 hu
    obtain⟨d,hd,rd⟩:=r13.get (by rw[F0 hi,ei])
    exact q u d H14 (rd.mono (.keep k14 hH hH14)) (b13 d (Z0 hd)) (hH14.mono ()) ((kb.trans (Keep.of S)).trans k14)
  refine⟨_,rfl,_,rfl,_,rfl, .ref p,x,g,hs,ps,lks,hds,rfl,hvb,T,λlt ts H12 hlt hl12 pt st s12=>?_⟩
  have em:decide (y∈zbo ps x)=inV (.str y) (ts.map V.str):=by
   rw[zed]
   refine(B3.mpr ?_)
   rw[J2,List.any_eq_true,←pt.mem_iff]
   exact⟨λz=>⟨y,z,`Z3⟩,λ⟨z,hz,e⟩=>(O0 e)▸hz⟩
  refine⟨lt,_,rfl, .inl (SqL.of hl12),rfl,zbV,_,rfl,?_⟩
  show(if(inV (.str y) (ts.map V.str))=true then _ else _)
  rw[←em]
  by_cases c:y∈zbo ps x
  ·refine zcl (P0 c) (fin "tie" H12 ⋯ s12 (zbX ⋯ ⋯ (zsr c)) (zbX ⋯ ⋯ (zsr (zjA.mp c))))
  ·refine za3 (U0 c) (fin "untie" H12 ⋯ s12 (zbX ⋯ ⋯ (zoX c)) (zbX ⋯ ⋯ (zoX λz=>c (zjA.mp z))))
inductive TmE(H:Hp):List (Key×V)->List HA->Prop
 |nil:TmE H [] []
 |cons {a:HA} {n:Int} {kvs:List (Key×V)} {As:List HA} (h:∃C dx fs,H a.p=some (.ins C dx fs)/\fs.lookup ("times":Str)=some (.int n)) (t:TmE H kvs As):TmE H ((Sum.inr a.nm, .int n)::kvs) (a::As)
section
variable{As:List HA}
theorem TmE.snoc(h:TmE H kvs As){a:HA}{n:Int}(x:∃C dx fs,H a.p=some (.ins C dx fs)/\fs.lookup ("times":Str)=some (.int n)):TmE H (kvs ++ [(Sum.inr a.nm, .int n)]) (As ++ [a]):=by
 induction h with
 |nil=>exact .cons x .nil
 |cons h t ih=>exact .cons h ih
theorem TmE.none(h:TmE H kvs As){x:Str}(hx:x∉As.map (·.nm)):za4 kvs (Sum.inr x)=none:=by
 induction h with
 |nil=>rfl
 |cons h t ih=>
  rw[E2,D1,not_or] at hx
  rw[zcf (λz=>hx.1 (by injection z with z;exact z.symm))]
  exact ih hx.2
theorem TmE.len(h:TmE H kvs As):kvs.length=As.length:=by
 induction h with
 |nil=>rfl
 |cons h t ih=>rw[L1,L1,ih]
theorem TmE.alk(s:Same H H')(h:TmE H kvs As):∀{kvs'},TmE H' kvs' As->Alk H2 kvs kvs':=by
 induction h with
 |nil=>intro kvs' h';cases h';exact .nil
 |cons h t ih=>
  intro kvs' h'
  cases h' with
  |cons h2 t2=>
   obtain⟨C,dx,fs,e1,e2⟩:=h
   obtain⟨C',dx',fs',e3,e4⟩:=h2
   have e5:=s _ _ e1
   rw[e5] at e3
   cases e3
   rw[e2] at e4
   cases e4
   exact .cons (.int _) (.int _) (by simp[PyData.depth]) (ih t2)
end
noncomputable def zhc(C CR:Addr):Sp:=λvs H Q _=>∃(hs:List Str) (rp dr d wl:Addr) (v:V) (As:List HA) (st:Str->S3) (us:List V) (R:RdL),vs=[.ref rp]/\RnAt C CR hs H rp dr d wl v As st us R/\hs.Nodup/\hs.length<=10/\∀l kvs H',H' l=some (.dK kvs)->TmE H kvs As->Same H H'->Q (.ref l) H'
theorem zkC(Y:Ev K mg):FnOk P w K mg base CX0 1 Y.a_Run_changes Y.d_Run_changes zb3 (zhc Y.c_House Y.c_Run):=by
 refine Y.Run_changes.fn.okQ zjp (λvs H Q E h=>?_) `W3
 ·obtain ⟨hs,rp,dr,d,wl,v,As,st,us,R,rfl,_⟩:=h;rfl
 ·obtain ⟨hs,rp,dr,d,wl,v,As,st,us,R,rfl,A0,nd,l10,q⟩:=h
  refine⟨_,(zi (zr (zkT (zhT (src:=[none,none]) zco rfl rfl (zmf (zT (qv 0))) (λ_ _ _ _ _=>(zir (K:=K) 2 rfl rfl (zt (zo 0 zco.nd) (zt (zo 1 zco.nd) zaA)))) (λ_ _ _ _ _=>zdj) (λ_ _ _ _ _=>(qv 0)) (λ_ _ _ _ _=>(zvT (K:=K) rfl (qv 1))))))),?_⟩
  refine⟨_,rfl,rp,_,dr,_,_,rfl,A0.hr,Y.k_Run,Y.n_Run_people,zbN,d,_,rfl,A0.hd,λo _=>?_⟩
  have la:As.length=hs.length:=by rw[←A0.ns,D0]
  have sd:∀{c ob},H c=some ob->c≠d->upd H d (.frz o (.dK (ppl As))) c=some ob:=λ{c ob} e n=>by rw[ze n];exact e
  refine zh5 (n:=As.length) (λl i ys σ' H'=>(∃o1 o2,σ'=[o1,o2])/\TmE H ys (As.take i)/\H' d=some (.frz o (.dK (ppl As)))/\∀c ob,c≠d->H c=some ob->H' c=some ob) ?_ ?_ ?_ ?_ ?_
  ·intro l hl
   have nl:l≠d:=λz=>by rw[z,zc] at hl;cases hl
   exact⟨⟨_,_,rfl⟩, .nil,by rw[ze (Ne.symm nl)];exact zc,λc ob n e=>by rw[ze (zj (sd e n) hl)];exact sd e n⟩
  ·exact λl i ys σ' H' hl hi z=>⟨by rw[D0];unfold ppl;rw[D0];exact hi,z.2.2.1⟩
  ·exact λl ys σ' H' hl z=>⟨by rw[D0];unfold ppl;rw[D0];exact S0 _,z.2.2.1⟩
  ·rintro l i x ys σ' H1 H2 hl hi ⟨⟨o1,o2,rfl⟩,ch,hd1,k1⟩ hl1 ⟨T,p,hp,rfl,hT,rfl⟩
   have ei:As[i]?=some As[i]:=F0 hi
   have ep:p=(V.str As[i].nm,V.ref As[i].p):=by
    unfold ppl at hp
    rw[List.map_map,V0,ei] at hp
    cases hp;rfl
   subst ep
   have hm:=List.getElem_mem hi
   have ix:∀j b,As[j]?=some b->b.nm=As[i].nm->j=i:=λj b e1 e2=>zbS nd (show hs[j]?=some b.nm by rw[←A0.ns,V0,e1];rfl) (show hs[i]?=some b.nm by rw[←A0.ns,V0,ei,e2];rfl)
   have tk:As.take (i+1)=As.take i ++ [As[i]]:=by rw[N3,ei];rfl
   obtain⟨ga,n,kh,kt,B⟩:=A0.ha _ hm
   generalize As[i]=a at *
   have S:=Same.new (o:= .tup [V.str a.nm,V.ref a.p]) hT
   have kd:∀c ob,c≠d->H c=some ob->upd H1 T (.tup [V.str a.nm,V.ref a.p]) c=some ob:=λc ob n e=>S _ _ (k1 c ob n e)
   have nd1:∀{c ob},H c=some ob->(∀z,ob≠ .dK z)->c≠d:=λ{c ob} e h z=>by rw[z,A0.hd] at e;cases e;exact h _ rfl
   have hp2:=kd _ _ (nd1 B.hp (λz y=>nomatch y)) B.hp
   have hl2:=S _ _ hl1
   have hd2:=S _ _ hd1
   refine⟨T,_,rfl, .inl (.inl zc),rfl,_,_,rfl,_,_,rfl,rfl,?_⟩
   refine⟨_,rfl,_,rfl,a.p,_,a.dx,_,_,rfl,hp2,Y.k_House,Y.n_House_times,ziP,Sum.inr a.nm,rfl,hl2,?_,?_⟩
   ·have:=ch.len
    rw[P1] at this
    exact zp ()
   ·have nx:a.nm∉(As.take i).map (·.nm):=λz=>by
     obtain⟨b,hb,e⟩:=X1.mp z
     obtain⟨j,hj,ej⟩:=F2 hb
     rw[P1] at hj
     rw[List.getElem_take] at ej
     have:=ix j b (by rw[F0 (),ej]) e
     lia
    refine⟨⟨_,_,rfl⟩,?_,?_,λc ob n e=>?_⟩
    ·rw[tk,zf2 _ (ch.none nx)]
     exact ch.snoc ⟨_,_,_,B.hp,ziP⟩
    ·rw[ze λz=>by rw[z,hl2] at hd2;cases hd2]
     exact hd2
    ·have nl:c≠l:=zj (sd e n) hl
     rw[ze nl]
     exact kd c ob n e
  ·rintro l ys σ' H1 hl ⟨_,ch,hd1,k1⟩ hl1
   rw[List.take_length] at ch
   refine⟨d,o,_,hd1,λo' u' z=>?_,q l ys _ ?_ ch λc ob e=>?_⟩
   ·have z:H d=some (.frz o' u'):=z
    rw[A0.hd] at z;cases z
   ·rw[ze λz=>by rw[z,hd1] at hl1;cases hl1];exact hl1
   ·by_cases z:c=d
    ·rw[z,zc,←A0.hd,←z];exact e
    ·rw[ze z];exact k1 c ob z e
noncomputable def ziy(C CR:Addr):Sp:=λvs H Q _=>∃(hs:List Str) (rp dr d wl:Addr) (v:V) (As:List HA) (st:Str->S3) (us:List V) (R:RdL),vs=[.ref rp]/\RnAt C CR hs H rp dr d wl v As st us R/\Q v H
theorem zjQ(Y:Ev K mg):FnOk P w K mg base CX0 1 Y.a_Run_town Y.d_Run_town zcY (ziy Y.c_House Y.c_Run):=by
 refine Y.Run_town.fn.okQ zn4 (λvs H Q E h=>?_) `W3
 ·obtain ⟨hs,rp,dr,d,wl,v,As,st,us,R,rfl,_⟩:=h;rfl
 ·obtain ⟨hs,rp,dr,d,wl,v,As,st,us,R,rfl,A0,q⟩:=h
  refine⟨_,(zi (zr (zT (qv 0)))),?_⟩
  exact⟨_,rfl,rp,_,dr,_,_,rfl,A0.hr,Y.k_Run,Y.n_Run_place,zeN,q⟩
noncomputable def zsR(a c:Str)(r:Hr):PyData:= .tuple [.str a, .str c, .int r.1,zer r.2,zgg r.2]
theorem zvf{x y:V}{b:Option WM}(h:WmAt H x y b)(ok:zfg b):Tr H y (zgg b):=by
 match b,h,ok with
 |none,⟨_,e,h1,h2⟩,_=>rw[h1];exact .tup h2 rfl λi v d e1=>by cases e1
 |some (w,ms),⟨pw,pm,h1,h2,h3,h4⟩,ok=>
  rw[h2]
  refine .tup h4 (by unfold zI;rw[D0,D0]) λi v d e1 e2=>?_
  unfold zI at e2
  rw[V0] at e1 e2
  cases e3:ms[i]? with
  |none=>rw[e3] at e1;cases e1
  |some x=>rw[e3] at e1 e2;cases e1;cases e2;exact .str x (zbd (ok.2 x (Z0 e3)))
theorem LtO.tr{a c:Str}{r:Hr}(h:LtO H v a c r)(ha:zm a=true)(hc:zm c=true)(ok:zfg r.2):Tr H v (zsR a c r):=by
 obtain⟨t,x,y,rfl,ht,wa⟩:=h
 refine .tup ht rfl λi v d e1 e2=>?_
 match i with
 |0=>cases e1;cases e2;exact .str a (zbd ha)
 |1=>cases e1;cases e2;exact .str c (zbd hc)
 |2=>cases e1;cases e2;exact .int _
 |3=>cases e1;cases e2;exact zq9 wa ok
 |4=>cases e1;cases e2;exact zvf wa ok
 |i+5=>cases e1
noncomputable def zv1(R:RdL):PyData:= .list (R.map λe=>zsR e.1 e.2.1 e.2.2)
theorem RdO.tr(N:Tn g hs ps lks hds O){R:RdL}(h:RdO H us R)(e:H l=some (.lst us))(r:RdR hs O R):Tr H (.ref l) (zv1 R):=by
 refine .lst e (by rw[D0];exact h.1) λi v d e1 e2=>?_
 obtain⟨p,ep,hp⟩:=h.of e1
 rw[V0,ep] at e2
 cases e2
 obtain⟨o1,o2,o3⟩:=r p (Z0 ep)
 exact hp.tr (N.T.names _ o1) (N.T.names _ o2) (o3.wm N)
theorem zsh{R:RdL}:(zv1 R).depth<=60:=by
 have h3:PyData.depthAll (R.map λe=>zsR e.1 e.2.1 e.2.2)<=3:=ze1 λd hd=>by
  obtain⟨o,_,rfl⟩:=X1.mp hd
  have h1:=zcI (b:=o.2.2.2)
  have h2:=zg6 (b:=o.2.2.2)
  unfold zsR
  rw[PyData.depth,PyData.depthAll,PyData.depthAll,PyData.depthAll,PyData.depthAll,PyData.depthAll,PyData.depthAll,PyData.depth,PyData.depth,PyData.depth]
  lia
 unfold zv1
 rw[PyData.depth]
 lia
theorem TmE.mono{As:List HA}(h:TmE H kvs As)(m:∀c C dx fs,H c=some (.ins C dx fs)->H' c=some (.ins C dx fs)):TmE H' kvs As:=by
 induction h with
 |nil=>exact .nil
 |cons h t ih=>exact .cons (let⟨C,dx,fs,e,l⟩:=h;⟨C,dx,fs,m _ _ _ _ e,l⟩) ih
noncomputable def zwz(st:Str->S3)(R:RdL):Bool:=(R.map λe=>decide (e.2.2.1<=zd9 (zJ (st e.2.1).2.1 e.1))).all id
def ToldA(hs:List Str)(p:Addr)(As:List HA)(st:Str->S3)(us:List V)(R:RdL)(H:Hp)(t l:Addr):Prop:=
 ∃(c m:Addr) (kv kt:List (Key×V)),H t=some (.tup [.ref l, .ref c, .ref m, .bl (zwz st R), .ref p])/\H l=some (.lst us)/\RdO H us R/\H c=some (.dK kv)/\ChE H kv (hs.map λx=>(x,(st x).1))/\H m=some (.dK kt)/\TmE H kt As
theorem ToldA.hold{p:Addr}{As:List HA}{st:Str->S3}{R:RdL}{t:Addr}(h:ToldA hs p As st us R H t l)(ea:H a=some (.lst xs))(n:l≠a)(k:Keep a H H'):ToldA hs p As st us R H' t l:=by
 obtain⟨c,m,kv,kt,h1,h2,h3,h4,h5,h6,h7⟩:=h
 have mt:∀c xs,H c=some (.tup xs)->H' c=some (.tup xs):=λc xs e=>k c _ (zy e ea (λz=>nomatch z)) e
 exact⟨c,m,kv,kt,mt _ _ h1,k _ _ n h2,h3.mono mt,k _ _ (zy h4 ea (λz=>nomatch z)) h4,h5.mono mt,k _ _ (zy h6 ea (λz=>nomatch z)) h6,h7.mono λc C dx fs e=>k _ _ (zy e ea (λz=>nomatch z)) e⟩
theorem ToldA.same{p:Addr}{As:List HA}{st:Str->S3}{R:RdL}{t:Addr}(h:ToldA hs p As st us R H t l)(k:Same H H'):ToldA hs p As st us R H' t l:=by
 obtain⟨c,m,kv,kt,h1,h2,h3,h4,h5,h6,h7⟩:=h
 exact⟨c,m,kv,kt,k _ _ h1,k _ _ h2,h3.mono λc xs e=>k _ _ e,k _ _ h4,h5.mono λc xs e=>k _ _ e,k _ _ h6,h7.mono λc C dx fs e=>k _ _ e⟩
theorem ToldA.ne(N:Tn g hs ps lks hds O){p:Addr}{As:List HA}{st:Str->S3}{R:RdL}{t t' l':Addr}(rr:RdR hs O R)(so:∀x∈hs,SOk g hs ps lks hds O x (st x))(h:ToldA hs p As st us R H t l)(h':ToldA hs p As st us R H t' l'):∃a b xs ys,V.ref t= .ref a/\V.ref t'= .ref b/\H a=some (.tup xs)/\H b=some (.tup ys)/\xs.length=ys.length/\(∀(i:Nat) (v v':V),xs[i]?=some v->ys[i]?=some v'->Eqw H v v'):=by
 obtain⟨c,m,kv,kt,h1,h2,h3,h4,h5,h6,h7⟩:=h
 obtain⟨c',m',kv',kt',g1,g2,g3,g4,g5,g6,g7⟩:=h'
 refine⟨t,t',_,_,rfl,rfl,h1,g1,rfl,λi v v' e e'=>?_⟩
 match i with
 |0=>cases e;cases e';exact .tree (h3.tr N h2 rr) (g3.tr N g2 rr) zsh
 |1=>
  cases e;cases e'
  refine .dict h4 g4 (h5.alk (λe he=>?_) g5)
  obtain⟨x,hx,rfl⟩:=X1.mp he
  exact(so x hx).b.wm N
 |2=>cases e;cases e';exact .dict h6 g6 (h7.alk (Same.refl _) g7)
 |3=>cases e;cases e';exact .tree (.bl _) (.bl _) (by simp[PyData.depth])
 |4=>cases e;cases e';exact .same
 |i+5=>cases e
noncomputable def zl8(C CR:Addr):Sp:=λvs H Q _=>∃(hs O:List Str) (rp dr d wl p:Addr) (As:List HA) (st:Str->S3) (us:List V) (R:RdL),vs=[.ref rp]/\RnAt C CR hs H rp dr d wl (.ref p) As st us R/\hs.Nodup/\hs.length<=10/\RdR hs O R/\R.length<=900/\∀t l H',H l=none->ToldA hs p As st us R H' t l->Same H H'->Q (.ref t) H'
theorem zqg(Y:Ev K mg):FnOk P w K mg base CX0 4 Y.a__law_told Y.d__law_told zdp (zl8 Y.c_House Y.c_Run):=by
 have G_Run_road:FnOk P w K mg base CX0 1 Y.a_Run_road Y.d_Run_road zdc (zhR Y.c_House Y.c_Run):=zj9 Y
 have G_Run_choice:FnOk P w K mg base CX0 2 Y.a_Run_choice Y.d_Run_choice zcE (ziA Y.c_House Y.c_Run):=zlJ Y
 have G_Run_changes:FnOk P w K mg base CX0 1 Y.a_Run_changes Y.d_Run_changes zb3 (zhc Y.c_House Y.c_Run):=zkC Y
 have G_Run_is_still:FnOk P w K mg base CX0 3 Y.a_Run_is_still Y.d_Run_is_still zbu (zj3 Y.c_House Y.c_Run):=znt Y
 have G_Run_town:FnOk P w K mg base CX0 1 Y.a_Run_town Y.d_Run_town zcY (ziy Y.c_House Y.c_Run):=zjQ Y
 refine Y._law_told.fn.okQ zmA (λvs H Q E h=>?_) `W3
 ·obtain ⟨hs,O,rp,dr,d,wl,p,As,st,us,R,rfl,_⟩:=h;rfl
 ·obtain ⟨hs,O,rp,dr,d,wl,p,As,st,us,R,rfl,A0,nd,l10,rr,lR,q⟩:=h
  refine⟨_,(zi (zr (zn (za (zaH (qv 0) Y.k_Run Y.Run_road.m G_Run_road `U3 Y.Run_road.b .nil zk) (za (zaH (qv 0) Y.k_Run Y.Run_choice.m G_Run_choice `U3 Y.Run_choice.b .nil zk) (za (zaH (qv 0) Y.k_Run Y.Run_changes.m G_Run_changes `U3 Y.Run_changes.b .nil zk) (za (zaH (qv 0) Y.k_Run Y.Run_is_still.m G_Run_is_still `U3 Y.Run_is_still.b .nil zk) (za (zaH (qv 0) Y.k_Run Y.Run_town.m G_Run_town `U3 Y.Run_town.b .nil zk) zb)))))))),?_⟩
  refine⟨_,rfl,rp,dr,_,rfl,A0.hr,rfl,hs,rp,dr,d,wl, .ref p,As,st,us,R,rfl,A0,λl hl=>?_⟩
  have S1:=Same.new (o:= .lst us) hl
  have e1:=zc (H:=H) (a:=l) (o:= .lst us)
  generalize upd H l (.lst us)=H1 at *
  have A1:=A0.same S1
  refine⟨_,rfl,rp,dr,_,rfl,A1.hr,rfl,hs,rp,dr,d,wl, .ref p,As,st,us,R,rfl,A1,nd,l10,λc kv H2 e2 ch2 s2=>?_⟩
  have A2:=A1.same s2
  refine⟨_,rfl,rp,dr,_,rfl,A2.hr,rfl,hs,rp,dr,d,wl, .ref p,As,st,us,R,rfl,A2,nd,l10,λm kt H3 e3 tm3 s3=>?_⟩
  have A3:=A2.same s3
  refine⟨_,rfl,rp,dr,_,rfl,A3.hr,rfl,hs,O,rp,dr,d,wl, .ref p,As,st,us,R,rfl,A3,rr,lR,λH4 s4=>?_⟩
  have A4:=A3.same s4
  refine⟨_,rfl,rp,dr,_,rfl,A4.hr,rfl,hs,rp,dr,d,wl, .ref p,As,st,us,R,rfl,A4,few rfl,λt ht=>?_⟩
  have S5:=Same.new (o:= .tup [.ref l, .ref c, .ref m, .bl (zwz st R), .ref p]) ht
  have s35:=s4.trans S5
  have s25:=s3.trans s35
  have s15:=s2.trans s25
  exact q t l _ hl ⟨c,m,kv,kt,zc,s15 _ _ e1,(A4.same S5).rd,s25 _ _ e2,ch2.mono λc xs e=>s25 _ _ e,s35 _ _ e3,tm3.mono λc C dx fs e=>s25 _ _ e⟩ (S1.trans s15)
theorem zsy:W.kitOne K (.ref C) (.ref C)=some true:=by
 unfold W.kitOne
 rw[R0 (beq_self_eq_true _)]
theorem zw2{l:List α}(h:l.length=4):∃a b c d,l=[a,b,c,d]:=by
 match l,h with
 |[a,b,c,d],_=>exact ⟨a,b,c,d,rfl⟩
noncomputable def zg5(C CR:Addr):Sp:=λvs H Q _=>∃(g:Str) (hs:List Str) (ps:List (Str×Str)) (lks hds:List D) (rp dr d wl:Addr) (v0:V) (As:List HA) (st:Str->S3) (us:List V) (R:RdL) (v:V) (dd:D),vs=[.ref rp,v]/\RnAt C CR hs H rp dr d wl v0 As st us R/\Rep H v0 (zag g hs ps lks hds)/\TownOk g hs ps lks hds/\Rep H v dd/\zax hs ps dd=false/\∀H',Same H H'->Q (.bl true) H'
theorem zkR(Y:Ev K mg):FnOk P w K mg base CX0 10 Y.a__law_refused Y.d__law_refused zbF (zg5 Y.c_House Y.c_Run):=by
 have GX_Run_change:FnOk P w K mg base (CXe P w) 9 Y.a_Run_change Y.d_Run_change zaX (ziw Y.c_House Y.c_Run Y.X_NoDeed):=zna Y
 refine Y._law_refused.fn.okQ zbB (λvs H Q E h=>?_) `W3
 ·obtain ⟨g,hs,ps,lks,hds,rp,dr,d,wl,v0,As,st,us,R,v,dd,rfl,_⟩:=h;rfl
 ·obtain ⟨g,hs,ps,lks,hds,rp,dr,d,wl,v0,As,st,us,R,v,dd,rfl,A0,hv,T,hd,hb,q⟩:=h
  refine⟨_,(zf (zx 2 zbB.nd zcj)
   (zf (zwT (i:=3) (λ_ _=>(zi (zaZ (zcq (qv 0) Y.k_Run Y.Run_change.m GX_Run_change `U3 Y.Run_change.b .nil zsq (za (qv 1) zb))))) (λ_ _=>(zi (zx 2 zbB.nd (qv 3)))) rfl rfl zbB.nd rfl rfl Y.m_RestError Y.e_RestError ⋯)
   (zf (zae (t_w (zmd (zcd (zbM (zv ziK Y.isinstance zV (za (qv 2) (za (zaF (v:= .ref Y.X_NoDeed) Y.m_NoDeed rfl) zb))))) (zhd (zcd (zbM (zv ziK Y.isinstance zV (za (qv 2) (za (zl1 Y.ValueError zjh) zb)))))))) (zi (zr zgc)) zO)
   (zi (zr (zma (zv ziK Y.isinstance zV (za (qv 2) (za (zn (za (zaF (v:= .ref Y.X_Forged) Y.m_Forged rfl) (za (zaF (v:= .ref Y.X_HasRing) Y.m_HasRing rfl) (za (zaF (v:= .ref Y.X_Needed) Y.m_Needed rfl) (za (zaF (v:= .ref Y.X_NoLetter) Y.m_NoLetter rfl) (za (zaF (v:= .ref Y.X_NoRow) Y.m_NoRow rfl) (za (zaF (v:= .ref Y.X_NoText) Y.m_NoText rfl) (za (zaF (v:= .ref Y.X_TooMany) Y.m_TooMany rfl) zb)))))))) zb))))))))),?_⟩
  refine⟨λCv _ H1=>Cv= .ref Y.X_NoDeed/\Same H H1,?_,?_⟩
  ·exact ⟨_,rfl,rp,dr,_,rfl,A0.hr,rfl,_,rfl,g,hs,ps,lks,hds,rp,dr,d,wl,v0,As,st,us,R,v,dd,rfl,A0,hv,T,hd,hb,λH' s'=>⟨rfl,s'⟩⟩
  ·rintro Cv o H1 ⟨rfl,s1⟩
   refine⟨_,rfl,Y.u_NoDeed_RestError,λσ' a hσ ha=>?_⟩
   obtain⟨o0,o1,o2,o3,rfl⟩:=zw2 hσ
   have e1:upd H1 a (.ext (ExcAt Y.X_NoDeed a)) a=some (.ext (ExcAt Y.X_NoDeed a)):=zc
   have s2:Same H (upd H1 a (.ext (ExcAt Y.X_NoDeed a))):=s1.trans (Same.new ha)
   generalize upd H1 a (.ext (ExcAt Y.X_NoDeed a))=H2 at *
   refine⟨_,rfl,?_⟩
   refine⟨_,rfl,a,Y.X_NoDeed,_,true,rfl,e1,Y.i_NoDeed, .inl ⟨_,rfl,zsy⟩,true,rfl,za3 rfl ?_⟩
   refine⟨_,rfl,a,Y.X_NoDeed,_,true,rfl,e1,Y.i_NoDeed, .inr (.inl ⟨_,rfl,Y.k_NoDeed_ValueError⟩),true,rfl,za3 rfl ?_⟩
   refine⟨_,rfl,few rfl,λp hp=>?_⟩
   refine⟨a,Y.X_NoDeed,_,false,rfl,by rw[ze (zj e1 hp)];exact e1,Y.i_NoDeed, .inr (.inr ⟨p,[Y.X_Forged,Y.X_HasRing,Y.X_Needed,Y.X_NoLetter,Y.X_NoRow,Y.X_NoText,Y.X_TooMany],rfl,zc,Y.j_NoDeed⟩),false,rfl,?_⟩
   exact q _ (s2.trans (Same.new hp))
theorem RdR.app{R R':RdL}(h:RdR hs O R)(h':RdR hs O R'):RdR hs O (R ++R'):=λe he=>(Q2.mp he).elim (h e) (h' e)
theorem RdR.erase{R:RdL}(h:RdR hs O R)(k:Nat):RdR hs O (R.eraseIdx k):=λe he=>h e (List.mem_of_mem_eraseIdx he)
structure LwJ(C CR:Addr)(g:Str)(hs:List Str)(ps:List (Str×Str))(lks hds:List D)(O:List Str)(H H':Hp)(a:Addr)(n:Int)(rp dr d wl p:Addr)(As:List HA)(st:Str->S3)(us:List V)(R:RdL):Prop where
 rn:RnAt C CR hs H' rp dr d wl (.ref p) As st us R
 so:∀x∈hs,SOk g hs ps lks hds O x (st x)
 rr:RdR hs O R
 hh:Hand H' a n
 hv:Rep H' (.ref p) (zag g hs ps lks hds)
 sm:Same H H'
theorem LwJ.same{CR:Addr}{n:Int}{d p:Addr}{As:List HA}{st:Str->S3}{R:RdL}(I:LwJ C CR g hs ps lks hds O H H' a n rp dr d wl p As st us R)(s:Same H' H2):LwJ C CR g hs ps lks hds O H H2 a n rp dr d wl p As st us R:=
 ⟨I.rn.same s,I.so,I.rr,I.hh.same s,I.hv.same s,I.sm.trans s⟩
theorem LwJ.hand{CR:Addr}{n:Int}{d p:Addr}{As:List HA}{st:Str->S3}{R:RdL}(N:Tn g hs ps lks hds O)(I:LwJ C CR g hs ps lks hds O H H' a n rp dr d wl p As st us R)(na:H a=none)(nwa:wl≠a)(k:Keep a H' H2)(h:Hand H2 a n'):LwJ C CR g hs ps lks hds O H H2 a n' rp dr d wl p As st us R:=by
 obtain⟨xs,ea⟩:=zbC I.hh
 have m:∀c xs,H' c=some (.tup xs)->H2 c=some (.tup xs):=λc xs e=>k c _ (zy e ea (λz=>nomatch z)) e
 have q1:=zhH I.rn.ha ea
 exact⟨⟨k _ _ (zy I.rn.hr ea (λz=>nomatch z)) I.rn.hr,k _ _ (zy I.rn.hd ea (λz=>nomatch z)) I.rn.hd,k _ _ nwa I.rn.hw,I.rn.rd.mono m,I.rn.ha.hold m λc hc o e=>k c o (λz=>q1 (by rw[←z];exact hc)) e,I.rn.ns,I.rn.sep⟩,I.so,I.rr,h,zY I.hv N.T m,λc o e=>k c o (zj e na) (I.sm c o e)⟩
theorem zmv(T:TownOk g hs ps lks hds)(hj:j<hs.length){L:D}(hL:zN L=true):TownOk g hs ps (putAt lks j L) hds:=
 ⟨T.rise,T.one,T.ten,T.names,T.goal,T.riseP,T.ties,by rw[ze4 (by rw[T.ll];exact hj)];exact T.ll,T.lh,λd hd=>(zgU hd).elim (λe=>by rw[e];exact hL) (T.likes d),T.hands⟩
theorem zl0(T:TownOk g hs ps lks hds)(hj:j<hs.length){L:D}(hL:z7 L=true):TownOk g hs ps lks (putAt hds j L):=
 ⟨T.rise,T.one,T.ten,T.names,T.goal,T.riseP,T.ties,T.ll,by rw[ze4 (by rw[T.lh];exact hj)];exact T.lh,T.likes,λd hd=>(zgU hd).elim (λe=>by rw[e];exact hL) (T.hands d)⟩
theorem zuq{Q:List V->Hp->Prop}(h:Dsp te σ H d)(q:∀v H2,Same H H2->Rep H2 v d->Q [v] H2):zbL te zgP σ H Q:=h H _ (Same.refl H) q
theorem zmE{b:D}:lkO "like" lks j b=putAt lks j b:=R0 rfl
theorem zi1{b:D}:hdO "like" hds j b=hds:=R0 rfl
theorem zlQ{b:D}:lkO "hand" lks j b=lks:=N0 ⋯
theorem ziE{b:D}:hdO "hand" hds j b=putAt hds j b:=N0 ⋯
noncomputable abbrev zpU:D:= .tup (List.replicate (90:Int).toNat [D.tup [.tup [], .int 5]]).flatten
noncomputable abbrev zr5:D:= .tup (List.replicate (90:Int).toNat [D.tup [.tup [], .tup [.str "put", .str "aa"]]]).flatten
theorem zoR:zN zpU=true:=`Y3
theorem zoc:z7 zr5=true:=`Y3
theorem zsa{x:D}(hx:Dsp te σ H x):Dsp (tOp (zoF K) (zmQ (zbL te zgP)) (tC (.int 90))) σ H (.tup (List.replicate (90:Int).toNat [x]).flatten):=
 zoz (ds:=[x]) (zbW (zB hx zaJ) (J1 rfl)) `Z3 ⋯ ⋯ (by rw[List.flatten_replicate_singleton,List.length_replicate];decide) (J1 rfl)
noncomputable def spLaw(K:W.Frag):Sp:=λvs H Q _=>∃(a:Addr) (ns:List Int),vs=[.ref a]/\SqL K H a (ns.map V.int)/\ns.length<=63/\∀H',Q (.bl true) H'
theorem ok_law_of(Y:Ev K mg){fl:Addr}{fdl:FuncData}(FL:Fun K "law" "law" zoP fl fdl):FnOk P w K mg base CX0 12 fl fdl zrb (spLaw K):=by
 have G__law_all:FnOk P w K mg base CX0 2 Y.a__law_all Y.d__law_all zec (zoV K):=zrd Y
 have G__law_town:FnOk P w K mg base CX0 6 Y.a__law_town Y.d__law_town zdq zrI:=zsY Y
 have G__law_take:FnOk P w K mg base CX0 1 Y.a__law_take Y.d__law_take z9 zdB:=zcO Y
 have G__law_pick:FnOk P w K mg base CX0 2 Y.a__law_pick Y.d__law_pick zU (λvs H Q E=>zbn K vs H Q E\/zhA vs H Q E):=zwW (zcA Y) (zlU Y)
 have G__law_odd:FnOk P w K mg base CX0 3 Y.a__law_odd Y.d__law_odd zeb (zoZ K):=zqY Y
 have G_Run___init__:FnOk P w K mg base CX0 9 Y.a_Run___init__ Y.d_Run___init__ zbD (zoU Y.c_House Y.c_Run):=zr0 Y
 have G_Run_road:FnOk P w K mg base CX0 1 Y.a_Run_road Y.d_Run_road zdc (zhR Y.c_House Y.c_Run):=zj9 Y
 have G_Run_come:FnOk P w K mg base CX0 10 Y.a_Run_come Y.d_Run_come zd4 (zlP true Y.c_House Y.c_Run):=zpO Y
 have G_Run_change:FnOk P w K mg base CX0 9 Y.a_Run_change Y.d_Run_change zaX (zi2 Y.c_House Y.c_Run):=zmb Y
 have G_Run_town:FnOk P w K mg base CX0 1 Y.a_Run_town Y.d_Run_town zcY (ziy Y.c_House Y.c_Run):=zjQ Y
 have G__law_refused:FnOk P w K mg base CX0 10 Y.a__law_refused Y.d__law_refused zbF (zg5 Y.c_House Y.c_Run):=zkR Y
 have G__law_told:FnOk P w K mg base CX0 4 Y.a__law_told Y.d__law_told zdp (zl8 Y.c_House Y.c_Run):=zqg Y
 refine FL.okQ zfY (λvs H Q E h=>?_) `W3
 ·obtain ⟨a,ns,rfl,_⟩:=h;rfl
 ·obtain ⟨sc,ns,rfl,hS,hns,q⟩:=h
  refine⟨_,(zf (zx 1 zfY.nd (zh G__law_all `U3 Y._law_all.mg Y._law_all.kp Y._law_all.b .nil zk (za (qv 0) zb)))
   (zf (zx 2 zfY.nd (zh G__law_town `U3 Y._law_town.mg Y._law_town.kp Y._law_town.b .nil zk (za (qv 1) zb)))
   (zf (zx 3 zfY.nd (zrG Y.mk_Run G_Run___init__ `U3 Y.m_Run Y.Run___init__.b .nil zk (za (qv 2) zb)))
   (zf (zcZ O3 rfl (zfw Y.range (za (zF zap zg (zv (zgR rfl) Y.min zgz (za zg (za (zv z8 Y.len za0 (za (qv 0) zb)) zb)))) zb)) (zo 4 zfY.nd) (zf (zx 5 zfY.nd (zh G__law_told `U3 Y._law_told.mg Y._law_told.kp Y._law_told.b .nil zk (za (qv 3) zb)))
   (zf (zae (t_w (zmd (zcd (zbM (zh G__law_refused `U3 Y._law_refused.mg Y._law_refused.kp Y._law_refused.b .nil zk (za (qv 3) (za (zh G__law_odd `U3 Y._law_odd.mg Y._law_odd.kp Y._law_odd.b .nil zk (za (qv 1) (za (qv 2) zb))) zb))))) (zhd (zK (zv5 (zxo hr)) (zh G__law_told `U3 Y._law_told.mg Y._law_told.kp Y._law_told.b .nil zk (za (qv 3) zb)) (qv 5))))) (zi (zr zgc)) zO)
   (zf (zx 6 zfY.nd (zv z8 Y.len za0 (za (zaH (qv 3) Y.k_Run Y.Run_road.m G_Run_road `U3 Y.Run_road.b .nil zk) zb)))
   (zi (zae (zK zmn (qv 6) zg) (zi (zaZ (zcq (qv 3) Y.k_Run Y.Run_come.m G_Run_come `U3 Y.Run_come.b .nil zk (za (zh G__law_take `U3 Y._law_take.mg Y._law_take.kp Y._law_take.b .nil zk (za (qv 1) (za (qv 6) zb))) zb)))) zO))))))
   (zf (zx 7 zfY.nd (zh G__law_pick `U3 Y._law_pick.mg Y._law_pick.kp Y._law_pick.b .nil zk (za (qv 1) (za (zM zw (qv 2) zg) zb))))
   (zf (zaZ (zcq (qv 3) Y.k_Run Y.Run_change.m G_Run_change `U3 Y.Run_change.b .nil zk (za (zn (za zu (za (qv 7) (za (zF zhB (zn (za (zn (za (zn zb) (za zg zb))) zb)) zg) zb)))) zb)))
   (zf (zaZ (zcq (qv 3) Y.k_Run Y.Run_change.m G_Run_change `U3 Y.Run_change.b .nil zk (za (zn (za zu (za (qv 7) (za (zF zhB (zn (za (zn (za (zn zb) (za (zn (za zu (za zu zb))) zb))) zb)) zg) zb)))) zb)))
   (zf (zx 8 zfY.nd (zgO F.plainAttrs_tuple F.slot_tuple_index F.type_tuple_index ze7 (zM zw (qv 2) zg) (za (qv 7) zb)))
   (zi (zr (zbf (zaY zac (zv z8 Y.len za0 (za (zM zw (zM zw (zaH (qv 3) Y.k_Run Y.Run_town.m G_Run_town `U3 Y.Run_town.b .nil zk) zg) (qv 8)) zb)) zg) (zbv (zaY zac (zv z8 Y.len za0 (za (zM zw (zM zw (zaH (qv 3) Y.k_Run Y.Run_town.m G_Run_town `U3 Y.Run_town.b .nil zk) zg) (qv 8)) zb)) zg))))))))))))),?_⟩
  refine⟨_,rfl,sc,ns,rfl,hS,hns,λa H1 ha hH1 s1=>?_⟩
  refine⟨_,rfl,a,0,rfl,hH1,⋯,λv g hs ps lks hds H2 hv T hno ⟨O,PO⟩ _ hf0 hH2 k2=>?_⟩
  have N:Tn g hs ps lks hds O:=⟨T,PO,zvH hf0⟩
  have s02:Same H H2:=λc o e=>k2 c o (zj e ha) (s1 c o e)
  refine⟨_,rfl,λrp dr np ndr ner=>⟨g,hs,ps,lks,hds,O,rp,dr,v,rfl,zc,N,?_,λd wl As us H3 A3 so3 nwl ndd nad k3=>⟨rfl,?_⟩⟩⟩
  ·exact hv.same λc o e=>by rw[ze (zj e np),ze (zj e ndr)];exact e
  have u23:Same H2 (upd (upd H2 dr (.own rp)) rp (.ins Y.c_Run dr [])):=λc o e=>by rw[ze (zj e np),ze (zj e ndr)];exact e
  have s23:Same H2 H3:=λc o e=>k3 c o (zj e np) (u23 c o e)
  have nwl2:=u23.free nwl
  have nas:∀c∈zdf As,H c=none:=λc hc=>s02.free (u23.free (nad c hc))
  have nwl0:=s02.free nwl2
  have nwa:wl≠a:=λz=>by obtain⟨xs,e⟩:=zbC hH2;rw[←z,nwl2] at e;cases e
  have hv3:=hv.same s23
  obtain⟨p,pr,pt,pl,pa,vt,vl,va,rfl,_⟩:=zbm hv3
  have T1:=T.one
  have T10:=T.ten
  have l100:=zkG (g:=g) (ps:=ps) (hds:=hds) T10 hs
  have I3:LwJ Y.c_House Y.c_Run g hs ps lks hds O H H3 a 9000 rp dr d wl p As _ us _:=⟨A3,so3,zsl N λx hx=>⟨hx,so3 x hx⟩,hH2.same s23,hv3,s02.trans s23⟩
  clear nwl ndd nad k3 u23 A3 so3 nwl2 hH1 hH2 k2 hv hv3
  generalize zie g hs ps hds=st3 at *
  generalize rdB g hs ps hds hs=R3 at *
  refine⟨_,rfl, .inl ⟨sc,_,rfl, .inl (I3.sm.seq hS),_,_,rfl,_,_,rfl,rfl,_,rfl,by split<;>lia,by rw[D0];split<;>lia,?_⟩⟩
  refine zbe zdZ (λi σ' H'=>∃st us R,(∃o4 o5 o6 o7 o8,σ'=[some (.ref sc),some (.ref a),some (.ref p),some (.ref rp),o4,o5,o6,o7,o8])/\R.length<=100+10*i/\LwJ Y.c_House Y.c_Run g hs ps lks hds O H H' a (9000+4*i) rp dr d wl p As st us R) ?_ (λ_ _ _ _=>trivial) ?_ ?_
  ·exact ⟨_,_,_,⟨_,_,_,_,_,rfl⟩,(),I3⟩
  ·rintro i y σ' H4 hi rfl ⟨st,us,R,⟨o4,o5,o6,o7,o8,rfl⟩,lR,I4⟩
   have hi70:i<70:=by
    refine W1 hi ?_
    rw[D0]
    split<;>lia
   clear I3 hi l100
   have lu:=I4.rn.rd.1
   refine⟨_,rfl,hs,O,rp,dr,d,wl,p,As,st,us,R,rfl,I4.rn,T.hs_nd,T10,I4.rr,(),λt l11 H11 nl11 tA s11=>?_⟩
   have I11:=I4.same s11
   have nla:l11≠a:=λz=>by obtain⟨xs,e⟩:=zbC I4.hh;rw[z,e] at nl11;cases nl11
   obtain⟨xa,ea⟩:=zbC I11.hh
   refine⟨_,rfl,_,rfl,_,rfl,a,_, .ref p,g,hs,ps,lks,hds,rfl,I11.hh,(),I11.hv,T,hno,λu dd H12 ru bu hH12 k12=>?_⟩
   have I12:=I11.hand N ha nwa k12 hH12
   have tA12:=tA.hold ea nla k12
   refine⟨g,hs,ps,lks,hds,rp,dr,d,wl, .ref p,As,st,us,R,u,dd,rfl,I12.rn,I12.hv,T,ru,bu,λH13 s13=>⟨true,rfl,za3 rfl ?_⟩⟩
   have I13:=I12.same s13
   refine⟨_,rfl,hs,O,rp,dr,d,wl,p,As,st,us,R,rfl,I13.rn,T.hs_nd,T10,I13.rr,(),λt16 l16 H16 _ tA16 s16=>?_⟩
   obtain⟨x1,x2,xs,ys,z1,z2,z3,z4,z5,z6⟩:=ToldA.ne N I13.rr I13.so tA16 (tA12.same (s13.trans s16))
   refine⟨_,rfl,x1,x2,xs,ys,z1,z2,z3,z4,z5,z6,?_⟩
   refine⟨_,rfl,za3 rfl ?_⟩
   have I16:=I13.same s16
   clear tA tA12 tA16 z2 z3 z4 z5 z6 I4 I11 I12 I13 s11 s13 s16 k12 ru ea
   refine⟨_,rfl,rp,dr,_,rfl,I16.rn.hr,rfl,hs,rp,dr,d,wl, .ref p,As,st,us,R,rfl,I16.rn,λl hl=>?_⟩
   refine .inl ⟨l,_,rfl, .inl (SqL.of zc),?_⟩
   have S5:=Same.new (o:= .lst us) hl
   generalize upd H16 l (.lst us)=H5 at *
   have I5:=I16.same S5
   clear I16 S5 hl
   refine⟨_,rfl,_,_,rfl,rfl,_,rfl,?_⟩
   by_cases c0:(0:Int)<(us.length:Int)
   ·refine zcl (P0 c0) ⟨_,rfl,rp,dr,_,rfl,I5.rn.hr,rfl,_,rfl,_,rfl,a,_,_,rfl,I5.hh,(),(),(),λk0 H13 t0 t1 hH13 k13=>?_⟩
    obtain⟨k,rfl⟩:∃k:Nat,k0=(k:Int):=⟨k0.toNat,()⟩
    have I13:=I5.hand N ha nwa k13 hH13
    obtain⟨e1,he⟩:∃e1,R[k]?=some e1:=⟨_,F0 (by rw[←lu];lia)⟩
    refine⟨g,hs,ps,lks,hds,O,rp,dr,d,wl, .ref p,As,st,us,R,k,e1,rfl,I13.rn,N,I13.hv,I13.so,I13.rr,(),he,λs' L us' H14 hh so rL rn f=>?_⟩
    have m:∀c xs,H13 c=some (.tup xs)->H14 c=some (.tup xs):=λc xs e=>f c _ (zy e I13.rn.hw (λz=>nomatch z)) (zhF I13.rn.ha e) e
    obtain⟨xb,eb⟩:=zbC hH13
    have lL:=hh.n
    refine⟨_,us',_,⟨_,_,_,_,_,rfl⟩,?_,rn,λx hx=>?_,RdR.app (I13.rr.erase k) rL,(zpp hH13 λo e=>f a o (Ne.symm nwa) (zhH I13.rn.ha eb) e).mono (),zY I13.hv T m,λc o e=>f c o (zj e nwl0) (λz=>by rw[nas c z] at e;cases e) (I13.sm c o e)⟩
    ·rw[R0 rfl,b0,D0,List.length_eraseIdx]
     split<;>lia
    ·unfold zqb
     by_cases c:x=e1.2.1
     ·rw[R0 c,c];exact so
     ·rw[N0 c];exact I13.so x hx
   ·exact za3 (U0 c0) ⟨st,us,R,⟨_,_,_,_,_,rfl⟩,(),{I5 with hh:=I5.hh.mono ()}⟩
  ·rintro σ' H4 ⟨st,us,R,⟨o4,o5,o6,o7,o8,rfl⟩,lR,I4⟩
   have lN:R.length<=800/\(9000+4*((6+if (((ns.map V.int).length:Nat):Int)<30 then(((ns.map V.int).length:Nat):Int)else 30).toNat:Int):Int)<=20000:=by
    rw[D0] at lR⊢
    constructor
    ·refine Y1 lR ?_
     split<;>lia
    ·split<;>lia
   generalize (9000+4*((6+if (((ns.map V.int).length:Nat):Int)<30 then(((ns.map V.int).length:Nat):Int)else 30).toNat:Int):Int)=n4 at *
   clear lR I3 l100
   obtain⟨p',pr,pt,pl,pa,vt,vl,va,ep,hp,hpr,hpt,rt,hpl,rl,hpa,ra⟩:=zbm I4.hv
   cases ep
   refine⟨_,rfl,_,rfl,p,_,1,_,rfl,rfl, .inl (.inl hp),at1, .inr ⟨a,n4,pr,_,rfl,I4.hh,(),hpr,by rw[D0];lia,by rw[D0];lia,λvx H5 hx0 hH5 k5=>?_⟩⟩
   obtain⟨x,hx,rfl⟩:=X1.mp hx0
   obtain⟨j,hj',ej⟩:=F2 hx
   have hj:hs[j]?=some x:=by rw[F0 hj',ej]
   have I5:=I4.hand N ha nwa k5 hH5
   obtain⟨xs4,ea4⟩:=zbC I4.hh
   have m5:∀c xs,H4 c=some (.tup xs)->H5 c=some (.tup xs):=λc xs e=>k5 c _ (zy e ea4 (λz=>nomatch z)) e
   have hp5:=m5 _ _ hp
   have hpr5:=m5 _ _ hpr
   have nx:=T.names x hx
   clear I4 k5 hp hpr hpt rt hpl rl hpa ra ea4
   have co5:ChO g hs st:=λy hy=>let ⟨L0,i⟩:=(I5.so y hy).hi;⟨i.goal,L0,i.last⟩
   have T1':TownOk g hs ps (lkO "like" lks j zpU) (hdO "like" hds j zpU):=by rw[zmE,zi1];exact zmv T hj' zoR
   refine⟨_,rfl,rp,dr,_,rfl,I5.rn.hr,rfl,zuq (d:= .tup [.str "like", .str x,zpU]) (zbW (zB (zej ⋯) (zB (zdy rfl (.str x (zX nx))) (zB (zsa `X3) zaJ))) (J1 rfl)) λu H6 s6 ru=>?_⟩
   have I6:=I5.same s6
   refine⟨g,hs,ps,lks,hds,rp,dr,d,wl, .ref p,As,st,us,R,u,"like",x,zpU,j,rfl,I6.rn,I6.hv,T,ru, .inl rfl,?_,hj,T1',by rw[zi1];exact N.hf,co5,(),λv7 st7 us7 R7 H7 A7 hv7 co7 l7 m7=>?_⟩
   ·unfold zdL
    rw[R0 rfl]
    exact zoR
   rw[zmE,zi1] at hv7 T1'
   have m57:∀c xs,H5 c=some (.tup xs)->H7 c=some (.tup xs):=λc xs e=>m7 _ _ (s6 _ _ e)
   have T2':TownOk g hs ps (lkO "hand" (putAt lks j zpU) j zr5) (hdO "hand" hds j zr5):=by rw[zlQ,ziE];exact zl0 T1' hj' zoc
   refine⟨_,rfl,rp,dr,_,rfl,A7.hr,rfl,zuq (d:= .tup [.str "hand", .str x,zr5]) (zbW (zB (zej ⋯) (zB (zdy rfl (.str x (zX nx))) (zB (zsa `X3) zaJ))) (J1 rfl)) λu8 H8 s8 ru8=>?_⟩
   refine⟨g,hs,ps,_,hds,rp,dr,d,wl,v7,As,st7,us7,R7,u8,"hand",x,zr5,j,rfl,A7.same s8,hv7.same s8,T1',ru8, .inr rfl,?_,hj,T2',?_,co7,(),λv9 st9 us9 R9 H9 A9 hv9 co9 l9 m9=>?_⟩
   ·unfold zdL
    rw[N0 ⋯,R0 rfl]
    exact zoc
   ·rw[ziE]
    intro d0 hd0
    rcases zgU hd0 with rfl|h
    ·refine ⟨_,rfl, .inr ⟨"aa",`Y3,λr hr=>⟨[],?_⟩⟩⟩
     rw[List.flatten_replicate_singleton] at hr
     exact List.eq_of_mem_replicate hr
    ·exact N.hf d0 h
   rw[zlQ,ziE] at hv9
   have m59:∀c xs,H5 c=some (.tup xs)->H9 c=some (.tup xs):=λc xs e=>m9 _ _ (s8 _ _ (m57 _ _ e))
   have hp9:=m59 _ _ hp5
   have hpr9:=m59 _ _ hpr5
   refine⟨_,rfl,p,_,1,_,rfl,rfl, .inl (.inl hp9),at1,?_⟩
   refine⟨.inr (.inr (.inr (.inr ⟨rfl,_,hpr9⟩))),_,rfl,pr,hs,x,j,rfl,rfl, .inl (.inl hpr9),hj,zgb T.hs_nd hj,?_⟩
   obtain⟨p9,pr9,pt9,pl9,pa9,vt9,vl9,va9,rfl,hq9,_,_,_,hpl9,rl9,hpa9,ra9⟩:=zbm hv9
   have ljl:j<lks.length:=by rw[T.ll];exact hj'
   have ljh:j<hds.length:=by rw[T.lh];exact hj'
   have bl:j<vl9.length:=by rw[rl9.1,ze4 ljl];exact ljl
   have bh:j<va9.length:=by rw[ra9.1,ze4 ljh];exact ljh
   obtain⟨pb,ub,eb,hpb,rb,_⟩:=(rl9.2 j _ _ (F0 bl) (zlA ljl)).ofT
   obtain⟨pc,uc,ec,hpc,rc,_⟩:=(ra9.2 j _ _ (F0 bh) (zlA ljh)).ofT
   have nb:ub.length=90:=by rw[rb.1,List.flatten_replicate_singleton,List.length_replicate];rfl
   have nc:uc.length=90:=by rw[rc.1,List.flatten_replicate_singleton,List.length_replicate];rfl
   refine⟨_,rfl,rp,dr,_,rfl,A9.hr,rfl,hs,rp,dr,d,wl, .ref p9,As,st9,us9,R9,rfl,A9,p9,_,3,_,rfl,rfl, .inl (.inl hq9),zZ (j:=3) rfl,_,rfl,pl9,_,_,vl9[j],rfl,rfl, .inl (.inl hpl9),zZ (by simp[bl]), .inl ⟨pb,ub,by rw[eb], .inr (.inl (.inl hpb)),?_⟩⟩
   rw[nb]
   refine⟨rfl,_,rfl,zcl rfl ?_⟩
   refine⟨_,rfl,rp,dr,_,rfl,A9.hr,rfl,hs,rp,dr,d,wl, .ref p9,As,st9,us9,R9,rfl,A9,p9,_,4,_,rfl,rfl, .inl (.inl hq9),zZ (j:=4) rfl,_,rfl,pa9,_,_,va9[j],rfl,rfl, .inl (.inl hpa9),zZ (by simp[bh]), .inl ⟨pc,uc,by rw[ec], .inr (.inl (.inl hpc)),?_⟩⟩
   rw[nc]
   exact⟨rfl,q H9⟩
end
noncomputable def evOf  {h:Heap}  (F:Fk K) (X:K.In h) (G:h.Ns mainGlobals mg):Ev K mg:={
 c_House:=F.C_House,k_House:=⟨F.c_House.pg9,F.c_House.hd9,F.c_House.po9,F.c_House.sa9⟩,m_House:=Z2 X G F.c_House.a9,n_House_place:=F.n_House_place,n_House_name:=F.n_House_name,n_House_hearings:=F.n_House_hearings,n_House_tellings:=F.n_House_tellings,n_House_going:=F.n_House_going,n_House_times:=F.n_House_times,
 c_Run:=F.C_Run,k_Run:=⟨F.c_Run.pg9,F.c_Run.hd9,F.c_Run.po9,F.c_Run.sa9⟩,m_Run:=Z2 X G F.c_Run.a9,n_Run_place:=F.n_Run_place,n_Run_people:=F.n_Run_people,n_Run_waiting:=F.n_Run_waiting,
 mk_House:=⟨F.c_House.ms9,F.House___init__.a9,F.House___init__.i9,F.c_House.kc9⟩,
 mk_Run:=⟨F.c_Run.ms9,F.Run___init__.a9,F.Run___init__.i9,F.c_Run.kc9⟩,
 a_NOTHING:=F.NOTHING.f9,e_NOTHING:=F.NOTHING.e9,m_NOTHING:=Z2 X G F.NOTHING.a9,t_NOTHING:=erN F.NOTHING,u_NOTHING:=erN0 F.NOTHING,
 X_NoDeed:=F.X_NoDeed,m_NoDeed:=Z2 X G F.x_NoDeed.a9,
 X_RestError:=F.X_RestError,m_RestError:=Z2 X G F.x_RestError.a9,
 X_Forged:=F.X_Forged,m_Forged:=Z2 X G F.x_Forged.a9,
 X_HasRing:=F.X_HasRing,m_HasRing:=Z2 X G F.x_HasRing.a9,
 X_Needed:=F.X_Needed,m_Needed:=Z2 X G F.x_Needed.a9,
 X_NoLetter:=F.X_NoLetter,m_NoLetter:=Z2 X G F.x_NoLetter.a9,
 X_NoRow:=F.X_NoRow,m_NoRow:=Z2 X G F.x_NoRow.a9,
 X_NoText:=F.X_NoText,m_NoText:=Z2 X G F.x_NoText.a9,
 X_TooMany:=F.X_TooMany,m_TooMany:=Z2 X G F.x_TooMany.a9,
 a_TAKEN:=F.TAKEN.f9,m_TAKEN:=Z2 X G F.TAKEN.a9,t_TAKEN:=erT F.TAKEN ⋯,
 a_NAMING:=F.NAMING.f9,m_NAMING:=Z2 X G F.NAMING.a9,t_NAMING:=erT F.NAMING ⋯,
 e_NoDeed:=F.e_NoDeed,
 e_RestError:=F.e_RestError,
 i_NoDeed:=F.i_NoDeed,
 u_NoDeed_RestError:=F.u_NoDeed_RestError,
 j_NoDeed:=F.j_NoDeed,
 k_NoDeed_ValueError:=F.k_NoDeed_ValueError,
 v_LONGEST:=_,m_LONGEST:=Z2 X G F.LONGEST.a9,r_LONGEST:=⟨F.LONGEST.tk9,rfl⟩,
 v_MOST_CONDS:=_,m_MOST_CONDS:=Z2 X G F.MOST_CONDS.a9,r_MOST_CONDS:=⟨F.MOST_CONDS.tk9,rfl⟩,
 v_LONGEST_ASKED:=_,m_LONGEST_ASKED:=Z2 X G F.LONGEST_ASKED.a9,r_LONGEST_ASKED:=⟨F.LONGEST_ASKED.tk9,rfl⟩,
 v_GREATEST_WORTH:=_,m_GREATEST_WORTH:=Z2 X G F.GREATEST_WORTH.a9,r_GREATEST_WORTH:=⟨F.GREATEST_WORTH.tk9,rfl⟩,
 v_MOST_RULES:=_,m_MOST_RULES:=Z2 X G F.MOST_RULES.a9,r_MOST_RULES:=⟨F.MOST_RULES.tk9,rfl⟩,
 a_is_name:=_,d_is_name:=_,is_name:=erA F.is_name X G λ_ _ _ _ _ _=>(of1 λ_=>rfl),
 a_is_number:=_,d_is_number:=_,is_number:=erA F.is_number X G λ_ _ _ _ _ _=>(of1 λ_=>rfl),
 a_is_whole:=_,d_is_whole:=_,is_whole:=erA F.is_whole X G λ_ _ _ _ _ _=>(of3 λ_ _ _=>rfl),
 a_is_row:=_,d_is_row:=_,is_row:=erA F.is_row X G λ_ _ _ _ _ _=>(of3 λ_ _ _=>rfl),
 a_is_worded:=_,d_is_worded:=_,is_worded:=erA F.is_worded X G λ_ _ _ _ _ _=>(of2 λ_ _=>rfl),
 a_is_plain_cond:=_,d_is_plain_cond:=_,is_plain_cond:=erA F.is_plain_cond X G λ_ _ _ _ _ _=>(of1 λ_=>rfl),
 a_is_cond:=_,d_is_cond:=_,is_cond:=erA F.is_cond X G λ_ _ _ _ _ _=>(of1 λ_=>rfl),
 a_are_conds:=_,d_are_conds:=_,are_conds:=erA F.are_conds X G λ_ _ _ _ _ _=>(of1 λ_=>rfl),
 a_asks_to:=_,d_asks_to:=_,asks_to:=erA F.asks_to X G λ_ _ _ _ _ _=>(of1 λ_=>rfl),
 a_is_worth:=_,d_is_worth:=_,is_worth:=erA F.is_worth X G λ_ _ _ _ _ _=>(of1 λ_=>rfl),
 a_is_liking:=_,d_is_liking:=_,is_liking:=erA F.is_liking X G λ_ _ _ _ _ _=>(of1 λ_=>rfl),
 a_is_act:=_,d_is_act:=_,is_act:=erA F.is_act X G λ_ _ _ _ _ _=>(of1 λ_=>rfl),
 a_is_hand:=_,d_is_hand:=_,is_hand:=erA F.is_hand X G λ_ _ _ _ _ _=>(of1 λ_=>rfl),
 a_holds:=_,d_holds:=_,holds:=erD F.holds 3 X G rfl (λ_ _ _ _ _ _ _=>(of4 λ_ _ _ _=>⟨_,rfl,rfl⟩)) (λ_ _ _ _ _ _ _=>(of3 λ_ _ _=>⟨_,rfl,rfl⟩)),
 a_all_hold:=_,d_all_hold:=_,all_hold:=erD F.all_hold 3 X G rfl (λ_ _ _ _ _ _ _=>(of4 λ_ _ _ _=>⟨_,rfl,rfl⟩)) (λ_ _ _ _ _ _ _=>(of3 λ_ _ _=>⟨_,rfl,rfl⟩)),
 a_is_house:=_,d_is_house:=_,is_house:=erA F.is_house X G λ_ _ _ _ _ _=>(of2 λ_ _=>rfl),
 a_are_likings:=_,d_are_likings:=_,are_likings:=erA F.are_likings X G λ_ _ _ _ _ _=>(of1 λ_=>rfl),
 a_are_hands:=_,d_are_hands:=_,are_hands:=erA F.are_hands X G λ_ _ _ _ _ _=>(of1 λ_=>rfl),
 a_likings_of:=_,d_likings_of:=_,likings_of:=erA F.likings_of X G λ_ _ _ _ _ _=>(of2 λ_ _=>rfl),
 a_hands_of:=_,d_hands_of:=_,hands_of:=erA F.hands_of X G λ_ _ _ _ _ _=>(of2 λ_ _=>rfl),
 a_tied:=_,d_tied:=_,tied:=erA F.tied X G λ_ _ _ _ _ _=>(of2 λ_ _=>rfl),
 a_is_deed:=_,d_is_deed:=_,is_deed:=erA F.is_deed X G λ_ _ _ _ _ _=>(of2 λ_ _=>rfl),
 a_houses_named:=_,d_houses_named:=_,houses_named:=erA F.houses_named X G λ_ _ _ _ _ _=>(of1 λ_=>rfl),
 a_put_for:=_,d_put_for:=_,put_for:=erA F.put_for X G λ_ _ _ _ _ _=>(of4 λ_ _ _ _=>rfl),
 a_town_behind:=_,d_town_behind:=_,town_behind:=erA F.town_behind X G λ_ _ _ _ _ _=>(of2 λ_ _=>rfl),
 a_marks_behind:=_,d_marks_behind:=_,marks_behind:=erA F.marks_behind X G λ_ _ _ _ _ _=>(of2 λ_ _=>rfl),
 a_handed:=_,d_handed:=_,handed:=erA F.handed X G λ_ _ _ _ _ _=>(of4 λ_ _ _ _=>rfl),
 a_worth:=_,d_worth:=_,worth:=erA F.worth X G λ_ _ _ _ _ _=>(of3 λ_ _ _=>rfl),
 a_liking_key:=_,d_liking_key:=_,liking_key:=erA F.liking_key X G λ_ _ _ _ _ _=>(of3 λ_ _ _=>rfl),
 a_most_liked:=_,d_most_liked:=_,most_liked:=erA F.most_liked X G λ_ _ _ _ _ _=>(of2 λ_ _=>rfl),
 a_House___init__:=_,d_House___init__:=_,House___init__:=erM F.House___init__ λ_ _ _ _ _ _=>(of3 λ_ _ _=>rfl),
 a_House_way:=_,d_House_way:=_,House_way:=erM F.House_way λ_ _ _ _ _ _=>(of1 λ_=>rfl),
 a_House_heard:=_,d_House_heard:=_,House_heard:=erM F.House_heard λ_ _ _ _ _ _=>(of2 λ_ _=>rfl),
 a_House_begin:=_,d_House_begin:=_,House_begin:=erM F.House_begin λ_ _ _ _ _ _=>(of1 λ_=>rfl),
 a_House_hear:=_,d_House_hear:=_,House_hear:=erM F.House_hear λ_ _ _ _ _ _=>(of2 λ_ _=>rfl),
 a_House_choose:=_,d_House_choose:=_,House_choose:=erM F.House_choose λ_ _ _ _ _ _=>(of1 λ_=>rfl),
 a_House_open_ways:=_,d_House_open_ways:=_,House_open_ways:=erM F.House_open_ways λ_ _ _ _ _ _=>(of1 λ_=>rfl),
 a_House_go_by:=_,d_House_go_by:=_,House_go_by:=erM F.House_go_by λ_ _ _ _ _ _=>(of2 λ_ _=>rfl),
 a_House_offer:=_,d_House_offer:=_,House_offer:=erM F.House_offer λ_ _ _ _ _ _=>(of2 λ_ _=>rfl),
 a_House_letters:=_,d_House_letters:=_,House_letters:=erM F.House_letters λ_ _ _ _ _ _=>(of1 λ_=>rfl),
 a_House_move_to:=_,d_House_move_to:=_,House_move_to:=erM F.House_move_to λ_ _ _ _ _ _=>(of2 λ_ _=>rfl),
 a_House_forget:=_,d_House_forget:=_,House_forget:=erM F.House_forget λ_ _ _ _ _ _=>(of2 λ_ _=>rfl),
 a_at_place:=_,d_at_place:=_,at_place:=erA F.at_place X G λ_ _ _ _ _ _=>(of2 λ_ _=>rfl),
 a_Run___init__:=_,d_Run___init__:=_,Run___init__:=erM F.Run___init__ λ_ _ _ _ _ _=>(of2 λ_ _=>rfl),
 a_Run_road:=_,d_Run_road:=_,Run_road:=erM F.Run_road λ_ _ _ _ _ _=>(of1 λ_=>rfl),
 a_Run_choice:=_,d_Run_choice:=_,Run_choice:=erM F.Run_choice λ_ _ _ _ _ _=>(of1 λ_=>rfl),
 a_Run_changes:=_,d_Run_changes:=_,Run_changes:=erM F.Run_changes λ_ _ _ _ _ _=>(of1 λ_=>rfl),
 a_Run_town:=_,d_Run_town:=_,Run_town:=erM F.Run_town λ_ _ _ _ _ _=>(of1 λ_=>rfl),
 a_Run_was_heard:=_,d_Run_was_heard:=_,Run_was_heard:=erM F.Run_was_heard λ_ _ _ _ _ _=>(of2 λ_ _=>rfl),
 a_Run_come:=_,d_Run_come:=_,Run_come:=erM F.Run_come λ_ _ _ _ _ _=>(of2 λ_ _=>rfl),
 a_Run_is_still:=_,d_Run_is_still:=_,Run_is_still:=erM F.Run_is_still λ_ _ _ _ _ _=>(of1 λ_=>rfl),
 a_Run_change:=_,d_Run_change:=_,Run_change:=erM F.Run_change λ_ _ _ _ _ _=>(of2 λ_ _=>rfl),
 a_Run_part:=_,d_Run_part:=_,Run_part:=erM F.Run_part λ_ _ _ _ _ _=>(of2 λ_ _=>rfl),
 a__law_hand:=_,d__law_hand:=_,_law_hand:=erA F._law_hand X G λ_ _ _ _ _ _=>(of2 λ_ _=>rfl),
 a__law_all:=_,d__law_all:=_,_law_all:=erA F._law_all X G λ_ _ _ _ _ _=>(of1 λ_=>rfl),
 a__law_take:=_,d__law_take:=_,_law_take:=erA F._law_take X G λ_ _ _ _ _ _=>(of2 λ_ _=>rfl),
 a__law_pick:=_,d__law_pick:=_,_law_pick:=erA F._law_pick X G λ_ _ _ _ _ _=>(of2 λ_ _=>rfl),
 a__law_names:=_,d__law_names:=_,_law_names:=erA F._law_names X G λ_ _ _ _ _ _=>(of2 λ_ _=>rfl),
 a__law_cond:=_,d__law_cond:=_,_law_cond:=erA F._law_cond X G λ_ _ _ _ _ _=>(of4 λ_ _ _ _=>rfl),
 a__law_conds:=_,d__law_conds:=_,_law_conds:=erA F._law_conds X G λ_ _ _ _ _ _=>(of4 λ_ _ _ _=>rfl),
 a__law_likings:=_,d__law_likings:=_,_law_likings:=erA F._law_likings X G λ_ _ _ _ _ _=>(of3 λ_ _ _=>rfl),
 a__law_hands:=_,d__law_hands:=_,_law_hands:=erA F._law_hands X G λ_ _ _ _ _ _=>(of3 λ_ _ _=>rfl),
 a__law_ties:=_,d__law_ties:=_,_law_ties:=erA F._law_ties X G λ_ _ _ _ _ _=>(of3 λ_ _ _=>rfl),
 a__law_town:=_,d__law_town:=_,_law_town:=erA F._law_town X G λ_ _ _ _ _ _=>(of1 λ_=>rfl),
 a__law_odd:=_,d__law_odd:=_,_law_odd:=erA F._law_odd X G λ_ _ _ _ _ _=>(of2 λ_ _=>rfl),
 a__law_refused:=_,d__law_refused:=_,_law_refused:=erA F._law_refused X G λ_ _ _ _ _ _=>(of2 λ_ _=>rfl),
 a__law_told:=_,d__law_told:=_,_law_told:=erA F._law_told X G λ_ _ _ _ _ _=>(of1 λ_=>rfl),
 a_law:=_,d_law:=_,law:=erA F.law X G λ_ _ _ _ _ _=>(of1 λ_=>rfl),
 ValueError:=X2 X G F.z_ValueError,
 all:=X2 X G F.z_all,
 any:=X2 X G F.z_any,
 bool:=X2 X G F.z_bool,
 dict:=X2 X G F.z_dict,
 int:=X2 X G F.z_int,
 isinstance:=X2 X G F.z_isinstance,
 len:=X2 X G F.z_len,
 list:=X2 X G F.z_list,
 max:=X2 X G F.z_max,
 min:=X2 X G F.z_min,
 range:=X2 X G F.z_range,
 sorted:=X2 X G F.z_sorted,
 str:=X2 X G F.z_str,
 tuple:=X2 X G F.z_tuple}
end L2
open PySem PySem.W PyProof.Rows L2 L2
theorem PySem.Challenge.cw_restways_k46_deeds_refused_holds : PySem.Challenge.rw_restways_k46_deeds_refused.Holds := by
 refine topE λq loose XP YP d K hdf hd hY F=>walk_of (l:=PySem.Challenge.rw_restways_k46_deeds_refused) (n:=63) (k:=12) (x:="_law_script") (CX:=λ_=>CX0) (sp:=λw=>spLaw (K w.params)) rfl (by decide) hdf ⟨rfl,by decide,by decide,rfl⟩ hY (λw mg fa h X G e=>?_) (λ_ _ a ns hl _ hS=>⟨a,ns,rfl,hS,hl,λ_=>rfl⟩) λ_ _ _ _ _ z=>z
 have Y:=evOf (F w) X G
 rw[hd] at e
 cases e.symm.trans Y.law.mg
 refine⟨_,λs v=>?_,λbase _ _=>ok_law_of Y Y.law.fn⟩
 obtain⟨_,_,_,_,_,_,_,_,_,e,_⟩:=Y.law.fn.ex
 rw[e]
 exact .of_eq rfl
