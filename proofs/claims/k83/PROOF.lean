import PyProof.Rows.All
import Wide.All
import OpenK.AllK
import Wide.FinOn
import Lean
import PyProof.EqAt
import PyProof.EqKinds
import PyProof.TupleCall
import KE.KSortTup
import KE.KDictSum
import PyProof.Rows.SortStr
import PyProof.AutoSeq1
import PyProof.ZipIter
import PyProof.Rows.FStr
import PyProof.Rows.FStrParts
import PyProof.AttrMissHeap
import KE.KDictOf
import PyProof.StrCalls
import KE.KStrOpen
import KE.KRevIter
import PyProof.WalkInts
import KE.KDictList
import PyProof.Rows.SetFrom
import PyProof.SetRoads
import PyProof.DictCompW
import PyProof.DictItems
import KE.KPairComp
import KE.KEqDict
import PyProof.Rows.Range3
import PyProof.WalksMore
import PyProof.DictWalks
import KE.KMinKey
import PySem.SetTable
import PySem.SetOps
import KE.KSetDisp
import PyProof.StrCalls2
import PyProof.StrLawsTight
import PyProof.StrLawsChain
import PyProof.Rows.StrItems
import KE.KIntText
import KE.IntTextLaws
import KE.KUnpack
import PySem.Challenge.RW_restways_k83_read_again
abbrev A0:=@PySem.wpAny_bind
abbrev B0:=@List.length_map
abbrev C0:=@PySem.Heap.get?_push_of_some
abbrev D0:=@decide_eq_true
abbrev F0:=@PySem.wpAny_pure
abbrev G0:=@decide_eq_false
abbrev I0:=@List.mem_cons
abbrev K0:=@Nat.le_refl
abbrev L0:=@List.mem_of_getElem?
abbrev M0:=@PySem.Heap.get?_push_size
abbrev N0:=@List.mem_cons_of_mem
abbrev O0:=@List.length_append
abbrev P0:=@PySem.Heap.lt_size
abbrev Q0:=@List.mem_cons_self
abbrev R0:=@Bool.and_eq_true
abbrev S0:=@List.mem_append_right
abbrev T0:=@List.all_eq_true
abbrev U0:=@List.map_append
abbrev V0:=@if_neg
abbrev W0:=@List.getElem?_map
abbrev X0:=@List.getElem?_eq_none
abbrev Y0:=@Bool.false_ne_true
abbrev Z0:=@List.length_cons
abbrev b0:=@List.size_toArray
abbrev l0:=@List.getElem?_eq_getElem
abbrev p0:=@if_pos
abbrev A1:=@Option.some.inj
abbrev B1:=@of_decide_eq_true
abbrev C1:=@Nat.lt_of_lt_of_le
abbrev E1:=@List.mem_singleton
abbrev F1:=@Nat.le_trans
abbrev G1:=@List.mem_append
abbrev J1:=@List.map_cons
abbrev K1:=@List.length_take
abbrev N1:=@List.take_add_one
abbrev O1:=@List.append_nil
abbrev R1:=@Nat.ne_of_lt
abbrev T1:=@List.mem_map
abbrev U1:=@List.not_mem_nil
abbrev V1:=@List.append_assoc
abbrev W1:=@PySem.W.mg_none_of
abbrev X1:=@Nat.zero_le
abbrev Y1:=@PySem.wpAny_mono
abbrev Z1:=@Nat.lt_irrefl
abbrev A2:=@Nat.lt_or_ge
abbrev B2:=@List.take_length
abbrev C2:=@List.mem_range
abbrev E2:=@List.getElem?_append_right
abbrev F2:=@List.lookup_cons
abbrev G2:=@Bool.false_eq_true
abbrev K2:=@List.getElem?_append_left
abbrev O2:=@PySem.F.plainAttrs_str
abbrev Q2:=@Int.toNat_natCast
abbrev U2:=@PySem.PassesOwn.never
set_option Elab.async false
set_option linter.all false
set_option maxRecDepth 100000
theorem u3(h:True:=by rfl):True:=h
def y3:Lean.Syntax:=u3._auto_1
theorem u4(h:True:=by decide):True:=h
def w4:Lean.Syntax:=u4._auto_1
theorem y4(h:True:=by intro _;rfl):True:=h
def u5:Lean.Syntax:=y4._auto_1
theorem v5(h:True:=by first|exact .inl rfl|exact .inr rfl|assumption):True:=h
def r6:Lean.Syntax:=v5._auto_1
theorem t6(h:True:=by with_unfolding_all rfl):True:=h
def u6:Lean.Syntax:=t6._auto_1
theorem v6(h:True:=by intro _ _;rfl):True:=h
def w6:Lean.Syntax:=v6._auto_1
local macro_rules | `(())=> `(by lia)
local macro_rules | `(⋯)=> `(by decide)
set_option hygiene false in
local macro_rules
|`(`Z2)=>`(by simp)
|`(`Y2)=>`(by decide +kernel)
|`(`X2)=>`(λcdv A outer s H vs Q E hr h=>?_)
|`(`V2)=>`(⟨rfl,rfl,rfl,`Y2,rfl,`Y2,`Y2⟩)
|`(`n3)=>`(hr.mono ⋯)
|`(`j3)=>`(zx X N' scope cl C s3 (upd H2 l (.lst [])) fp)
namespace L2
open PySem PySem.Spec PyProof.Rows
variable{α β γ κ:Type}{p a it l f dx C fa z i1 i2 l1 l2 I S:Addr}{an:Option Value}{us its ks its':List Value}{x y qual sep:Str}{u doc pm cdv oc acc:Value}{h h' h₁:Heap}{P:Program}{e tg iter value elt t1 t2 tg2 iter2 kx vx:Expr}{pins:List (Addr×Obj)}{s s':Shared}{g':Array GenState}{t' i j c k n ep n1 n2:Nat}{d':Drawn}{M:Model}{E Q:Value->Shared->Prop}{pos pos' px py tpos apos cpos spos p3 pos2:Pos}{rest es ifs elts f1 f2 ifs2:List Expr}{op op':CmpOp}{lo:Int}{tk:Tok}{fp wr as:List Addr}{body sts:List Stmt}{mA:Str->Option Value}{fd:FuncData}{ps:List (Str×Str)}{kws:List Keyword}{scope osc:Scope}{od:Option Addr}{osl:Array (Option Value)}{T:String}{items items2:Array Value}{hi:Option Expr}{q:Str×Str}{loose N' O tw:List Str}{XP:(Str->Option Value)->Heap->Prop}{YP:World->Heap->Prop}{R:Result->Shared->Prop}{G:Array Nat->Prop}{OK:Heap->Prop}{Y:Prop}{P1 P2:Nat->Value->Prop}{S1 S2:Nat->Heap->Prop}{kw:List (Str×Value)}
noncomputable def zbP(s:Stmt):Arguments:=match s with
 | .FunctionDef _ a _ _ _ _ _ _ _ _=>a
 |_=>{posonlyargs:=[],args:=[],vararg:=none,kwonlyargs:=[],kw_defaults:=[],kwarg:=none,defaults:=[]}
noncomputable def zbg(s:Stmt):List Stmt:=match s with
 | .FunctionDef _ _ b _ _ _ _ _ _ _=>b
 |_=> []
noncomputable def zc(s:Stmt):Scope:=match s with
 | .FunctionDef _ _ _ _ _ _ sc _ _ _=>sc
 |_=>{kind:= .function,names:=[],isGenerator:=false,isCoroutine:=false}
section
open PySem.W
noncomputable def zqr(tb:String->Option Builtin)(p:Program)(w:World)(n₀:Nat)(ann:Option Value):Nat->SharedT->Thread->Option SharedT
 |0,_,_=>none
 |n+1,s,t=>match through t with
  |true=>some s
  |false=>match stepOk n₀ ann t with
   |false=>none
   |true=>match stepT (denote tb) p w s t with
    |some (s',t')=>zqr tb p w n₀ ann n s' t'
    |none=>none
theorem zpi{tb:String->Option Builtin}{p:Program}{w:World}{n₀:Nat}{ann:Option Value}:∀{n:Nat} {s s':SharedT} {t:Thread},zqr tb p w n₀ ann n s t=some s'->topRun tb p w n₀ ann n s.abs t=some s'.abs
 |0,_,_,_,h=>by cases h
 |n+1,s,s',t,h=>by
  unfold zqr at h
  unfold topRun
  cases ht:through t with
  |true=>rw[ht] at h;cases h;rfl
  |false=>
   rw[ht] at h
   cases hk:stepOk n₀ ann t with
   |false=>rw[hk] at h;cases h
   |true=>
    rw[hk] at h
    cases hs:stepT (denote tb) p w s t with
    |none=>rw[hs] at h;cases h
    |some r=>obtain ⟨s₂,t₂⟩:=r;rw[hs] at h;rw[stepT_spec hs];exact zpi h
noncomputable def zmT:List Obj->BT->Nat->Option BT
 |[],t,_=>some t
 |o::l,t,n=>match ((t.ins n o).get n).isSome with
  |true=>zmT l (t.ins n o) (n+1)
  |false=>none
theorem ziR{life:Life}:∀{l:List Obj} {t T:BT} {n:Nat},zmT l t n=some T->absHeap T (n+l.length) life=⟨(absHeap t n life).objs ++l.toArray,life⟩
 |[],t,T,n,h=>by cases h;simp[absHeap]
 |o::l,t,T,n,h=>by
  unfold zmT at h
  cases e:((t.ins n o).get n).isSome with
  |false=>rw[e] at h;cases h
  |true=>
   rw[e] at h
   have:=ziR (life:=life) h
   rw[Z0,show n+(l.length+1)=n+1+l.length by lia,this,absHeap_ins e]
   show Heap.mk _ _=Heap.mk _ _
   congr 1
   show(absHeap t n life).objs.push o ++_=_
   apply Array.ext'
   simp
noncomputable def zkQ{α:Type}(T:BT):Nat->List Obj->(List Obj->α)->α
 |0,acc,k=>k acc
 |n+1,acc,k=>match T.get n with
  |some o=>zkQ T n (o::acc) k
  |none=>zkQ T n (default::acc) k
theorem zg9{α:Type}{T:BT}{k:List Obj->α}:∀{n:Nat} {acc:List Obj},zkQ T n acc k=k (T.list n ++acc)
 |0,acc=>rfl
 |n+1,acc=>by
  have:T.list (n+1)++acc=T.list n ++((T.get n).getD default::acc):=by
   unfold BT.list
   rw[List.range_succ,U0,V1];rfl
  rw[this]
  unfold zkQ
  cases e:T.get n with
  |none=>exact zg9
  |some o=>exact zg9
noncomputable def zsz(g:Shared->α)(s:SharedT):α:=zkQ s.tree s.n [] λL=>g ⟨⟨⟨L⟩,s.life⟩,s.gens,s.drawn,s.toks,s.os⟩
theorem zfy{g:Shared->α}{s:SharedT}:zsz g s=g s.abs:=by
 unfold zsz
 rw[zg9,O1]
 rfl
noncomputable def look  (p:Program) (w:World) (os:OsState) (m:Nat) (an:Option Value) (N:Nat) (g:Shared->α):Option α:=
 (zmT (boot_heap w.params).objs.toList .nil 0).bind λT=>(zqr treeTable p w m an N ⟨T,m,(boot_heap w.params).life, #[],boot_drawn,boot_toks,os⟩ (topStub p)).map (zsz g)
theorem look_ends{p:Program}{N m:Nat}{g:Shared->α}{w:World}{a:α}
 (op:opening p=plainProg p.main.scope.names) (hN:Nat.ble 600 N=true) (f:∀s,fenceModules? p s=some s)
 (size:((boot_heap w.params).isNs mainGlobals,(boot_heap w.params).objs.size,(boot_heap w.params).nsMap mainGlobals "__annotations__")=(true,m,an))
 (st:∀os,look p w os m an N (λs=>staticsOk (importedModules p.main.body) (boot_heap w.params) s.heap&&namesBound p s.heap&&gensDone s&&laidKept (boot_heap w.params) s.heap)=some true)
 (h:∀os,look p w os m an N g=some a):(openEnds treeTable p w N).map g=some a:=by
 obtain⟨⟨hh,gs,d,k,os⟩,e,e'⟩:=Option.map_eq_some_iff.mp (boot_open op hN f w)
 obtain⟨rfl,rfl,rfl,rfl⟩:hh=boot_heap w.params/\gs=Array.mk []/\d=boot_drawn/\k=boot_toks:=by simpa using e'
 obtain⟨z1,z2,z3⟩:_/\_/\_:=by simpa only[Prod.mk.injEq] using size
 have hs:=st os
 have hl:=h os
 unfold look at hs hl
 obtain⟨T,b,hs⟩:=Option.bind_eq_some_iff.mp hs
 rw[b] at hl
 replace hl:Option.map _ _=_:=hl
 obtain⟨s,r,hs⟩:=Option.map_eq_some_iff.mp hs
 rw[r] at hl
 rw[zfy] at hs
 have hl:g s.abs=a:=by simpa[zfy] using hl
 have ab:=ziR (life:=(boot_heap w.params).life) b
 have r:=zpi r
 have l:(boot_heap w.params).objs.toList.length=m:=by rw[Array.length_toList,z2]
 have ea:SharedT.abs ⟨T,m,(boot_heap w.params).life, #[],boot_drawn,boot_toks,os⟩=⟨boot_heap w.params, #[],boot_drawn,boot_toks,os⟩:=by
  unfold SharedT.abs
  dsimp only
  rw[Nat.zero_add,l] at ab
  rw[ab]
  have:(absHeap .nil 0 (boot_heap w.params).life).objs ++(boot_heap w.params).objs.toList.toArray=(boot_heap w.params).objs:=by
   apply Array.ext'
   simp[absHeap,BT.list]
  rw[this]
 rw[ea] at r
 have t:topFrom treeTable p w N ⟨boot_heap w.params,Array.mk [],boot_drawn,boot_toks,os⟩=some s.abs:=by
  unfold topFrom
  dsimp only
  rw[z1,z2,z3,r]
  show(match staticsOk (importedModules p.main.body) (boot_heap w.params) s.abs.heap&&namesBound p s.abs.heap&&gensDone s.abs&&laidKept (boot_heap w.params) s.abs.heap with|true=>_|false=>_)=_
  rw[hs]
 unfold openEnds
 rw[e]
 show(topFrom treeTable p w N _).map _=_
 rw[t]
 exact congrArg some hl
theorem vw_sz(w:World):((boot_heap w.params).isNs mainGlobals,(boot_heap w.params).objs.size,(boot_heap w.params).nsMap mainGlobals "__annotations__")=(true,11,some (.ref 6)):=by kernel_rfl
theorem map_two{o:Option α}{f:α->β}{g:α->γ}{a:β}{b:γ}(h:o.map f=some a)(k:o.map g=some b):o.map (λs=>(f s,g s))=some (a,b):=by
 cases o with
 |none=>cases h
 |some x=>cases h;cases k;rfl
theorem look_pair{p:Program}{w:World}{os:OsState}{m N:Nat}{g:Shared->α}{g':Shared->β}{a:α}{b:β}(h:look p w os m an N (λs=>(g s,g' s))=some (a,b)):look p w os m an N g=some a/\look p w os m an N g'=some b:=by
 unfold look at h⊢
 obtain⟨T,e,h⟩:=Option.bind_eq_some_iff.mp h
 rw[e]
 show(Option.map _ _=_)/\(Option.map _ _=_)
 obtain⟨s,r,h⟩:=Option.map_eq_some_iff.mp h
 rw[r]
 rw[zfy] at h
 cases h
 exact⟨congrArg some zfy,congrArg some zfy⟩
end
set_option genInjectivity false in
set_option genSizeOfSpec false in
set_option genSizeOf false in
structure Er(K:W.Frag)(x:Str)(st:Stmt):Type where
 {f9:Addr} {oc9:Value} {od9 an9:Option Addr} {sl9:Array (Option Value)} {kV9 dc9 pm9 cd9 ct9:Value}
 a9:W.nsIn K mainGlobals x=some (some (.ref f9))
 l9:K.lookup f9=some ⟨oc9,od9, .func (W.fnOf x x (zbP st) (zbg st) (zc st) .none kV9 dc9 pm9 an9 cd9 ct9),sl9⟩
 c9:W.codeIn K cd9 x=true
 k9:W.keepIn K (.ref f9)=true
set_option genInjectivity false in
set_option genSizeOfSpec false in
set_option genSizeOf false in
structure ErD(K:W.Frag)(x:Str)(st:Stmt):Type where
 {f9:Addr} {oc9:Value} {od9 an9:Option Addr} {sl9:Array (Option Value)} {kV9 dc9 pm9 cd9 ct9:Value} {dt9:Addr} {odd9:Option Addr} {nd9:Nat} {sld9:Array (Option Value)}
 a9:W.nsIn K mainGlobals x=some (some (.ref f9))
 l9:K.lookup f9=some ⟨oc9,od9, .func (W.fnOf x x (zbP st) (zbg st) (zc st) (.ref dt9) kV9 dc9 pm9 an9 cd9 ct9),sl9⟩
 c9:W.codeIn K cd9 x=true
 k9:W.keepIn K (.ref f9)=true
 d9:K.lookup dt9=some ⟨.type "tuple",odd9, .seq #[.none] nd9,sld9⟩
set_option genInjectivity false in
set_option genSizeOfSpec false in
set_option genSizeOf false in
structure Em(K:W.Frag)(C:Addr)(x q:Str)(st:Stmt):Type where
 {f9:Addr} {oc9:Value} {od9 an9:Option Addr} {sl9:Array (Option Value)} {kV9 dc9 pm9 cd9 ct9:Value}
 a9:W.findIn K (.ref C) x=some (some (.ref f9))
 i9:W.isFn K (.ref f9)=true
 l9:K.lookup f9=some ⟨oc9,od9, .func (W.fnOf x q (zbP st) (zbg st) (zc st) .none kV9 dc9 pm9 an9 cd9 ct9),sl9⟩
 c9:W.codeIn K cd9 q=true
 k9:W.keepIn K (.ref f9)=true
set_option genInjectivity false in
set_option genSizeOfSpec false in
set_option genSizeOf false in
structure Ec(K:W.Frag)(x:Str)(C:Addr):Prop where
 a9:W.nsIn K mainGlobals x=some (some (.ref C))
 pg9:W.plainGet K C Str.empty=true
 hd9:W.hasDictIn K C=true
 po9:W.plainOver K C=true
 sa9:W.findIn K (.ref C) "__setattr__"=some (some (.builtin "object.__setattr__"))
 ms9:W.makesIn K C=true
 kc9:W.keepIn K (.ref C)=true
set_option genInjectivity false in
set_option genSizeOfSpec false in
set_option genSizeOf false in
structure En(K:W.Frag)(x:Str):Type where
 {f9 e9:Addr} {od9 oe9:Option Addr} {sl9 se9:Array (Option Value)} {n9 ne9:Nat} {tk9:Tok}
 a9:W.nsIn K mainGlobals x=some (some (.ref f9))
 l9:K.lookup f9=some ⟨.type "tuple",od9, .seq #[.int 0 tk9, .none, .ref e9] n9,sl9⟩
 d9:K.lookup e9=some ⟨.type "tuple",oe9, .seq #[] ne9,se9⟩
set_option genInjectivity false in
set_option genSizeOfSpec false in
set_option genSizeOf false in
structure Ei(K:W.Frag)(x:Str)(v:Int):Type where
 {tk9:Tok}
 a9:W.nsIn K mainGlobals x=some (some (.int v tk9))
set_option genInjectivity false in
set_option genSizeOfSpec false in
set_option genSizeOf false in
structure ExCls(K:W.Frag)(C:Addr):Prop where
 ga9:W.findIn K (.ref C) "__getattribute__"=some (some (.builtin "BaseException.__getattribute__"))
 gh9:W.findIn K (.ref C) "__getattr__"=some none
 fc9:W.findIn K (.ref C) "__class__"=some (some (.builtin "object.__class__"))
 sp9:W.specialIn K (.builtin "object.__class__") "__get__"=some (some (.builtin "getset_descriptor.__get__"))
 tk9:W.takesIn K (.builtin "object.__class__")=some true
 mo9:W.mroIn K C (.type "object")=some true
 mb9:W.mroIn K C (.type "BaseException")=some true
 cl9:∃c d cd sl,K.lookup C=some ⟨c,d, .cls cd,sl⟩
set_option genInjectivity false in
set_option genSizeOfSpec false in
set_option genSizeOf false in
structure Exn(K:W.Frag)(x:Str)(C:Addr):Prop where
 a9:W.nsIn K mainGlobals x=some (some (.ref C))
inductive TxV:List Str->List Value->Prop
 |nil:TxV [] []
 |cons {x:Str} {t:Tok} {xs:List Str} {vs:List Value} (h:TxV xs vs):TxV (x::xs) (.str x t::vs)
set_option genInjectivity false in
set_option genSizeOfSpec false in
set_option genSizeOf false in
structure Et(K:W.Frag)(x:Str)(xs:List Str):Type where
 {f9:Addr} {sl9:Array (Option Value)} {n9:Nat} {us9:Array Value}
 a9:W.nsIn K mainGlobals x=some (some (.ref f9))
 l9:K.lookup f9=some ⟨.type "tuple",none, .seq us9 n9,sl9⟩
 d9:TxV xs us9.toList
set_option maxHeartbeats 4000000
theorem hidZ{G:Prop}(k:∀γ:Prop,(G->γ)->γ):G:=k G id
local macro_rules | `(tactic|obtain $p:rcasesPatMed:= $e:term)=>do
 if ((p.raw.reprint.getD "").splitOn ",").length≥3 then `(tactic|first|(refine hidZ λγ hγ=>?_;rcases $e:term with $p<;>(refine hγ ?_;clear hγ γ))|rcases $e:term with $p)else `(tactic|rcases $e:term with $p)
noncomputable def top(i:Nat):Stmt:=Challenge.pw_restways_k83_read_again.main.body.getD i (.Pass ⟨0,0,0,0⟩)
noncomputable abbrev zeD:Stmt:=top 6
noncomputable abbrev zdU:Stmt:=top 8
noncomputable abbrev ze9:Stmt:=top 9
noncomputable abbrev zhv:Stmt:=top 10
noncomputable abbrev zcY:Stmt:=top 11
noncomputable abbrev zeb:Stmt:=top 17
noncomputable abbrev zb6:Stmt:=top 18
noncomputable abbrev zgf:Stmt:=top 19
noncomputable abbrev zcU:Stmt:=top 20
noncomputable abbrev zf6:Stmt:=top 21
noncomputable abbrev ze6:Stmt:=top 22
noncomputable abbrev zc1:Stmt:=top 23
noncomputable abbrev zhH:Stmt:=top 24
noncomputable abbrev zf9:Stmt:=top 25
noncomputable abbrev zcm:Stmt:=top 29
noncomputable abbrev zfi:Stmt:=top 30
noncomputable abbrev zhG:Stmt:=top 31
noncomputable abbrev zdM:Stmt:=top 32
noncomputable abbrev zbQ:Stmt:=top 33
noncomputable abbrev zcS:Stmt:=top 34
noncomputable abbrev zdj:Stmt:=top 35
noncomputable abbrev zck:Stmt:=top 38
noncomputable abbrev zcH:Stmt:=top 39
noncomputable abbrev zg5:Stmt:=top 40
noncomputable abbrev zcb:Stmt:=top 41
noncomputable abbrev zf4:Stmt:=top 42
noncomputable abbrev zdD:Stmt:=top 43
noncomputable abbrev zd0:Stmt:=top 44
noncomputable abbrev zgk:Stmt:=top 45
noncomputable abbrev zgj:Stmt:=top 46
noncomputable abbrev zhA:Stmt:=top 49
noncomputable abbrev zf8:Stmt:=top 50
noncomputable abbrev zdN:Stmt:=top 51
noncomputable abbrev zb0:Stmt:=top 52
noncomputable abbrev zef:Stmt:=top 54
noncomputable abbrev zc2:Stmt:=top 55
noncomputable abbrev zdw:Stmt:=top 56
noncomputable abbrev zbp:Stmt:=top 57
noncomputable abbrev zeo:Stmt:=top 59
noncomputable abbrev zej:Stmt:=top 60
noncomputable abbrev zdT:Stmt:=top 61
noncomputable abbrev zcg:Stmt:=top 62
noncomputable abbrev zel:Stmt:=top 63
noncomputable abbrev zco:Stmt:=top 64
noncomputable abbrev zcF:Stmt:=top 65
noncomputable abbrev zdr:Stmt:=top 66
noncomputable abbrev zea:Stmt:=top 67
noncomputable abbrev zb4:Stmt:=top 68
noncomputable abbrev zbL:Stmt:=top 69
noncomputable abbrev zbI:Stmt:=top 70
noncomputable abbrev zd1:Stmt:=top 71
noncomputable abbrev zcR:Stmt:=top 72
noncomputable abbrev zmR:Stmt:=top 73
noncomputable def vw:Program:={Challenge.pw_restways_k83_read_again with main:={Challenge.pw_restways_k83_read_again.main with body:=([1,2,4,5,6,8,9,10,11,13,14,15,16,17,18,19,20,21,22,23,24,25,27,28,29,30,31,32,33,34,35,37,38,39,40,41,42,43,44,45,46,48,49,50,51,52,54,55,56,57,59,60,61,62,63,64,65,66,67,68,69,70,71,72,73]:List Nat).filterMap λi=>Challenge.pw_restways_k83_read_again.main.body[i]?}}
set_option maxHeartbeats 0 in
theorem zoO(w:World)(os:OsState):look Challenge.pw_restways_k83_read_again w os 11 (some (.ref 6)) 4472 (λs=>(W.staticsOk (PySem.importedModules Challenge.pw_restways_k83_read_again.main.body) (W.boot_heap w.params) s.heap&&W.namesBound Challenge.pw_restways_k83_read_again s.heap&&W.gensDone s&&W.laidKept (W.boot_heap w.params) s.heap,(λs=>W.openSeen vw [] (PySem.importedModules Challenge.pw_restways_k83_read_again.main.body) (λz=>W.xlAt vw [] z&&W.recOk [] z) true s) s))=some (true,W.openGood vw []):=by kernel_rfl
theorem ztj(w:World)(os:OsState):look Challenge.pw_restways_k83_read_again w os 11 (some (.ref 6)) 4472 (λs=>W.staticsOk (PySem.importedModules Challenge.pw_restways_k83_read_again.main.body) (W.boot_heap w.params) s.heap&&W.namesBound Challenge.pw_restways_k83_read_again s.heap&&W.gensDone s&&W.laidKept (W.boot_heap w.params) s.heap)=some true:=(look_pair (zoO w os)).1
theorem zth(w:World)(os:OsState):look Challenge.pw_restways_k83_read_again w os 11 (some (.ref 6)) 4472 (λs=>W.openSeen vw [] (PySem.importedModules Challenge.pw_restways_k83_read_again.main.body) (λz=>W.xlAt vw [] z&&W.recOk [] z) true s)=some (W.openGood vw []):=(look_pair (zoO w os)).2
theorem ztd:W.opening Challenge.pw_restways_k83_read_again=W.plainProg Challenge.pw_restways_k83_read_again.main.scope.names:=by kernel_rfl
theorem ztM(s:Shared):fenceModules? Challenge.pw_restways_k83_read_again s=some s:=by kernel_rfl
theorem vw_any{g:Shared->α}{w:World}{a:α}(h:∀os,look Challenge.pw_restways_k83_read_again w os 11 (some (.ref 6)) 4472 g=some a):(W.openEnds treeTable Challenge.pw_restways_k83_read_again w 4472).map g=some a:=look_ends ztd ⋯ ztM (vw_sz w) (λos=>ztj w os) h
theorem vw_one(w:World):(W.openEnds treeTable Challenge.pw_restways_k83_read_again w 4472).map (λs=>W.openSeen vw [] (PySem.importedModules Challenge.pw_restways_k83_read_again.main.body) (λz=>W.xlAt vw [] z&&W.recOk [] z) true s)=some (W.openGood vw []):=vw_any λos=>zth w os
set_option maxHeartbeats 0 in
theorem vw_ws:W.OpenLaw.wellSaid Challenge.rw_restways_k83_read_again=true:=by
 unfold W.OpenLaw.wellSaid W.OpenRow.wellSaid W.OpenRow.partSaid W.looksOpen
 repeat' with_reducible refine W.look_both ?_ ?_
 all_goals decide +kernel
set_option genInjectivity false in
set_option genSizeOfSpec false in
set_option genSizeOf false in
structure Fk(K:W.Frag):Type where
 is_name:Er K "is_name" zeD
 is_number:Er K "is_number" zdU
 is_whole:Er K "is_whole" ze9
 is_row:Er K "is_row" zhv
 is_rising:Er K "is_rising" zcY
 is_worded:Er K "is_worded" zeb
 is_plain_cond:Er K "is_plain_cond" zb6
 is_cond:Er K "is_cond" zgf
 are_conds:Er K "are_conds" zcU
 asks_to:Er K "asks_to" zf6
 is_worth:Er K "is_worth" ze6
 is_liking:Er K "is_liking" zc1
 is_act:Er K "is_act" zhH
 is_hand:Er K "is_hand" zf9
 are_houses:Er K "are_houses" zcm
 is_house:Er K "is_house" zfi
 is_tie:Er K "is_tie" zhG
 are_ties:Er K "are_ties" zdM
 are_likings:Er K "are_likings" zbQ
 are_hands:Er K "are_hands" zcS
 is_town:Er K "is_town" zdj
 is_figures:Er K "is_figures" zck
 all_names:Er K "all_names" zcH
 parted:Er K "parted" zg5
 plain_cond_in:Er K "plain_cond_in" zcb
 cond_in:Er K "cond_in" zf4
 conds_in:Er K "conds_in" zdD
 worths_in:Er K "worths_in" zd0
 acts_in:Er K "acts_in" zgk
 rule_in:Er K "rule_in" zgj
 row_in:Er K "row_in" zhA
 rows_in:Er K "rows_in" zf8
 rules_in:Er K "rules_in" zdN
 read_town:Er K "read_town" zb0
 show_cond:Er K "show_cond" zef
 show_rule:Er K "show_rule" zc2
 show_worth:Er K "show_worth" zdw
 show_town:Er K "show_town" zbp
 _law_hand:Er K "_law_hand" zeo
 _law_take:Er K "_law_take" zej
 _law_pick:Er K "_law_pick" zdT
 _law_names:Er K "_law_names" zcg
 _law_cond:Er K "_law_cond" zel
 _law_conds:Er K "_law_conds" zco
 _law_likings:Er K "_law_likings" zcF
 _law_hands:Er K "_law_hands" zdr
 _law_ties:Er K "_law_ties" zea
 _law_town:Er K "_law_town" zb4
 _law_cond_text:Er K "_law_cond_text" zbL
 _law_rule_text:Er K "_law_rule_text" zbI
 _law_rows:Er K "_law_rows" zd1
 _law_same:Er K "_law_same" zcR
 law:Er K "law" zmR
 LONGEST:Ei K "LONGEST" 8
 MOST_CONDS:Ei K "MOST_CONDS" 4
 LONGEST_ASKED:Ei K "LONGEST_ASKED" 99
 GREATEST_WORTH:Ei K "GREATEST_WORTH" 999
 MOST_HOUSES:Ei K "MOST_HOUSES" 10
 MOST_RULES:Ei K "MOST_RULES" 90
 MOST_FIGURES:Ei K "MOST_FIGURES" 3
 TAKEN:Et K "TAKEN" ["if","and","not","never"]
 NAMING:Et K "NAMING" ["by","from","to","mark"]
 KINDS:Et K "KINDS" ["tie","like","hand"]
 z_all:W.nsIn K mainGlobals "all"=some none
 z_any:W.nsIn K mainGlobals "any"=some none
 z_bool:W.nsIn K mainGlobals "bool"=some none
 z_enumerate:W.nsIn K mainGlobals "enumerate"=some none
 z_int:W.nsIn K mainGlobals "int"=some none
 z_isinstance:W.nsIn K mainGlobals "isinstance"=some none
 z_len:W.nsIn K mainGlobals "len"=some none
 z_list:W.nsIn K mainGlobals "list"=some none
 z_max:W.nsIn K mainGlobals "max"=some none
 z_min:W.nsIn K mainGlobals "min"=some none
 z_range:W.nsIn K mainGlobals "range"=some none
 z_sorted:W.nsIn K mainGlobals "sorted"=some none
 z_str:W.nsIn K mainGlobals "str"=some none
 z_tuple:W.nsIn K mainGlobals "tuple"=some none
 z_zip:W.nsIn K mainGlobals "zip"=some none
section
open PySem PySem.W PyProof.Rows
local macro_rules | `(tactic|o_head $H)=> `(tactic|(
 refine holds_open (N:=4472) (q:=vw) (loose:=[]) (YP:=Hook.says $H) (Ya:=Hook.val $H) (Yf:=Hook.obs $H) (XP:=XL vw [])
  (Xt:=λz=>xlAt vw [] z&&recOk [] z) (λw=>map_two (vw_one w) (vw_any (λos=>by kernel_rfl))) (Hook.of $H) (Hook.keeps $H) (λz e=>xl_of z (Bool.and_eq_true_iff.mp e).1) XL.keeps
  (by rfl) (by rfl) (by rfl) (λz e=>recFacts_of (Bool.and_eq_true_iff.mp e).2) (by rfl) (by first|assumption|decide +kernel) `Y2
  ⟨rfl,rfl,rfl,rfl,rfl,`Y2⟩ ?hw ?hc))
set_option maxRecDepth 100000 in
set_option maxHeartbeats 0 in
theorem topE(HW:∀(q:PySem.Program) (loose:List PySem.Str) (XP:(PySem.Str->Option PySem.Value)->PySem.Heap->Prop) (YP:PySem.World->PySem.Heap->Prop) (d:DefRec) (K:PySem.Params->W.Frag),d.params.defaults=[]->d.name="law"->(∀w h,YP w h->(K w.params).In h)->(∀w:PySem.World,Fk (K w.params))->W.WalkO q loose XP YP Challenge.rw_restways_k83_read_again.row.toRowW d [] (λf vs=>PySem.call f vs)):Challenge.rw_restways_k83_read_again.Holds:=by
 w_on;refine W.holds_law vw_ws λsaid=>?_
 k_head
 (case hw=>w_witness2)
 k_fill
 refine HW _ _ _ _ _ _ rfl rfl (λw h Y=>W.kIn_of Y) ?F
 case F=>
  intro w
  refine' Fk.mk ?_ ?_ ?_ ?_ ?_ ?_ ?_ ?_ ?_ ?_ ?_ ?_ ?_ ?_ ?_ ?_ ?_ ?_ ?_ ?_ ?_ ?_ ?_ ?_ ?_ ?_ ?_ ?_ ?_ ?_ ?_ ?_ ?_ ?_ ?_ ?_ ?_ ?_ ?_ ?_ ?_ ?_ ?_ ?_ ?_ ?_ ?_ ?_ ?_ ?_ ?_ ?_ ?_ ?_ ?_ ?_ ?_ ?_ ?_ ?_ ?_ ?_ ?_ ?_ ?_ ?_ ?_ ?_ ?_ ?_ ?_ ?_ ?_ ?_ ?_ ?_ ?_ ?_
  all_goals first
   |k_is
   |(refine' Er.mk ?a ?l ?c ?k
     (case a=>k_is)
     (case l=>k_is)
     (case c=>k_is)
     (case k=>k_is))
   |(refine' Em.mk ?a ?i ?l ?c ?k
     (case a=>k_is)
     (case i=>k_is)
     (case l=>k_is)
     (case c=>k_is)
     (case k=>k_is))
   |(refine' Ei.mk ?a
     (case a=>k_is))
   |(refine' Et.mk ?a ?l ?d
     (case a=>k_is)
     (case l=>k_is)
     (case d=>repeat' (first|exact .nil|refine .cons ?_)))
end
noncomputable abbrev Key:=Sum Int Str
noncomputable def ziP:Key->Value->Bool
 | .inl k,v=>Value.isInt k v
 | .inr x,v=>Value.isStrOf x v
noncomputable def zuk(w:World):Key->Int
 | .inl k=>hashInt k
 | .inr x=>hashStr w x
theorem zax:∀{k:Key} {v:Value},ziP k v=true->(∃i t,k=Sum.inl i/\v=Value.int i t)\/(∃x t,k=Sum.inr x/\v=Value.str x t)
 | .inl i,v,h=>by
   obtain⟨t,e⟩:=Value.isInt_shape (k:=i) (v:=v) h
   exact .inl ⟨i,t,rfl,e⟩
 | .inr x,v,h=>by
   obtain⟨t,e⟩:=Value.isStrOf_shape (x:=x) (v:=v) h
   exact .inr ⟨x,t,rfl,e⟩
theorem znU(i:Int)(t:Tok):ziP (.inl i) (.int i t)=true:=by simp[ziP,Value.isInt]
theorem znK(x:Str)(t:Tok):ziP (.inr x) (.str x t)=true:=by simp[ziP,Value.isStrOf]
theorem zsM(a b:Int):decide ((Sum.inl a:Key)=Sum.inl b)=(a==b):=by
 by_cases e:a=b
 ·subst e;simp
 ·have h:¬(Sum.inl a:Key)=Sum.inl b:=λq=>e (Sum.inl.inj q)
  rw[G0 h]
  exact(beq_eq_false_iff_ne.mpr e).symm
theorem zr7(a b:Str):decide ((Sum.inr a:Key)=Sum.inr b)=decide (a=b):=by
 by_cases e:a=b
 ·subst e;simp
 ·have h:¬(Sum.inr a:Key)=Sum.inr b:=λq=>e (Sum.inr.inj q)
  rw[G0 h,G0 e]
theorem zs5(a:Int)(b:Str):decide ((Sum.inl a:Key)=Sum.inr b)=false:=G0 (λq=>nomatch q)
theorem zsU(a:Str)(b:Int):decide ((Sum.inr a:Key)=Sum.inl b)=false:=G0 (λq=>nomatch q)
noncomputable def zaU(prog:Program)(w:World):PySem.KeyKind prog w Key where
 is:=ziP
 hash:=zuk w
 inj:=λv a b ha hb=>by
  rcases zax ha with⟨i,t,rfl,rfl⟩|⟨x,t,rfl,rfl⟩
  ·rcases zax hb with⟨j,u,rfl,e⟩|⟨y,u,rfl,e⟩
   ·injection e with e1 _;rw[e1]
   ·exact nomatch e
  ·rcases zax hb with⟨j,u,rfl,e⟩|⟨y,u,rfl,e⟩
   ·exact nomatch e
   ·injection e with e1 _;rw[e1]
 byValue:=λk v h=>by
   rcases zax h with⟨i,t,rfl,rfl⟩|⟨x,t,rfl,rfl⟩<;>rfl
 pyHash:=λhv h=>by
  rcases zax hv with⟨i,t,rfl,rfl⟩|⟨x,t,rfl,rfl⟩
  ·exact wpAny_pyHash_int h
  ·exact wpAny_pyHash_str h
 eqBool:=λhu hv h=>by
  rcases zax hu with⟨i,t,rfl,rfl⟩|⟨x,t,rfl,rfl⟩
  ·rcases zax hv with⟨j,u,rfl,rfl⟩|⟨y,u,rfl,rfl⟩
   ·rw[zsM] at h;exact wpAny_eqBool_int h
   ·rw[zs5] at h;exact SeqAt.EqAt.int_str i t y u _ _ _ _ h
  ·rcases zax hv with⟨j,u,rfl,rfl⟩|⟨y,u,rfl,rfl⟩
   ·rw[zsU] at h;exact SeqAt.EqAt.str_int x t j u _ _ _ _ h
   ·rw[zr7] at h;exact wpAny_eqBool_str h
 «strs»:=λk x t v h=>by
  rcases zax h with⟨i,u,rfl,e⟩|⟨y,u,rfl,e⟩
  ·exact nomatch e
  ·injection e with e1 _
   subst e1
   cases v<;>rfl
theorem zkT(prog:Program)(w:World)(i:Int)(t:Tok):(zaU prog w).is (.inl i) (.int i t)=true:=znU i t
theorem zkR(prog:Program)(w:World)(x:Str)(t:Tok):(zaU prog w).is (.inr x) (.str x t)=true:=znK x t
inductive V where
 |non|bl (b:Bool)|int (i:Int)|str (x:Str)|byt (b:Array UInt8)|flt (b:UInt64)|ref (a:Addr)|ty (n:String)
 deriving DecidableEq
variable{xs ys dvs vs zs:List V}{v:V}{kvs:List (List Key×V)}
def RelV:V->Value->Prop
 | .non,u=>u=Value.none
 | .bl b,u=>u=Value.bool b
 | .int i,u=>∃t,u=Value.int i t
 | .str x,u=>∃t,u=Value.str x t
 | .byt b,u=>∃t,u=Value.bytes b t
 | .flt b,u=>∃t,u=Value.float b t
 | .ref a,u=>u=Value.ref a
 | .ty n,u=>u=Value.type n
abbrev Vals:List V->List Value->Prop:=Paired RelV
theorem Vals.length(r:Vals xs us):xs.length=us.length:=Paired.length r
theorem Vals.get:∀{xs:List V} {us:List Value} {i:Nat} {x:V},Vals xs us->xs[i]?=some x->∃u,us[i]?=some u/\RelV x u
 |_,_,_,_, .nil,e=>by simp at e
 |_,_,0,_, .cons r _,e=>by simp at e;subst e;exact⟨_,rfl,r⟩
 |_,_,i+1,x, .cons _ t,e=>by
  obtain⟨u,h1,h2⟩:=Vals.get (i:=i) (x:=x) t (by simpa using e)
  exact⟨u,by simpa using h1,h2⟩
theorem Vals.set{x:V}(r:RelV x u):∀{xs:List V} {us:List Value} (i:Nat),Vals xs us->Vals (xs.set i x) (us.set i u)
 |_,_,_, .nil=> .nil
 |_,_,0, .cons _ t=> .cons r t
 |_,_,i+1, .cons q t=> .cons q (Vals.set r i t)
theorem Vals.append:∀{xs ys:List V} {us ws:List Value},Vals xs us->Vals ys ws->Vals (xs ++ys) (us ++ws)
 |_,_,_,_, .nil,s=>s
 |_,_,_,_, .cons r t,s=> .cons r (Vals.append t s)
theorem Vals.take:∀{xs:List V} {us:List Value} (n:Nat),Vals xs us->Vals (xs.take n) (us.take n)
 |_,_,0,_=> .nil
 |_,_,_+1, .nil=> .nil
 |_,_,n+1, .cons r t=> .cons r (Vals.take n t)
theorem Vals.drop:∀{xs:List V} {us:List Value} (n:Nat),Vals xs us->Vals (xs.drop n) (us.drop n)
 |_,_,0,r=>r
 |_,_,_+1, .nil=> .nil
 |_,_,n+1, .cons _ t=>Vals.drop n t
def RelO:Option V->Option Value->Prop
 |some v,some u=>RelV v u
 |none,none=>True
 |_,_=>False
def KV:List (κ×V)->List (κ×Value)->Prop:=Paired λ(p:κ×V) (q:κ×Value)=>p.1=q.1/\RelV p.2 q.2
noncomputable def kV:Key->V
 | .inl i=> .int i
 | .inr x=> .str x
inductive HO where
 |lst (xs:List V)
 |tup (xs:List V)
 |dK (kvs:List (Key×V))|dT (kvs:List (List Key×V))
 |set (S:Int->Bool) (n:Nat)
 |ins (C dx:Addr) (fs:List (Str×V))
 |own (x:Addr)
 |xd (fs:List (Str×V))
 |met (f x:Addr)
 |rng (lo hi:Int)
 |frz (o:Obj) (u:HO)
 |tbl (ps:Array Value)
 |ext (φ:Heap->Prop)
noncomputable abbrev Hp:=Addr->Option HO
variable{H H' H1 H2:Hp}
noncomputable def upd(H:Hp)(a:Addr)(o:HO):Hp:=λb=>if b=a then some o else H b
theorem upd_same{o:HO}:upd H a o a=some o:=by unfold upd;rw[p0 rfl]
theorem zn{b:Addr}{o:HO}(h:b≠a):upd H a o b=H b:=by unfold upd;rw[V0 h]
theorem zi8{o u:HO}:upd (upd H a o) a u=upd H a u:=by
 funext b;unfold upd;split<;>rfl
theorem zs9{b:Addr}{o u:HO}(h:H a=some o)(h':H b=some u)(d:o≠u):a≠b:=by
 intro e;subst e;rw[h] at h';exact d (A1 h')
theorem zB{b:Addr}{o:HO}(h:H a=some o)(h':H b=none):a≠b:=by
 intro e;subst e;rw[h] at h';cases h'
section
variable(P:Program)(w:World)
def NoDict(h:Heap)(a:Addr):Prop:=∀o,h.get? a=some o->o.dict=none
theorem NoDict.new{o:Obj}(e:o.dict=none)(f:(h.push o).get? h.objs.size=some o):NoDict (h.push o) h.objs.size:=λo' z=>by rw[f] at z;cases z;exact e
def ObjOk(H:Hp)(h:Heap)(a:Addr):HO->Prop
 | .lst xs=>xs.length<=sizeLine/\∃(its:List Value) (n:Nat),Vals xs its/\h.get? a=some {cls:= .type "list",data:= .seq its.toArray n}
 | .tup xs=>xs.length<=sizeLine/\∃its:List Value,Vals xs its/\IsTup h a its.toArray/\NoDict h a
 | .dK kvs=>kvs.length<=sizeLine/\(a==sysModules)=false/\∃vs,KV kvs vs/\h.DictOf (zaU P w) a vs
 | .dT kvs=>kvs.length<=sizeLine/\(a==sysModules)=false/\∃xs:List (List Key×Addr×Value),
    Paired (λ(p:List Key×V) (q:List Key×Addr×Value)=>p.1=q.1/\H q.2.1=some (.tup (p.1.map kV))/\RelV p.2 q.2.2) kvs xs/\
    ∃o es ep,h.get? a=some o/\o.ExactDict/\o.data= .dict es ep/\es.toList=xs.map (entryOfKey (tupleKind (zaU P w)))/\(xs.map (·.1)).Nodup
 | .set S n=>h.SetOf (intKind P w) a S n
 | .ins C dx fs=>H dx=some (.own a)/\fs.length<=1000/\dx≠a/\h.get? a=some (W.instObj C dx)/\
    ∃mA,h.Ns1 dx mA/\(∀f,RelO (fs.lookup f) (mA f))/\PySem.Within mA (fs.map (·.1))
 | .own _=>∃o,h.get? a=some o
 | .xd fs=>∃mA,h.Ns1 a mA/\∀f,RelO (fs.lookup f) (mA f)
 | .rng lo hi=>∃t u v,h.get? a=some {cls:= .type "range",data:= .fields #[.int lo t, .int hi u, .int 1 v]}
 | .frz o u=>h.get? a=some o/\ObjOk H h a u
 | .tbl ps=>h.get? a=some {cls:= .none,data:= .fields ps}
 | .met f x=>h.get? a=some (W.methodObj (.ref f) (.ref x))
 | .ext φ=>φ h/\(∃o,h.get? a=some o)/\∀h1 h2:Heap,φ h1->(∀o,h1.get? a=some o->h2.get? a=some o)->φ h2
def HOk(H:Hp)(h:Heap):Prop:=∀a o,H a=some o->ObjOk P w H h a o
end
section
variable{w:World}{o:HO}
theorem ObjOk.lt(x:ObjOk P w H h a o):a<h.objs.size:=by
 cases o with
 |lst xs=>obtain ⟨_,_,_,_,e⟩:=x;exact P0 e
 |tup xs=>obtain ⟨_,_,_,p,_⟩:=x;exact p.lt
 |dK kvs=>obtain ⟨_,_,_,_,o,_,_,e,_⟩:=x;exact P0 e
 |dT kvs=>obtain ⟨_,_,_,_,o,_,_,e,_⟩:=x;exact P0 e
 |set S n=>obtain ⟨o,_,_,_,e,_⟩:=x;exact P0 e
 |ins C dx fs=>obtain ⟨_,_,_,e,_⟩:=x;exact P0 e
 |own y=>obtain ⟨_,e⟩:=x;exact P0 e
 |xd fs=>obtain ⟨_,⟨_,_,_,e,_⟩,_⟩:=x;exact P0 e
 |rng lo hi=>obtain ⟨_,_,_,e⟩:=x;exact P0 e
 |frz ob u=>obtain ⟨e,_⟩:=x;exact P0 e
 |tbl ps=>exact P0 (show h.get? a=some _ from x)
 |met f y=>exact P0 (show h.get? a=some _ from x)
 |ext φ=>obtain ⟨_,⟨_,e⟩,_⟩:=x;exact P0 e
theorem Paired.mapP{F G:α->β->Prop}:∀{l₁:List α} {l₂:List β},Paired F l₁ l₂->(∀a b,F a b->G a b)->Paired G l₁ l₂
 |_,_, .nil,_=> .nil
 |_,_, .cons r t,f=> .cons (f _ _ r) (Paired.mapP t f)
theorem ObjOk.stay(x:ObjOk P w H h a o)(k:∀b u,(b=a\/H b=some (.own a))->h.get? b=some u->h'.get? b=some u)
 (ho:∀b,H b=some (.own a)->H' b=some (.own a)) (ht:∀b xs,H b=some (.tup xs)->H' b=some (.tup xs)):ObjOk P w H' h' a o:=by
 induction o with
 |lst xs=>obtain ⟨z,its,n,r,e⟩:=x;exact⟨z,its,n,r,k _ _ (.inl rfl) e⟩
 |tup xs=>obtain ⟨z,its,r,⟨ob,e,c⟩,nd⟩:=x;exact⟨z,its,r,⟨ob,k _ _ (.inl rfl) e,c⟩,λo q=>by rw[k _ _ (.inl rfl) e] at q;cases q;exact nd _ e⟩
 |dK kvs=>obtain ⟨z,y,vs,r,ob,es,ep,e,c⟩:=x;exact⟨z,y,vs,r,ob,es,ep,k _ _ (.inl rfl) e,c⟩
 |dT kvs=>
  obtain⟨z,y,xs,r,ob,es,ep,e,c⟩:=x
  exact⟨z,y,xs,Paired.mapP r λp q z=>⟨z.1,ht _ _ z.2.1,z.2.2⟩,ob,es,ep,k _ _ (.inl rfl) e,c⟩
 |set S n=>obtain ⟨ob,es,ep,t,e,c⟩:=x;exact⟨ob,es,ep,t,k _ _ (.inl rfl) e,c⟩
 |ins C dx fs=>
  obtain⟨d,z,ne,e,mA,⟨od,es,ep,e2,c⟩,r⟩:=x
  exact⟨ho _ d,z,ne,k _ _ (.inl rfl) e,mA,⟨od,es,ep,k _ _ (.inr d) e2,c⟩,r⟩
 |own y=>obtain ⟨ob,e⟩:=x;exact⟨ob,k _ _ (.inl rfl) e⟩
 |xd fs=>obtain ⟨mA,⟨od,es,ep,e,c⟩,r⟩:=x;exact⟨mA,⟨od,es,ep,k _ _ (.inl rfl) e,c⟩,r⟩
 |rng lo hi=>obtain ⟨t,u,v,e⟩:=x;exact⟨t,u,v,k _ _ (.inl rfl) e⟩
 |frz ob u ih=>obtain ⟨e,q⟩:=x;exact⟨k _ _ (.inl rfl) e,ih q⟩
 |tbl ps=>
  have e:h.get? a=some {cls:= .none,data:= .fields ps}:=x
  show h'.get? a=some {cls:= .none,data:= .fields ps}
  exact k a _ (.inl rfl) e
 |met f y=>
  have e:h.get? a=some (W.methodObj (.ref f) (.ref y)):=x
  show h'.get? a=some (W.methodObj (.ref f) (.ref y))
  exact k a _ (.inl rfl) e
 |ext φ=>obtain ⟨p,⟨o,e⟩,st⟩:=x;exact⟨st _ _ p λo q=>k _ _ (.inl rfl) q,⟨o,k _ _ (.inl rfl) e⟩,st⟩
theorem HOk.lt(x:HOk P w H h)(e:H a=some o):a<h.objs.size:=(x a o e).lt
theorem HOk.fresh(x:HOk P w H h)(e:h.objs.size<=a):H a=none:=by
 cases q:H a with
 |none=>rfl
 |some u=>exact absurd (C1 (x.lt q) e) (Z1 _)
theorem HOk.kept(x:HOk P w H h)(k:∀b u,h.get? b=some u->h'.get? b=some u):HOk P w H h':=λa o e=>
 (x a o e).stay (λb u _ q=>k b u q) (λ_ q=>q) λ_ _ q=>q
theorem HOk.laid(x:HOk P w H h)(k:∀b u,h.get? b=some u->h'.get? b=some u)(hp:h.objs.size<=a)(new:ObjOk P w (upd H a o) h' a o):HOk P w (upd H a o) h':=λb u e=>by
 have hn:=x.fresh hp
 by_cases hb:b=a
 ·subst hb;rw[upd_same] at e;cases e;exact new
 ·rw[zn hb] at e
  exact(x b u e).stay (λc v _ q=>k c v q) (λc q=>by rw[zn (zB q hn)];exact q) λc xs q=>by rw[zn (zB q hn)];exact q
end
def Rd(H:Hp)(a:Addr)(u:HO):Prop:=H a=some u\/∃o,H a=some (.frz o u)
theorem Rd.ok{w:World}{u:HO}(r:Rd H a u)(x:HOk P w H h):ObjOk P w H h a u:=by
 rcases r with r|⟨o,r⟩
 ·exact x a u r
 ·obtain ⟨_,q⟩:=x a _ r
  exact q
def Mut:Option HO->Prop
 |some (.lst _)=>True
 |some (.dK _)=>True
 |some (.dT _)=>True
 |some (.set _ _)=>True
 |some (.ins _ _ _)=>True
 |some (.ext _)=>True
 |_=>False
section
variable{w:World}{x e:Addr}{o':HO}
theorem HOk.write(ok:HOk P w H h)(mu:Mut (H x))(he:e=x\/H e=some (.own x))(k:∀b u,b≠e->h.get? b=some u->h'.get? b=some u)(heo:∃u,h'.get? e=some u)
 (new:ObjOk P w (upd H x o') h' x o'):HOk P w (upd H x o') h':=λb u q=>by
 have nown:∀c y,H c=some (.own y)->c≠x:=λc y r z=>by subst z;rw[r] at mu;exact mu
 have ntup:∀c xs,H c=some (.tup xs)->c≠x:=λc xs r z=>by subst z;rw[r] at mu;exact mu
 by_cases hb:b=x
 ·subst hb;rw[upd_same] at q;cases q;exact new
 ·rw[zn hb] at q
  by_cases hbe:b=e
  ·have q':H b=some (.own x):=by
    rcases he with z|z
    ·exact absurd (hbe.trans z) hb
    ·rw[hbe];exact z
   rw[q] at q';cases q'
   obtain⟨v,hv⟩:=heo
   exact⟨v,by rw[hbe];exact hv⟩
  ·refine (ok b u q).stay (λc v hc r=>k c v ?_ r) (λc r=>by rw[zn (nown c b r)];exact r) λc xs r=>by rw[zn (ntup c xs r)];exact r
   rcases hc with rfl|hc
   ·exact hbe
   ·rintro rfl
    rcases he with z|z
    ·exact nown c b hc z
    ·rw[hc] at z;cases z;exact hb rfl
end
structure Un(fs ex:List Addr)(H H':Hp)(h h':Heap):Prop where
 keep:∀b o,h.get? b=some o->H b=none->b∉fs->b∉ex->h'.get? b=some o
 slot:∀b o,h.get? b=some o->H b=none->b∈fs->b∉ex->∃sl,h'.get? b=some {o with slots:=sl}
 free:∀b o,h.get? b=some o->H b=none->b∉ex->H' b=none
 there:∀b o,h.get? b=some o->b∉ex->∃o',h'.get? b=some o'
 tups:∀b xs,H b=some (.tup xs)->H' b=some (.tup xs)
 frzs:∀b o u,H b=some (.frz o u)->H' b=some (.frz o u)
 tbls:∀b ps,H b=some (.tbl ps)->∃more,H' b=some (.tbl (ps ++more))
section
variable{fs fs' ex ex':List Addr}{h1 h2:Heap}{x e:Addr}{o:HO}
theorem Un.any(u:Un fs ex H H1 h h1){b:Addr}{ob:Obj}(q:h.get? b=some ob)(n:H b=none)(hx:b∉ex):∃sl,h1.get? b=some {ob with slots:=sl}:=by
 by_cases hb:b∈fs
 ·exact u.slot b ob q n hb hx
 ·exact ⟨ob.slots,u.keep b ob q n hb hx⟩
theorem Un.kept(k:∀b u,h.get? b=some u->h'.get? b=some u):Un fs ex H H h h':=
 ⟨λb ob q _ _ _=>k b ob q,λb ob q _ _ _=>⟨ob.slots,k b ob q⟩,λ_ _ _ n _=>n,λb ob q _=>⟨ob,k b ob q⟩,λ_ _ q=>q,λ_ _ _ q=>q,λ_ ps q=>⟨#[],by rw[q];simp⟩⟩
theorem Un.refl:Un fs ex H H h h:=Un.kept λ_ _ q=>q
theorem Un.laid(k:∀b u,h.get? b=some u->h'.get? b=some u)(hp:h.objs.size<=a)(hn:H a=none):Un fs ex H (upd H a o) h h' where
 keep:=λb u q _ _ _=>k b u q
 slot:=λb u q _ _ _=>⟨u.slots,k b u q⟩
 free:=λb u q n _=>by rw[zn (R1 (C1 (P0 q) hp))];exact n
 there:=λb u q _=>⟨u,k b u q⟩
 tups:=λb xs q=>by rw[zn (zB q hn)];exact q
 frzs:=λb u xs q=>by rw[zn (zB q hn)];exact q
 tbls:=λb ps q=>⟨#[],by rw[zn (zB q hn),q];simp⟩
theorem Un.write(mu:Mut (H x))(he:e=x\/H e=some (.own x))(k:∀b u,b≠e->h.get? b=some u->h'.get? b=some u)(heo:∃u,h'.get? e=some u):Un fs ex H (upd H x o) h h':=by
 have hx:∀b,H b=none->b≠x:=λb n z=>by subst z;rw[n] at mu;exact mu
 have hb:∀b,H b=none->b≠e:=λb n z=>by
  subst z
  rcases he with r|r
  ·exact hx b n r
  ·rw[n] at r;cases r
 have hm:∀b u,H b=some u->¬Mut (some u)->b≠x:=λb u q nm z=>by subst z;rw[q] at mu;exact nm mu
 refine⟨λb u q n _ _=>k b u (hb b n) q,λb u q n _ _=>⟨u.slots,k b u (hb b n) q⟩,λb u q n _=>by rw[zn (hx b n)];exact n,λb u q _=>?_,
  λb xs q=>by rw[zn (hm b _ q λz=>z)];exact q,λb u xs q=>by rw[zn (hm b _ q λz=>z)];exact q,λb ps q=>⟨#[],by rw[zn (hm b _ q λz=>z),q];simp⟩⟩
 by_cases hbe:b=e
 ·subst hbe;exact heo
 ·exact ⟨u,k b u hbe q⟩
end
noncomputable def trk(h:Heap)(H:Hp):List Addr:=(List.range h.objs.size).filter λa=>(H a).isSome
noncomputable def zi2(h:Heap)(H:Hp):Heap:=W.hideAll h (trk h H)
theorem zm0(h:Heap)(H:Hp):(zi2 h H).objs.size=h.objs.size:=W.hideAll_size _ _
theorem zos{b:Addr}{o:Obj}(e:h.get? b=some o)(n:H b=none):(zi2 h H).get? b=some o:=
 W.hideAll_get _ e λhm=>by
  have q:(H b).isSome=true:=(List.mem_filter.mp hm).2
  rw[n] at q;simp at q
theorem zqv{b:Addr}{o:Obj}(e:(zi2 h H).get? b=some o):h.get? b=some o/\H b=none:=by
 have e':h.get? b=some o:=W.of_hideAll (trk h H) e
 refine⟨e',?_⟩
 cases q:H b with
 |none=>rfl
 |some x=>
  have hm:b∈trk h H:=List.mem_filter.mpr ⟨C2.mpr (P0 e'),by simp[q]⟩
  have z:(zi2 h H).get? b=none:=W.hideAll_none (trk h H) hm
  rw[z] at e;cases e
structure Mod(K:W.Frag)(mg:Str->Option Value)(base:Heap):Prop where
 kin:K.In base
 glob:base.Ns mainGlobals mg
 blt:∃mb,base.Ns builtinsNs mb/\∀x:Str,x≠"__name__"->mb x=bootBuiltins x
 nolimit:base.NoLimit
structure Cx where
 prog:Program
 w:World
 K:W.Frag
 mg:Str->Option Value
 base:Heap
 A:Around
 N:List Str
 s₀:Shared
 H₀:Hp
 env:Env
 outer:List Env
 stack:List Env
 ex:List Addr
 fn:Str->Bool
 calm:Bool
 pn:List (Addr×Obj)
 xe:Value->Shared->Prop
variable{N:List Str}{w:World}{X:Cx}{A:Around}{K:W.Frag}{prog:Program}{env:Env}
noncomputable def frs(l:List Env):List Addr:=l.filterMap (·.frame)
noncomputable abbrev Cx.fs(X:Cx):List Addr:=frs X.outer
variable{fs:List (Str×V)}
def Vis(sc:Scope)(x:Str):Prop:=sc.names.lookup x=some .local\/sc.names.lookup x=some .cell\/sc.names.lookup x=some .free
def Loc(sc:Scope)(x:Str):Prop:=sc.names.lookup x=some .local\/sc.names.lookup x=some .cell
def zud(env:Env)(h:Heap)(m:Str->Option Value)(x:Str)(u:Value):Prop:=
 (env.kindOf x=some .local/\m x=some u)\/((env.kindOf x=some .cell\/env.kindOf x=some .free)/\∃c,env.cells.lookup x=some c/\h.IsCell c (some u))
structure Cx.Ok(X:Cx):Prop where
 mod:Mod X.K X.mg X.base
 kind:X.env.scope.kind= .function
 glob:X.env.globals=mainGlobals
 blt:X.env.builtins=builtinsNs
 above:X.s₀.heap.objs.size<=X.env.locals
 inj:∀x y c,X.env.cells.lookup x=some c->X.env.cells.lookup y=some c->x=y
 has:∀x,(X.env.kindOf x=some .cell\/X.env.kindOf x=some .free)->∃c,X.env.cells.lookup x=some c
 cab:∀x c,X.fn x=true->X.env.cells.lookup x=some c->X.s₀.heap.objs.size<=c
 hd:X.calm=true->X.A.handled=none
 frames:X.A.frames=some X.stack
 stk:X.stack=X.outer\/(X.stack=X.env::X.outer/\X.env.frame=some X.env.locals)
 exf:∀b∈X.ex,b≠X.env.locals/\∀x c,X.env.cells.lookup x=some c->c≠b
 bs:∀b o,X.base.get? b=some o->X.s₀.heap.get? b=some o/\X.H₀ b=none
 bsz:X.base.objs.size<=X.s₀.heap.objs.size
 noex:∀b o,X.base.get? b=some o->b∉X.ex
 exfs:∀b∈X.ex,b∉X.fs
 funs:X.s₀.heap.FunFrames X.base X.outer
 frf:∀b∈X.fs,X.H₀ b=none
structure Inv(X:Cx)(pins:List (Addr×Obj))(σ:List (Option V))(H:Hp)(s:Shared):Prop where
 ok:X.Ok
 os:s.os=X.s₀.os
 bare:AllBare s.gens
 base:Un X.fs X.ex X.H₀ H X.s₀.heap s.heap
 loc:∃m,s.heap.Ns X.env.locals m/\∀(i:Nat) (x:Str) (v:V),X.N[i]?=some x->σ[i]?=some (some v)->Vis X.env.scope x->∃u,RelV v u/\zud X.env s.heap m x u
 cell:∀x c,X.env.cells.lookup x=some c->∃v,s.heap.IsCell c v
 free:H X.env.locals=none
 freeC:∀x c,X.env.cells.lookup x=some c->H c=none
 pin:∀p∈X.pn ++pins,s.heap.get? p.1=some p.2/\H p.1=none/\p.1≠X.env.locals/\p.1∉X.fs/\∀v,p.2.data≠ .cell v
 hok:HOk X.prog X.w H s.heap
 len:σ.length=X.N.length
section
variable{σ:List (Option V)}
theorem Cx.Ok.nofr(ok:X.Ok){b:Addr}{o:Obj}(e:X.base.get? b=some o):b∉X.fs:=λhb=>by
 have:=(ok.funs.mem hb).1
 rw[e] at this;cases this
theorem Inv.bs(I:Inv X pins σ H s):∀b o,X.base.get? b=some o->s.heap.get? b=some o/\H b=none:=λb o e=>
 ⟨I.base.keep b o (I.ok.bs b o e).1 (I.ok.bs b o e).2 (I.ok.nofr e) (I.ok.noex b o e),I.base.free b o (I.ok.bs b o e).1 (I.ok.bs b o e).2 (I.ok.noex b o e)⟩
theorem Inv.bk(I:Inv X pins σ H s):∀b o,X.base.get? b=some o->s.heap.get? b=some o:=λb o e=>(I.bs b o e).1
theorem Inv.mod(I:Inv X pins σ H s):Mod X.K X.mg X.base:=I.ok.mod
theorem Inv.kIn(I:Inv X pins σ H s):X.K.In s.heap:=I.ok.mod.kin.keeps I.bk
theorem Inv.lt(I:Inv X pins σ H s):X.env.locals<s.heap.objs.size:=let⟨_,hn,_⟩:=I.loc;hn.lt
theorem Inv.sz(I:Inv X pins σ H s):X.s₀.heap.objs.size<=s.heap.objs.size:=F1 I.ok.above (Nat.le_of_lt I.lt)
theorem Inv.nofs(I:Inv X pins σ H s)(h:s.heap.objs.size<=a):a∉X.fs:=λhb=>by
 obtain⟨_,o,ho,_⟩:=I.ok.funs.mem hb
 exact absurd (C1 (P0 ho) (F1 I.sz h)) (Z1 _)
theorem Inv.cne(I:Inv X pins σ H s):∀x c,X.env.cells.lookup x=some c->c≠X.env.locals:=λx c e z=>by
 obtain⟨v,o,ho,hd⟩:=I.cell x c e
 obtain⟨m,⟨o',es,ep,ho',hd',_⟩,_⟩:=I.loc
 rw[z,ho'] at ho;cases ho;rw[hd'] at hd;cases hd
theorem Inv.funs(I:Inv X pins σ H s):s.heap.FunFrames X.base X.outer:=by
 have all:∀(l:List Env),(∀b∈frs l,b∈X.fs)->X.s₀.heap.FunFrames X.base l->s.heap.FunFrames X.base l:=by
  intro l
  induction l with
  |nil=>intro _ _;trivial
  |cons env r ih=>
   intro hs hl
   obtain⟨hk,⟨L,o,hf,hn,ho,hd⟩,hr⟩:=hl
   have hL:L∈X.fs:=hs L (by unfold frs;rw[List.filterMap_cons,hf];exact Q0)
   obtain⟨sl,e⟩:=I.base.slot L o ho (I.ok.frf L hL) hL λz=>I.ok.exfs L z hL
   exact⟨hk,⟨L,_,hf,hn,e,hd⟩,ih (λb hb=>hs b (by unfold frs;rw[List.filterMap_cons,hf];exact N0 _ hb)) hr⟩
 exact all X.outer (λ_ hb=>hb) I.ok.funs
theorem Inv.stack(I:Inv X pins σ H s):s.heap.FunFrames X.base X.stack:=by
 rcases I.ok.stk with e|⟨e,hf⟩
 ·rw[e];exact I.funs
 ·rw[e]
  obtain⟨m,hn,_⟩:=I.loc
  refine .cons (by rw[I.ok.kind];decide) hf hn ?_ I.funs
  exact Heap.get?_none_of_le (F1 I.ok.bsz I.ok.above)
theorem Inv.stkSub(I:Inv X pins σ H s):∀b∈frs X.stack,b∈X.env.locals::X.fs:=λb hb=>by
 rcases I.ok.stk with e|⟨e,hf⟩
 ·rw[e] at hb;exact N0 _ hb
 ·rw[e] at hb
  unfold frs at hb
  rw[List.filterMap_cons,hf] at hb
  exact hb
theorem Inv.stkFree(I:Inv X pins σ H s):∀b∈frs X.stack,H b=none:=λb hb=>by
 rcases I0.mp (I.stkSub b hb)with e|hb
 ·rw[e];exact I.free
 ·obtain ⟨_,o,ho,_⟩:=I.ok.funs.mem hb
  exact I.base.free b o ho (I.ok.frf b hb) λz=>I.ok.exfs b z hb
theorem Inv.step{ch:List Addr}(I:Inv X pins σ H s)
 (hch:∀b∈ch,(b∈X.ex\/X.s₀.heap.objs.size<=b)/\b≠X.env.locals/\(∀x c,X.env.cells.lookup x=some c->c≠b)/\∀p∈X.pn ++pins,p.1≠b)
 (keep:∀b o,b≠X.env.locals->b∉X.fs->b∉ch->s.heap.get? b=some o->H b=none->h'.get? b=some o)
 (slot:∀b o,b≠X.env.locals->b∈X.fs->b∉ch->s.heap.get? b=some o->H b=none->∃sl,h'.get? b=some {o with slots:=sl}) (free:∀b o,b∉ch->s.heap.get? b=some o->H b=none->H' b=none)
 (there:∀b o,b∉ch->s.heap.get? b=some o->∃o',h'.get? b=some o')
 (tups:∀b xs,H b=some (.tup xs)->H' b=some (.tup xs)) (frzs:∀b o u,H b=some (.frz o u)->H' b=some (.frz o u)) (tbls:∀b ps,H b=some (.tbl ps)->∃more,H' b=some (.tbl (ps ++more)))
 (ns:∀m,s.heap.Ns X.env.locals m->h'.Ns X.env.locals m) (hok:HOk X.prog X.w H' h') (hg:AllBare g'):
 Inv X pins σ H' {s with heap:=h',gens:=g',drawn:=d',toks:=t'}:=by
 have neL:∀b o,X.s₀.heap.get? b=some o->b≠X.env.locals:=λb o e=>R1 (C1 (P0 e) I.ok.above)
 have neC:∀b o,X.s₀.heap.get? b=some o->b∉X.ex->b∉ch:=λb o e hx hb=>by
  rcases(hch b hb).1 with z|z
  ·exact hx z
  ·exact absurd (C1 (P0 e) z) (Z1 _)
 have cellK:∀x c,X.env.cells.lookup x=some c->∀v,s.heap.IsCell c v->h'.IsCell c v:=λx c e v ⟨o,ho,hd⟩=>by
  have nch:c∉ch:=λz=>(hch c z).2.2.1 x c e rfl
  by_cases hc:c∈X.fs
  ·obtain ⟨sl,q⟩:=slot c o (I.cne x c e) hc nch ho (I.freeC x c e)
   exact⟨_,q,hd⟩
  ·exact ⟨o,keep c o (I.cne x c e) hc nch ho (I.freeC x c e),hd⟩
 refine⟨I.ok,I.os,hg,⟨λb o e n hb hx=>?_,λb o e n hb hx=>?_,λb o e n hx=>?_,λb o e hx=>?_,λb xs e=>tups b xs (I.base.tups b xs e),λb o xs e=>frzs b o xs (I.base.frzs b o xs e),λb ps e=>?_⟩,?_,λx c e=>?_,?_,λx c e=>?_,λp hp=>?_,hok,I.len⟩
 ·exact keep b o (neL b o e) hb (neC b o e hx) (I.base.keep b o e n hb hx) (I.base.free b o e n hx)
 ·obtain ⟨sl,e1⟩:=I.base.slot b o e n hb hx
  obtain⟨sl',e2⟩:=slot b _ (neL b o e) hb (neC b o e hx) e1 (I.base.free b o e n hx)
  exact⟨sl',e2⟩
 ·obtain ⟨o',e1⟩:=I.base.there b o e hx
  exact free b o' (neC b o e hx) e1 (I.base.free b o e n hx)
 ·obtain ⟨o',e1⟩:=I.base.there b o e hx
  exact there b o' (neC b o e hx) e1
 ·obtain ⟨m1,e1⟩:=I.base.tbls b ps e
  obtain⟨m2,e2⟩:=tbls b _ e1
  exact⟨m1 ++m2,by rw[e2,Array.append_assoc]⟩
 ·obtain ⟨m,hn,hl⟩:=I.loc
  refine⟨m,ns m hn,λi x v e1 e2 e3=>?_⟩
  obtain⟨u,r,l⟩:=hl i x v e1 e2 e3
  refine⟨u,r,?_⟩
  rcases l with l|⟨k,c,e,z⟩
  ·exact .inl l
  ·exact .inr ⟨k,c,e,cellK x c e _ z⟩
 ·obtain ⟨v,z⟩:=I.cell x c e
  exact⟨v,cellK x c e v z⟩
 ·obtain ⟨m,⟨o,_,_,ho,_⟩,_⟩:=I.loc
  exact free _ o (λz=>(hch _ z).2.1 rfl) ho I.free
 ·obtain ⟨v,o,ho,hd⟩:=I.cell x c e
  exact free c o (λz=>(hch c z).2.2.1 x c e rfl) ho (I.freeC x c e)
 ·obtain ⟨e,n,ne,nf,d⟩:=I.pin p hp
  have nch:p.1∉ch:=λz=>(hch p.1 z).2.2.2 p hp rfl
  exact⟨keep p.1 p.2 ne nf nch e n,free p.1 p.2 nch e n,ne,nf,d⟩
theorem Inv.un(I:Inv X pins σ H s)(u:Un X.fs [] H H' s.heap h')(hok:HOk X.prog X.w H' h'):Inv X pins σ H' {s with heap:=h',toks:=t'}:=by
 obtain⟨m,⟨o,es,ep,ho,r⟩,_⟩:=id I.loc
 obtain⟨sl,hL⟩:=u.any ho I.free `Z2
 exact I.step (g':=s.gens) (d':=s.drawn) (ch:=[]) (λ_ z=>nomatch z) (λb o _ hb _ e n=>u.keep b o e n hb `Z2) (λb o _ hb _ e n=>u.slot b o e n hb `Z2) (λb o _ e n=>u.free b o e n `Z2) (λb o _ e=>u.there b o e `Z2) u.tups u.frzs u.tbls (λm' hm=>by
  obtain⟨o',es',ep',ho',r'⟩:=hm
  rw[ho] at ho';cases ho'
  exact⟨_,es',ep',hL,r'⟩) hok I.bare
theorem Inv.call{ch:List Addr}(I:Inv X pins σ H s)(u:Un (frs X.stack) ch H H' s.heap h')(hok:HOk X.prog X.w H' h')(hg:AllBare g')
 (hch:∀b∈ch,(b∈X.ex\/X.s₀.heap.objs.size<=b)/\b≠X.env.locals/\(∀x c,X.env.cells.lookup x=some c->c≠b)/\∀p∈X.pn ++pins,p.1≠b):
 Inv X pins σ H' {s with heap:=h',gens:=g',drawn:=d',toks:=t'}:=by
 obtain⟨m,⟨o,es,ep,ho,r⟩,_⟩:=id I.loc
 obtain⟨sl,hL⟩:=u.any ho I.free λz=>(hch _ z).2.1 rfl
 exact I.step (ch:=ch) hch (λb o hL hb hc e n=>u.keep b o e n (λz=>(I0.mp (I.stkSub b z)).elim hL hb) hc) (λb o _ _ hc e n=>u.any e n hc) (λb o hc e n=>u.free b o e n hc) (λb o hc e=>u.there b o e hc) u.tups u.frzs u.tbls (λm' hm=>by
  obtain⟨o',es',ep',ho',r'⟩:=hm
  rw[ho] at ho';cases ho'
  exact⟨_,es',ep',hL,r'⟩) hok hg
theorem Inv.turned(I:Inv X pins σ H s)(k:∀b o,b≠it->s.heap.get? b=some o->h'.get? b=some o)(hn:H it=none)(hL:it≠X.env.locals)
 (h1:it∈X.ex\/X.s₀.heap.objs.size<=it) (h2:∀x c,X.env.cells.lookup x=some c->c≠it) (h3:∀p∈X.pn ++pins,p.1≠it):Inv X pins σ H {s with heap:=h',toks:=t'}:=by
 have nit:∀b u,H b=some u->b≠it:=λb u e z=>by rw[z,hn] at e;cases e
 refine I.step (g':=s.gens) (d':=s.drawn) (ch:=[it]) (λb hb=>?_) (λb o _ _ hc e _=>k b o (λz=>hc (by simp[z])) e) (λb o _ _ hc e _=>⟨o.slots,k b o (λz=>hc (by simp[z])) e⟩) (λ_ _ _ _ n=>n)
  (λb o hc e=>⟨o,k b o (λz=>hc (by simp[z])) e⟩) (λ_ _ e=>e) (λ_ _ _ e=>e) (λb ps e=>⟨#[],by rw[e];simp⟩) (λm hm=>?_) (λb u e=>?_) I.bare
 ·have e:b=it:=by simpa using hb
  subst e
  exact⟨h1,hL,h2,h3⟩
 ·obtain ⟨o,es,ep,ho,r⟩:=hm
  exact⟨o,es,ep,k _ o (Ne.symm hL) ho,r⟩
 ·refine (I.hok b u e).stay (λc v hc q=>k c v ?_ q) (λ_ q=>q) λ_ _ q=>q
  rcases hc with z|z
  ·rw[z];exact nit b u e
  ·exact nit c _ z
theorem Inv.tok(I:Inv X pins σ H s)(t:Nat):Inv X pins σ H {s with toks:=t}:=I.un (h':=s.heap) (t':=t) Un.refl I.hok
theorem Inv.kept(I:Inv X pins σ H s)(k:∀b u,s.heap.get? b=some u->h'.get? b=some u):Inv X pins σ H {s with heap:=h',toks:=t'}:=I.un (Un.kept k) (I.hok.kept k)
theorem Inv.laid{o:HO}(I:Inv X pins σ H s)(k:∀b u,s.heap.get? b=some u->h'.get? b=some u)(hp:s.heap.objs.size<=a)(new:ObjOk X.prog X.w (upd H a o) h' a o):
 Inv X pins σ (upd H a o) {s with heap:=h',toks:=t'}:=I.un (Un.laid k hp (I.hok.fresh hp)) (I.hok.laid k hp new)
theorem Inv.write{x e:Addr}{o:HO}(I:Inv X pins σ H s)(mu:Mut (H x))(he:e=x\/H e=some (.own x))(k:∀b u,b≠e->s.heap.get? b=some u->h'.get? b=some u)(heo:∃u,h'.get? e=some u)
 (new:ObjOk X.prog X.w (upd H x o) h' x o):Inv X pins σ (upd H x o) {s with heap:=h',toks:=t'}:=I.un (Un.write mu he k heo) (I.hok.write mu he k heo new)
theorem Inv.pins_of{pins':List (Addr×Obj)}(I:Inv X pins σ H s)(h:∀p∈pins',s.heap.get? p.1=some p.2/\H p.1=none/\p.1≠X.env.locals/\p.1∉X.fs/\∀v,p.2.data≠ .cell v):Inv X pins' σ H s:=
 ⟨I.ok,I.os,I.bare,I.base,I.loc,I.cell,I.free,I.freeC,λp hp=>(G1.mp hp).elim (λz=>I.pin p (List.mem_append_left _ z)) (h p),I.hok,I.len⟩
theorem zkn(hN:N.Nodup)(a:N[i]?=some x)(b:N[j]?=some x):i=j:=by
 obtain⟨h1,e1⟩:=List.getElem?_eq_some_iff.mp a
 obtain⟨h2,e2⟩:=List.getElem?_eq_some_iff.mp b
 exact(List.getElem_inj hN).mp (e1.trans e2.symm)
theorem znv{Q:Unit->Shared->Prop}(I:Inv X pins σ H s)(hN:X.N.Nodup)(hi:X.N[i]?=some x)(hx:Loc X.env.scope x)(r:RelV v u)
 (h:∀s',Inv X pins (σ.set i (some v)) H s'->(∃a,Heap.SameBut a s.heap s'.heap/\(a=X.env.locals\/X.env.cells.lookup x=some a))->Q Unit.unit s') (hf:autoParam (X.fn x=true\/X.env.scope.names.lookup x=some .local) r6):wpAny M A (storeName X.env x u) Q E s:=by
 obtain⟨m,hn,hl⟩:=id I.loc
 have hcls:(X.env.scope.kind== .class||(X.env.scope.kind== .module&&X.env.locals !=X.env.globals))=false:=by rw[I.ok.kind];rfl
 have hiσ:i<σ.length:=by rw[I.len];exact(List.getElem?_eq_some_iff.mp hi).1
 have cne:=I.cne
 have tracked:∀{a:Addr} {h':Heap},(∃o,s.heap.get? a=some o/\H a=none)->Heap.SameBut a s.heap h'->HOk X.prog X.w H h':=λ{a h'} ha hs b ob e=>by
  obtain⟨_,_,hfree⟩:=ha
  refine(I.hok b ob e).stay (λc w' hc q=>(hs.2 c ?_).trans q) (λ_ q=>q) λ_ _ q=>q
  rintro rfl
  rcases hc with rfl|hc
  ·rw[hfree] at e;cases e
  ·rw[hfree] at hc;cases hc
 rcases hx with hk|hk
 ·refine wpAny_storeName_local hk hn (λh' hn' hs=>?_) hcls
  obtain⟨oL,_,_,hoL,_⟩:=id hn
  refine h _ ⟨I.ok,I.os,I.bare,⟨λb o e n hb hx=>?_,λb o e n hb hx=>?_,I.base.free,λb o e hx=>?_,I.base.tups,I.base.frzs,I.base.tbls⟩,⟨_,hn',λj y v' e1 e2 e3=>?_⟩,λy c e=>?_,I.free,I.freeC,λp hp=>?_,tracked ⟨oL,hoL,I.free⟩ hs,by simpa using I.len⟩ ⟨_,hs, .inl rfl⟩
  ·exact (hs.2 b (R1 (C1 (P0 e) I.ok.above))).trans (I.base.keep b o e n hb hx)
  ·obtain ⟨sl,e1⟩:=I.base.slot b o e n hb hx
   exact⟨sl,(hs.2 b (R1 (C1 (P0 e) I.ok.above))).trans e1⟩
  ·obtain ⟨o',e1⟩:=I.base.there b o e hx
   exact⟨o',(hs.2 b (R1 (C1 (P0 e) I.ok.above))).trans e1⟩
  ·by_cases hj:j=i
   ·subst hj
    rw[hi] at e1;cases e1
    rw[List.getElem?_set_self hiσ] at e2
    cases e2
    exact⟨u,r, .inl ⟨hk,`Z2⟩⟩
   ·rw[List.getElem?_set_ne (Ne.symm hj)] at e2
    obtain⟨u',r',q⟩:=hl j y v' e1 e2 e3
    refine⟨u',r',?_⟩
    rcases q with⟨k,e⟩|⟨k,c,e,z⟩
    ·refine .inl ⟨k,?_⟩
     have:y≠x:=λe=>hj (zkn hN e1 (e▸hi))
     simp[this,e]
    ·exact .inr ⟨k,c,e,z.sameBut hs (cne y c e)⟩
  ·obtain ⟨w',z⟩:=I.cell y c e
   exact⟨w',z.sameBut hs (cne y c e)⟩
  ·obtain ⟨e,n,ne,nf,d⟩:=I.pin p hp
   exact⟨(hs.2 p.1 ne).trans e,n,ne,nf,d⟩
 ·have hfn:X.fn x=true:=by
   rcases hf with z|z
   ·exact z
   ·rw[z] at hk;cases hk
  obtain⟨c,hc⟩:=I.ok.has x (.inl hk)
  obtain⟨w',z⟩:=I.cell x c hc
  refine wpAny_storeName_cell I.ok.kind hk hc z (λh' hc' hs=>?_)
  obtain⟨oc,hoc,hocd⟩:=id z
  refine h {s with heap:=h'} ⟨I.ok,I.os,I.bare,⟨λb o e n hb hx=>?_,λb o e n hb hx=>?_,I.base.free,λb o e hx=>?_,I.base.tups,I.base.frzs,I.base.tbls⟩,⟨m,hn.sameBut hs (Ne.symm (cne x c hc)),λj y v' e1 e2 e3=>?_⟩,λy c' e=>?_,I.free,I.freeC,λp hp=>?_,tracked ⟨oc,hoc,I.freeC x c hc⟩ hs,by simpa using I.len⟩ ⟨c,hs, .inr hc⟩
  ·exact (hs.2 b (R1 (C1 (P0 e) (I.ok.cab x c hfn hc)))).trans (I.base.keep b o e n hb hx)
  ·obtain ⟨sl,e1⟩:=I.base.slot b o e n hb hx
   exact⟨sl,(hs.2 b (R1 (C1 (P0 e) (I.ok.cab x c hfn hc)))).trans e1⟩
  ·obtain ⟨o',e1⟩:=I.base.there b o e hx
   exact⟨o',(hs.2 b (R1 (C1 (P0 e) (I.ok.cab x c hfn hc)))).trans e1⟩
  ·by_cases hj:j=i
   ·subst hj
    rw[hi] at e1;cases e1
    rw[List.getElem?_set_self hiσ] at e2
    cases e2
    exact⟨u,r, .inr ⟨.inl hk,c,hc,hc'⟩⟩
   ·rw[List.getElem?_set_ne (Ne.symm hj)] at e2
    obtain⟨u',r',q⟩:=hl j y v' e1 e2 e3
    refine⟨u',r',?_⟩
    rcases q with q|⟨k,c',e,z'⟩
    ·exact .inl q
    ·refine .inr ⟨k,c',e,z'.sameBut hs ?_⟩
     rintro rfl
     exact hj (zkn hN e1 (I.ok.inj _ _ _ e hc▸hi))
  ·by_cases hcc:c'=c
   ·subst hcc;exact⟨_,hc'⟩
   ·obtain ⟨w2,z2⟩:=I.cell y c' e
    exact⟨w2,z2.sameBut hs hcc⟩
  ·obtain ⟨e,n,ne,nf,d⟩:=I.pin p hp
   refine⟨(hs.2 p.1 ?_).trans e,n,ne,nf,d⟩
   intro q
   rw[q,hoc] at e
   have q':oc=p.2:=A1 e
   exact d w' (by rw[←q'];exact hocd)
theorem zdd{Q:Unit->Shared->Prop}(I:Inv X pins σ H s)(hN:X.N.Nodup)(hi:X.N[i]?=some x)(hx:Loc X.env.scope x)(r:RelV v u)
 (h:∀s',Inv X pins (σ.set i (some v)) H s'->Q Unit.unit s') (hf:autoParam (X.fn x=true\/X.env.scope.names.lookup x=some .local) r6):wpAny M A (storeName X.env x u) Q E s:=
 znv I hN hi hx r (λs' I' _=>h s' I') hf
theorem Inv.call'{ch:List Addr}(I:Inv X pins σ H s)(ho:s'.os=s.os)(u:Un (frs X.stack) ch H H' s.heap s'.heap)(hok:HOk X.prog X.w H' s'.heap)(hg:AllBare s'.gens)
 (hch:∀b∈ch,(b∈X.ex\/X.s₀.heap.objs.size<=b)/\b≠X.env.locals/\(∀x c,X.env.cells.lookup x=some c->c≠b)/\∀p∈X.pn ++pins,p.1≠b):Inv X pins σ H' s':=by
 obtain⟨h',g',d',t',o'⟩:=s'
 have e:o'=s.os:=ho
 subst e
 exact I.call (g':=g') (t':=t') (d':=d') u hok hg hch
end
noncomputable abbrev XK:=Value->Option Addr->Hp->Prop
noncomputable abbrev St:=List (Option V)
variable{σ σ' σr:St}
noncomputable abbrev VK:=V->Hp->Prop
noncomputable abbrev TE:=St->Hp->VK->Prop
variable{te ti tl tv td tf:TE}
noncomputable abbrev TT:=St->Hp->(Bool->Hp->Prop)->Prop
variable{tc tc2:TT}
noncomputable abbrev TA:=St->Hp->(List V->Hp->Prop)->Prop
variable{ta:TA}
structure Ends where
 nx:St->Hp->Prop
 rt:VK
 bk:St->Hp->Prop:=λ_ _=>False
 ct:St->Hp->Prop:=λ_ _=>False
variable{ct:Value}{De:Ends}
noncomputable abbrev TS:=Ends->St->Hp->Prop
variable{tb sb:TS}
def EP(X:Cx)(pins:List (Addr×Obj))(σ:St)(Q:VK)(u:Value)(s':Shared):Prop:=∃v H',Inv X pins σ H' s'/\RelV v u/\Q v H'
def TP(X:Cx)(pins:List (Addr×Obj))(σ:St)(Q:Bool->Hp->Prop)(b:Bool)(s':Shared):Prop:=∃H',Inv X pins σ H' s'/\Q b H'
def AP(X:Cx)(pins:List (Addr×Obj))(σ:St)(Q:List V->Hp->Prop)(us:List Value)(s':Shared):Prop:=∃vs H',Inv X pins σ H' s'/\Vals vs us/\Q vs H'
def SP(X:Cx)(pins:List (Addr×Obj))(D:Ends)(f:Flow)(s':Shared):Prop:=
 match f with
 | .next=>∃σ' H',Inv X pins σ' H' s'/\D.nx σ' H'
 | .brk=>∃σ' H',Inv X pins σ' H' s'/\D.bk σ' H'
 | .cont=>∃σ' H',Inv X pins σ' H' s'/\D.ct σ' H'
 | .ret u=>∃v σ' H',Inv X pins σ' H' s'/\RelV v u/\D.rt v H'
def PE(X:Cx)(e:Expr)(t:TE):Prop:=
 ∀(pins:List (Addr×Obj)) (s:Shared) (σ:St) (H:Hp) (Q:VK),Inv X pins σ H s->t σ H Q->wpAny (model X.prog X.w) X.A (eval e X.env) (EP X pins σ Q) X.xe s
def PT(X:Cx)(e:Expr)(t:TT):Prop:=
 ∀(pins:List (Addr×Obj)) (s:Shared) (σ:St) (H:Hp) (Q:Bool->Hp->Prop),Inv X pins σ H s->t σ H Q->wpAny (model X.prog X.w) X.A (isTrue e X.env (eval e X.env)) (TP X pins σ Q) X.xe s
def PW(X:Cx)(e:Expr)(t:TT):Prop:=
 ∀(whole:Sem Value) (pins:List (Addr×Obj)) (s:Shared) (σ:St) (H:Hp) (Q:Bool->Hp->Prop),Inv X pins σ H s->t σ H Q->wpAny (model X.prog X.w) X.A (isTrue e X.env whole) (TP X pins σ Q) X.xe s
theorem PW.pt{t:TT}(h:PW X e t):PT X e t:=h _
variable{pt:Pos}
def PA(X:Cx)(es:List Expr)(t:TA):Prop:=
 ∀(pos:Pos) (pins:List (Addr×Obj)) (s:Shared) (σ:St) (H:Hp) (Q:List V->Hp->Prop),Inv X pins σ H s->t σ H Q->wpAny (model X.prog X.w) X.A (spliced (backTo pos (starEach es X.env))) (AP X pins σ Q) X.xe s
def PS(X:Cx)(st:Stmt)(t:TS):Prop:=
 ∀(pins:List (Addr×Obj)) (s:Shared) (σ:St) (H:Hp) (D:Ends),Inv X pins σ H s->t D σ H->wpAny (model X.prog X.w) X.A (exec st X.env) (SP X pins D) X.xe s
def PSs(X:Cx)(st:List Stmt)(t:TS):Prop:=
 ∀(pins:List (Addr×Obj)) (s:Shared) (σ:St) (H:Hp) (D:Ends),Inv X pins σ H s->t D σ H->wpAny (model X.prog X.w) X.A (execs st X.env) (SP X pins D) X.xe s
theorem thn{t:Sem α}{Q Q':α->Shared->Prop}(h:wpAny M A t Q E s)(hQ:∀a s,Q a s->Q' a s):wpAny M A t Q' E s:=Y1 h hQ λ_ _ x=>x
section
noncomputable def zsb(i:Nat):TE:=λσ H Q=>∃v,σ[i]?=some (some v)/\Q v H
noncomputable def tC(v:V):TE:=λ_ H Q=>Q v H
theorem zpT(hN:X.N[i]?=some x)(hv:Vis X.env.scope x)(hd:autoParam ((x==("__debug__":Str))=false) w4)(hcd:autoParam ((x==("__classdict__":Str))=false) w4):PE X (.Name x pos) (zsb i):=by
 intro pins s σ H Q I h
 obtain⟨v,e,h⟩:=h
 obtain⟨m,hn,hl⟩:=I.loc
 obtain⟨u,r,l⟩:=hl i x v hN e hv
 have fin:EP X pins σ Q u s:=⟨v,H,I,r,h⟩
 rcases l with⟨hk,hm⟩|⟨hk,c,hc,hcell⟩
 ·exact wpAny_Name (wpAny_loadName_local I.ok.kind hk hn hm fin) hd
 ·rcases hk with hk|hk
  ·exact wpAny_Name (wpAny_loadName_cell I.ok.kind hk hc hcell fin) hd
  ·exact wpAny_Name (wpAny_loadName_free I.ok.kind hk hc hcell fin hcd) hd
theorem zoI{i j pos}:PE X (.Constant (.int i) j pos) (tC (.int i)):=λ_ _ _ H _ I h=>wpAny_Constant_int ⟨.int i,H,I.tok _,⟨_,rfl⟩,h⟩
theorem zrI{b j pos}:PE X (.Constant (.bool b) j pos) (tC (.bl b)):=λ_ _ _ H _ I h=>Constant_bool ⟨.bl b,H,I,rfl,h⟩
theorem zpC{j pos}:PE X (.Constant .none j pos) (tC .non):=λ_ _ _ H _ I h=>Constant_none ⟨.non,H,I,rfl,h⟩
theorem zo3{x j pos}:PE X (.Constant (.str x) j pos) (tC (.str x)):=λ_ _ _ H _ I h=>Calls.Constant_str ⟨.str x,H,I.tok _,⟨_,rfl⟩,h⟩
def Gl(X:Cx)(x:Str):Prop:=X.env.kindOf x=some .globalImplicit
theorem zmz(I:Inv X pins σ H s)(hg:Gl X x)(hm:X.mg x=some u)(h:Q u s)
 (hd:autoParam ((x==("__debug__":Str))=false) w4):wpAny (model X.prog X.w) X.A (eval (.Name x pos) X.env) Q E s:=
 Calls.Name_function_global I.ok.kind hg (Calls.loadGlobal_global (by rw[I.ok.glob];exact I.mod.glob.keeps I.bk) hm h) hd
theorem zeh(I:Inv X pins σ H s)(hg:Gl X x)(hm:X.mg x=none)(hv:bootBuiltins x=some u)(h:Q u s)
 (hn:autoParam (x≠"__name__") w4) (hd:autoParam ((x==("__debug__":Str))=false) w4):wpAny (model X.prog X.w) X.A (eval (.Name x pos) X.env) Q E s:=by
 obtain⟨mb,h1,h2⟩:=I.mod.blt
 exact Calls.Name_function_global I.ok.kind hg (Calls.loadGlobal_builtin (by rw[I.ok.glob];exact I.mod.glob.keeps I.bk) hm (by rw[I.ok.blt];exact h1.keeps I.bk) ((h2 x hn).trans hv) h) hd
theorem zrb(hg:Gl X x)(hm:X.mg x=some u)(r:RelV v u)(hd:autoParam ((x==("__debug__":Str))=false) w4):PE X (.Name x pos) (tC v):=
 λ_ _ _ H _ I h=>zmz I hg hm ⟨v,H,I,r,h⟩ hd
theorem zqX(hg:Gl X x)(hm:X.mg x=none)(hv:bootBuiltins x=some u)(r:RelV v u)(hn:autoParam (x≠"__name__") w4)(hd:autoParam ((x==("__debug__":Str))=false) w4):PE X (.Name x pos) (tC v):=
 λ_ _ _ H _ I h=>zeh I hg hm hv ⟨v,H,I,r,h⟩ hn hd
variable{a b:Expr}{ta tb:TE}
noncomputable def tB(t:TE):TT:=λσ H Q=>t σ H λx H1=>∃c,x= .bl c/\Q c H1
theorem zsp{t:TE}(h:PE X e t)(he:autoParam (∀whole,isTrue e X.env whole=(do let v ←whole;standAt e.pos;holding [v] (truthy v))) u5):PT X e (tB t):=by
 intro pins s σ H Q I hw
 refine isTrue_plain (thn (h pins s σ H _ I hw) λv s1 zq=>?_) (he _)
 obtain⟨x,H1,I1,r1,q1⟩:=zq
 obtain⟨d,rfl,q⟩:=q1
 cases r1
 exact wpAny_truthy_bool ⟨H1,I1,q⟩
variable{tA tB':TT}
noncomputable def zt0(t u:TT):TT:=λσ H Q=>t σ H λc H1=>if c=true then u σ H1 Q else Q false H1
noncomputable def tOr(t u:TT):TT:=λσ H Q=>t σ H λc H1=>if c=true then Q true H1 else u σ H1 Q
noncomputable def ztl(t:TT):TT:=λσ H Q=>t σ H λc H1=>Q (!c) H1
theorem zqT(ha:PT X a tA):PW X (.BoolOp .And [a] pos) tA:=by
 intro wh pins s σ H Q I h
 refine isTrue_and (thn (ha pins s σ H Q I h) λc s1 e=>?_)
 cases c with
 |true=>exact isTrue_and_nil e
 |false=>exact e
theorem zss(ha:PT X a tA):PW X (.BoolOp .Or [a] pos) tA:=by
 intro wh pins s σ H Q I h
 refine isTrue_or (thn (ha pins s σ H Q I h) λc s1 e=>?_)
 cases c with
 |false=>exact isTrue_or_nil e
 |true=>exact e
theorem zs7(ha:PT X a tA)(hb:PW X (.BoolOp .And (b::rest) pos) tB'):PW X (.BoolOp .And (a::b::rest) pos) (zt0 tA tB'):=by
 intro wh pins s σ H Q I h
 refine isTrue_and (thn (ha pins s σ H _ I h) λc s1 zq=>?_)
 obtain⟨H1,I1,q1⟩:=zq
 cases c with
 |true=>exact hb wh pins s1 σ H1 Q I1 q1
 |false=>exact ⟨H1,I1,q1⟩
theorem ztY(ha:PT X a tA)(hb:PW X (.BoolOp .Or (b::rest) pos) tB'):PW X (.BoolOp .Or (a::b::rest) pos) (tOr tA tB'):=by
 intro wh pins s σ H Q I h
 refine isTrue_or (thn (ha pins s σ H _ I h) λc s1 zq=>?_)
 obtain⟨H1,I1,q1⟩:=zq
 cases c with
 |true=>exact ⟨H1,I1,q1⟩
 |false=>exact hb wh pins s1 σ H1 Q I1 q1
theorem zs1(ha:PT X a tA):PT X (.UnaryOp .Not a pos) (ztl tA):=by
 intro pins s σ H Q I h
 exact isTrue_not (ha pins s σ H (λc H1=>Q (!c) H1) I h)
noncomputable def zrP(ta tb:TE):TE:=λσ H Q=>ta σ H λx H1=>∃c,x= .bl c/\if c=true then tb σ H1 Q else Q (.bl false) H1
noncomputable def zti(ta tb:TE):TE:=λσ H Q=>ta σ H λx H1=>∃c,x= .bl c/\if c=true then Q (.bl true) H1 else tb σ H1 Q
noncomputable def zrD(ta:TE):TE:=λσ H Q=>ta σ H λx H1=>∃c,x= .bl c/\Q (.bl (!c)) H1
theorem zs8{op}{t:TE}(h:PE X a t):PE X (.BoolOp op [a] pos) t:=λpins s σ H Q I hw=>BoolOp_one (h pins s σ H Q I hw)
theorem zs6(ha:PE X a ta)(hb:PE X (.BoolOp .And (b::rest) pos) tb):PE X (.BoolOp .And (a::b::rest) pos) (zrP ta tb):=by
 intro pins s σ H Q I h
 refine BoolOp_and (thn (ha pins s σ H _ I h) λv s1 zq=>?_)
 obtain⟨x,H1,I1,r1,q1⟩:=zq
 obtain⟨c,rfl,q1⟩:=q1
 cases r1
 refine wpAny_truthy_bool ?_
 cases c with
 |true=>exact hb pins s1 σ H1 Q I1 q1
 |false=>exact ⟨.bl false,H1,I1,rfl,q1⟩
theorem ztG(ha:PE X a ta)(hb:PE X (.BoolOp .Or (b::rest) pos) tb):PE X (.BoolOp .Or (a::b::rest) pos) (zti ta tb):=by
 intro pins s σ H Q I h
 refine BoolOp_or (thn (ha pins s σ H _ I h) λv s1 zq=>?_)
 obtain⟨x,H1,I1,r1,q1⟩:=zq
 obtain⟨c,rfl,q1⟩:=q1
 cases r1
 refine wpAny_truthy_bool ?_
 cases c with
 |false=>exact hb pins s1 σ H1 Q I1 q1
 |true=>exact ⟨.bl true,H1,I1,rfl,q1⟩
theorem zs2(ha:PE X a ta):PE X (.UnaryOp .Not a pos) (zrD ta):=by
 intro pins s σ H Q I h
 refine UnaryOp_ (thn (ha pins s σ H _ I h) λv s1 zq=>?_)
 obtain⟨x,H1,I1,r1,q1⟩:=zq
 obtain⟨c,rfl,q1⟩:=q1
 cases r1
 exact not_of (wpAny_truthy_bool ⟨.bl (!c),H1,I1,rfl,q1⟩)
noncomputable def tIf(t:TT)(ta tb:TE):TE:=λσ H Q=>t σ H λc H1=>if c=true then ta σ H1 Q else tb σ H1 Q
theorem zpx{c:Expr}(hc:PT X c tA)(ha:PE X a ta)(hb:PE X b tb):PE X (.IfExp c a b pos) (tIf tA ta tb):=by
 intro pins s σ H Q I h
 refine wpAny_IfExp (thn (hc pins s σ H _ I h) λd s1 zq=>?_)
 obtain⟨H1,I1,q1⟩:=zq
 cases d with
 |true=>exact ha pins s1 σ H1 Q I1 q1
 |false=>exact hb pins s1 σ H1 Q I1 q1
end
def SqL(K:W.Frag)(H:Hp)(a:Addr)(xs:List V):Prop:=
 Rd H a (.lst xs)\/
  ∃(o:Obj) (its:Array Value) (n:Nat),K.lookup a=some o/\o.cls= .type "list"/\o.dict=none/\o.data= .seq its n/\its.size<=sizeLine/\Vals xs its.toList
def SqT(K:W.Frag)(H:Hp)(a:Addr)(xs:List V):Prop:=
 Rd H a (.tup xs)\/
  ∃(o:Obj) (its:Array Value) (n:Nat),K.lookup a=some o/\o.cls= .type "tuple"/\o.data= .seq its n/\its.size<=sizeLine/\Vals xs its.toList
noncomputable def zut:Value->Option V
 | .none=>some .non
 | .bool b=>some (.bl b)
 | .int i _=>some (.int i)
 | .str x _=>some (.str x)
 | .bytes b _=>some (.byt b)
 | .float b _=>some (.flt b)
 | .ref a=>some (.ref a)
 | .type n=>some (.ty n)
 |_=>none
theorem RelV.abs{x:V}(r:RelV x u):zut u=some x:=by
 cases x with
 |non=>cases r;rfl
 |bl _=>cases r;rfl
 |int _=>obtain ⟨t,rfl⟩:=r;rfl
 |str _=>obtain ⟨t,rfl⟩:=r;rfl
 |byt _=>obtain ⟨t,rfl⟩:=r;rfl
 |flt _=>obtain ⟨t,rfl⟩:=r;rfl
 |ref _=>cases r;rfl
 |ty _=>cases r;rfl
theorem RelV.inj{x y:V}(r:RelV x u)(q:RelV y u):x=y:=A1 (r.abs.symm.trans q.abs)
theorem Vals.inj(h:Vals xs us)(h':Vals ys us):xs=ys:=by
 induction h generalizing ys with
 |nil=>cases h';rfl
 |cons r t ih=>
  cases h' with
  |cons r' t'=>rw[r.inj r',ih t']
theorem SqL.of(h:H a=some (.lst xs)):SqL K H a xs:= .inl (.inl h)
theorem SqT.of(h:H a=some (.tup xs)):SqT K H a xs:= .inl (.inl h)
theorem Inv.list(I:Inv X pins σ H s)(h:SqL X.K H a xs):∃its:List Value,Vals xs its/\PlainL s.heap a its.toArray/\xs.length<=sizeLine:=by
 rcases h with h|⟨o,its,n,hk,hc,hd,hs,hz,r⟩
 ·obtain ⟨z,its,n,r,e⟩:=h.ok I.hok
  exact⟨its,r,⟨_,n,e,rfl,rfl,rfl⟩,z⟩
 ·refine ⟨its.toList,r,⟨o,n,I.kIn a o hk,hc,hd,by simpa using hs⟩,?_⟩
  have e:=r.length
  simp only[Array.length_toList] at e
  lia
theorem Inv.tuple(I:Inv X pins σ H s)(h:SqT X.K H a xs):∃its:List Value,Vals xs its/\IsTup s.heap a its.toArray/\xs.length<=sizeLine:=by
 rcases h with h|⟨o,its,n,hk,hc,hs,hz,r⟩
 ·obtain ⟨z,its,r,p,_⟩:=h.ok I.hok
  exact⟨its,r,p,z⟩
 ·refine ⟨its.toList,r,⟨o,I.kIn a o hk,hc,n,by simpa using hs⟩,?_⟩
  have e:=r.length
  simp only[Array.length_toList] at e
  lia
theorem Inv.list_inj(I:Inv X pins σ H s)(h:SqL X.K H a xs)(h':SqL X.K H a ys):xs=ys:=by
 obtain⟨its,r,⟨o,n,e,_,_,d⟩,_⟩:=I.list h
 obtain⟨its',r',⟨o',n',e',_,_,d'⟩,_⟩:=I.list h'
 rw[e] at e';cases e'
 rw[d] at d'
 injection d' with d1 _
 have:its=its':=by simpa using congrArg Array.toList d1
 subst this
 exact r.inj r'
theorem Inv.tuple_inj(I:Inv X pins σ H s)(h:SqT X.K H a xs)(h':SqT X.K H a ys):xs=ys:=by
 obtain⟨its,r,⟨o,e,_,n,d⟩,_⟩:=I.tuple h
 obtain⟨its',r',⟨o',e',_,n',d'⟩,_⟩:=I.tuple h'
 rw[e] at e';cases e'
 rw[d] at d'
 injection d' with d1 _
 have:its=its':=by simpa using congrArg Array.toList d1
 subst this
 exact r.inj r'
abbrev Cx.wish(X:Cx)(E:Value->Shared->Prop):Cx:={X with xe:=E}
noncomputable abbrev Cx.nox(X:Cx):Cx:=X.wish λ_ _=>False
theorem Cx.Ok.wish(ok:X.Ok)(E:Value->Shared->Prop):(X.wish E).Ok:=
 ⟨ok.mod,ok.kind,ok.glob,ok.blt,ok.above,ok.inj,ok.has,ok.cab,ok.hd,ok.frames,ok.stk,ok.exf,ok.bs,ok.bsz,ok.noex,ok.exfs,ok.funs,ok.frf⟩
theorem Cx.Ok.unwish(ok:(X.wish E).Ok):X.Ok:=
 ⟨ok.mod,ok.kind,ok.glob,ok.blt,ok.above,ok.inj,ok.has,ok.cab,ok.hd,ok.frames,ok.stk,ok.exf,ok.bs,ok.bsz,ok.noex,ok.exfs,ok.funs,ok.frf⟩
theorem Inv.wish(I:Inv X pins σ H s)(E:Value->Shared->Prop):Inv (X.wish E) pins σ H s:=⟨I.ok.wish E,I.os,I.bare,I.base,I.loc,I.cell,I.free,I.freeC,I.pin,I.hok,I.len⟩
theorem Inv.unwish(I:Inv (X.wish E) pins σ H s):Inv X pins σ H s:=⟨I.ok.unwish,I.os,I.bare,I.base,I.loc,I.cell,I.free,I.freeC,I.pin,I.hok,I.len⟩
theorem SP.unwish{D:Ends}{f:Flow}(h:SP (X.wish E) pins D f s'):SP X pins D f s':=by
 cases f with
 |next=>obtain ⟨σ',H',I,q⟩:=h;exact⟨σ',H',I.unwish,q⟩
 |brk=>obtain ⟨σ',H',I,q⟩:=h;exact⟨σ',H',I.unwish,q⟩
 |cont=>obtain ⟨σ',H',I,q⟩:=h;exact⟨σ',H',I.unwish,q⟩
 |ret u=>obtain ⟨v,σ',H',I,r,q⟩:=h;exact⟨v,σ',H',I.unwish,r,q⟩
theorem PSs.nox{st:List Stmt}{t:TS}(h:PSs X.nox st t):PSs X st t:=λpins s σ H D I hw=>
 Y1 (h pins s σ H D (I.wish _) hw) (λ_ _ q=>q.unwish) λ_ _ z=>False.elim z
section
variable{st:Stmt}{rest:List Stmt}{t u:TS}
noncomputable def zrE:TS:=λD σ H=>D.nx σ H
noncomputable def zt5(t u:TS):TS:=λD σ H=>t {D with nx:=u D} σ H
theorem zqI:PSs X [] zrE:=λ_ _ σ H _ I h=>wpAny_execs_nil ⟨σ,H,I,h⟩
theorem zkp(h1:PS X st t)(h2:PSs X rest u):PSs X (st::rest) (zt5 t u):=by
 intro pins s σ H D I h
 refine wpAny_execs_cons (thn (h1 pins s σ H {D with nx:=u D} I h) λf s1 q=>?_)
 cases f with
 |next=>
  obtain⟨σ',H',I',q⟩:=q
  exact h2 pins s1 σ' H' D I' q
 |ret v=>exact q
 |brk=>exact q
 |cont=>exact q
theorem zqW(h1:PS X st t):PSs X [st] t:=by
 intro pins s σ H D I h
 refine wpAny_execs_cons (thn (h1 pins s σ H D I h) λf s1 q=>?_)
 cases f with
 |next=>exact wpAny_execs_nil q
 |ret v=>exact q
 |brk=>exact q
 |cont=>exact q
noncomputable def zrM:TS:=λD σ H=>D.ct σ H
theorem zkw:PS X (.Continue pos) zrM:=λ_ _ σ H _ I h=>wpAny_Continue ⟨σ,H,I,h⟩
theorem Inv.quiet(I:Inv X pins σ H s):interactive X.env=false:=by simp[interactive,I.ok.kind]
noncomputable def zrB(te:TE):TS:=λD σ H=>te σ H λ_ H1=>D.nx σ H1
theorem zrq(he:PE X e te)(hs:autoParam (swapsWith e none pos.line X.env=pure false) y3):PS X (.Expr e pos) (zrB te):=by
 intro pins s σ H D I h
 refine wpAny_Expr_any (thn (he pins s σ H _ I h) λv s1 zq=>?_) I.quiet hs
 obtain⟨x,H1,I1,r1,q1⟩:=zq
 exact⟨σ,H1,I1,q1⟩
noncomputable def zt4(te:TE):TS:=λD σ H=>te σ H D.rt
theorem zsj(he:PE X e te):PS X (.Return (some e) pos) (zt4 te):=by
 intro pins s σ H D I h
 refine wpAny_Return_some (thn (he pins s σ H _ I h) λv s1 zq=>?_)
 obtain⟨x,H1,I1,r1,q1⟩:=zq
 exact⟨x,σ,H1,I1,r1,q1⟩
noncomputable def ztC(c:TT)(t u:TS):TS:=λD σ H=>c σ H λb H1=>if b=true then t D σ H1 else u D σ H1
theorem ztI{c:Expr}{a b:List Stmt}(hc:PT X c tc)(ha:PSs X a t)(hb:PSs X b u):PS X (.If c a b pos) (ztC tc t u):=by
 intro pins s σ H D I h
 refine wpAny_If (thn (hc pins s σ H _ I h) λd s1 zq=>?_)
 obtain⟨H1,I1,q1⟩:=zq
 cases d with
 |true=>exact ha pins s1 σ H1 D I1 q1
 |false=>exact hb pins s1 σ H1 D I1 q1
end
noncomputable abbrev TG:=V->St->Hp->(St->Hp->Prop)->Prop
variable{g g2:TG}
noncomputable abbrev TGs:=List V->St->Hp->(St->Hp->Prop)->Prop
variable{tgs:TGs}
def PG(X:Cx)(target:Expr)(t:TG):Prop:=
 ∀(pins:List (Addr×Obj)) (s:Shared) (σ:St) (H:Hp) (v:V) (u:Value) (Q:St->Hp->Prop),Inv X pins σ H s->RelV v u->t v σ H Q->
  wpAny (model X.prog X.w) X.A (assign target X.env u) (λ_ s'=>∃σ' H',Inv X pins σ' H' s'/\Q σ' H') X.xe s
def PGs(X:Cx)(ts:List Expr)(t:TGs):Prop:=
 ∀(pins:List (Addr×Obj)) (s:Shared) (σ:St) (H:Hp) (vs:List V) (us:List Value) (Q:St->Hp->Prop),Inv X pins σ H s->Vals vs us->t vs σ H Q->
  wpAny (model X.prog X.w) X.A (assignInOrder ((assignEach ts X.env).map (·.2)) us) (λ_ s'=>∃σ' H',Inv X pins σ' H' s'/\Q σ' H') X.xe s
noncomputable abbrev zqe:=V->V->V->Hp->(Hp->Prop)->Prop
def zr8(X:Cx)(t:zqe):Prop:=
 ∀(pins:List (Addr×Obj)) (s:Shared) (σ:St) (H:Hp) (o i v:V) (ov iv u:Value) (Q:Hp->Prop),Inv X pins σ H s->RelV o ov->RelV i iv->RelV v u->t o i v H Q->
  wpAny (model X.prog X.w) X.A (setItem ov iv u) (λ_ s'=>∃H',Inv X pins σ H' s'/\Q H') X.xe s
noncomputable abbrev TIp:=V->V->Hp->VK->Prop
def PIp(X:Cx)(op:Operator)(t:TIp):Prop:=
 ∀(pins:List (Addr×Obj)) (s:Shared) (σ:St) (H:Hp) (x y:V) (v u:Value) (Q:VK),Inv X pins σ H s->RelV x v->RelV y u->t x y H Q->
  wpAny (model X.prog X.w) X.A (inplaceOp op v u) (EP X pins σ Q) X.xe s
noncomputable def zb1(i:Nat):TG:=λv σ H Q=>Q (σ.set i (some v)) H
theorem zmU(hN:X.N.Nodup)(hi:X.N[i]?=some x)(hx:Loc X.env.scope x)(hf:autoParam (X.fn x=true\/X.env.scope.names.lookup x=some .local) r6):PG X (.Name x pos) (zb1 i):=by
 intro pins s σ H v u Q I r h
 exact wpAny_assign_Name (zdd I hN hi hx r (λs' I'=>⟨_,H,I',h⟩) hf)
noncomputable def zta:TGs:=λvs σ H Q=>vs=[]/\Q σ H
noncomputable def zrN(t:TG)(u:TGs):TGs:=λvs σ H Q=>∃v r,vs=v::r/\t v σ H λσ' H'=>u r σ' H' Q
theorem zqo:PGs X [] zta:=by
 intro pins s σ H vs us Q I r h
 obtain⟨e,h⟩:=h
 subst e
 cases r
 exact assignInOrder_nil ⟨σ,H,I,h⟩
theorem zpY{t:TG}{u:TGs}(h1:PG X e t)(h2:PGs X es u)
 (hs:autoParam ((assignEach (e::es) X.env).map (·.2)=assign e X.env::(assignEach es X.env).map (·.2)) y3):PGs X (e::es) (zrN t u):=by
 intro pins s σ H vs us Q I r h
 obtain⟨v,vr,e1,h⟩:=h
 subst e1
 cases r with
 |cons r rr=>
  rw[hs]
  refine assignInOrder_cons (thn (h1 pins s σ H _ _ _ I r h) λ_ s1 zq=>?_)
  obtain⟨σ1,H1,I1,q1⟩:=zq
  exact h2 pins s1 σ1 H1 _ _ Q I1 rr q1
noncomputable def zs3(K:W.Frag)(n:Nat)(t:TGs):TG:=λv σ H Q=>∃a xs,v= .ref a/\SqT K H a xs/\xs.length=n/\t xs σ H Q
theorem zsE{t:TGs}(hc:X.calm=true)(h:PGs X es t)
 (hn:autoParam ((assignEach es X.env).length=n) y3) (hst:autoParam ((assignEach es X.env).findIdx? (·.1)=none) y3):PG X (.Tuple es k pos) (zs3 X.K n t):=by
 intro pins s σ H v u Q I r hw
 obtain⟨a,xs,e1,hq,hl,hw⟩:=hw
 subst e1
 cases r
 obtain⟨its,rv,ht,hz⟩:=I.tuple hq
 refine assign_Tuple_tuple (I.ok.hd hc) ht (by simp[hn,←hl,rv.length]) hst λh' hx=>?_
 have I1:Inv X pins σ H {s with heap:=h'}:=I.kept (t':=s.toks) λb o e=>hx b o (R1 (P0 e)) e
 exact h pins _ σ H xs _ Q I1 (by simpa using rv) hw
noncomputable def ztm(to ti:TE)(t:zqe):TG:=λv σ H Q=>to σ H λo H1=>ti σ H1 λi H2=>t o i v H2 λH3=>Q σ H3
theorem zsf{o i:Expr}{to:TE}{t:zqe}(ho:PE X o to)(hi:PE X i ti)(hs:zr8 X t)
 (ha:autoParam (∀v,assign (.Subscript o i pos) X.env v=(do
   let ov ←holding [v] (eval o X.env)
   let iv ←holding [v,ov] (eval i X.env)
   standAt pos
   holding [v,ov,iv] (setItem ov iv v)
   release [v,ov,iv] [])) u5):PG X (.Subscript o i pos) (ztm to ti t):=by
 intro pins s σ H v u Q I r h
 rw[ha]
 refine A0 (wpAny_holding (thn (ho pins s σ H _ I h) λov s1 zq=>?_))
 obtain⟨x,H1,I1,r1,q1⟩:=zq
 refine A0 (wpAny_holding (thn (hi pins s1 σ H1 _ I1 q1) λiv s2 zq=>?_))
 obtain⟨y,H2,I2,r2,q2⟩:=zq
 refine A0 (wpAny_standAt (A0 (wpAny_holding (thn (hs pins s2 σ H2 x y v ov iv u _ I2 r1 r2 r q2) λ_ s3 zq=>?_))))
 obtain⟨H3,I3,q3⟩:=zq
 exact wpAny_release ⟨σ,H3,I3,q3⟩
noncomputable def zlp(te:TE)(g:TG):TS:=λD σ H=>te σ H λx H1=>g x σ H1 D.nx
theorem zsA(he:PE X e te)(hg:PG X tg g)(hs:autoParam (swapsWithSole [tg] e pos.line X.env=pure false) y3)(hw:autoParam (swappedStores [tg] e X.env=pure none) y3)
 (h1:autoParam ((assignEach [tg] X.env).map (·.2)=[assign tg X.env]) y3):PS X (.Assign [tg] e pos) (zlp te g):=by
 intro pins s σ H D I h
 refine wpAny_Assign_stores (thn (he pins s σ H _ I h) λv s1 zq=>?_) hs hw
 obtain⟨x,H1,I1,r1,q1⟩:=zq
 rw[h1]
 exact thn (hg pins s1 σ H1 x v _ I1 r1 q1) λ_ s2 q=>q
theorem zps(hN:X.N.Nodup)(hi:X.N[i]?=some x)(hx:Loc X.env.scope x)(he:PE X e te)(hs:autoParam (swapsWith e (some (.Name x pos')) pos.line X.env=pure false) y3)(hf:autoParam (X.fn x=true\/X.env.scope.names.lookup x=some .local) r6):
 PS X (.Assign [.Name x pos'] e pos) (zlp te (zb1 i)):=by
 intro pins s σ H D I h
 refine wpAny_Assign_Name (thn (he pins s σ H _ I h) λv s1 zq=>?_) hs
 obtain⟨y,H1,I1,r1,q1⟩:=zq
 exact zdd I1 hN hi hx r1 (λs2 I2=>⟨_,H1,I2,q1⟩) hf
noncomputable def ztN(i j:Nat)(ta:TA):TS:=λD σ H=>ta σ H λvs H1=>∃v w,vs=[v,w]/\D.nx ((σ.set i (some v)).set j (some w)) H1
theorem zrY{a b:Expr}{kt k2 pt2}(hc:X.calm=true)(hN:X.N.Nodup)(hi:X.N[i]?=some x)(hj:X.N[j]?=some y)(hij:i≠j)
 (hx:X.env.scope.names.lookup x=some .local) (hy:X.env.scope.names.lookup y=some .local) (ha:PA X [a,b] ta)
 (hw:swappedStores [.Tuple [.Name x px, .Name y py] kt pt] (.Tuple [a,b] k2 pt2) X.env=pure (some [x,y]))
 (hs:autoParam (swapsWithSole [.Tuple [.Name x px, .Name y py] kt pt] (.Tuple [a,b] k2 pt2) pos.line X.env=pure false) y3):
 PS X (.Assign [.Tuple [.Name x px, .Name y py] kt pt] (.Tuple [a,b] k2 pt2) pos) (ztN i j ta):=by
 intro pins s σ H D I h
 rw[exec_Assign_arm]
 refine A0 (wpAny_standAt ?_)
 rw[hs]
 refine A0 (F0 ?_)
 rw[V0 ⋯]
 refine A0 (Tuple_ (thn (ha _ pins s σ H _ I h) λus s1 zq=>?_))
 obtain⟨vs,H1,I1,r1,q1⟩:=zq
 obtain⟨v,w,e1,q1⟩:=q1
 subst e1
 obtain⟨u1,u2,rfl,rv,rw'⟩:∃u1 u2,us=[u1,u2]/\RelV v u1/\RelV w u2:=by
  cases r1 with
  |cons p q=>
   cases q with
   |cons p' q'=>
    cases q'
    exact⟨_,_,rfl,p,p'⟩
 refine wpAny_newObj_type ?_ (by show 2<=sizeLine;decide)
 have I2:Inv X pins σ H1 {s1 with heap:=s1.heap.push {cls:= .type "tuple",data:= .seq [u1,u2].toArray}}:=I1.kept (t':=s1.toks) λb o e=>C0 _ e
 rw[hw]
 refine A0 (F0 ?_)
 show wpAny (model X.prog X.w) X.A (do rule "assign.swapped-stores";let items ←unpackItems (.ref s1.heap.objs.size) 2 none;assignInOrder [λv=>bindName X.env y v,λv=>bindName X.env x v] items.reverse;pure Flow.next) _ _ _
 refine A0 (wpAny_rule (A0 (unpackItems_tuple (items:= #[u1,u2]) (I.ok.hd hc) (IsTup.new s1.heap _) λh' hx'=>?_)))
 have I3:=I2.kept (h':=h') (t':=s1.toks) λb o e=>hx' b o (R1 (P0 e)) e
 show wpAny _ _ (assignInOrder [λv=>bindName X.env y v,λv=>bindName X.env x v] [u2,u1]>>=λ_=>pure Flow.next) _ _ _
 refine A0 (assignInOrder_cons (wpAny_bindName (zdd I3 hN hj (.inl hy) rw' (λs2 I4=>?_) (.inr hy))))
 refine assignInOrder_cons (wpAny_bindName (zdd I4 hN hi (.inl hx) rv (λs3 I5=>assignInOrder_nil (F0 ?_)) (.inr hx)))
 rw[List.set_comm _ _ (Ne.symm hij)] at I5
 exact⟨_,H1,I5,q1⟩
noncomputable def ztT(i:Nat)(te:TE)(ti:TIp):TS:=λD σ H=>∃x,σ[i]?=some (some x)/\te σ H λy H1=>ti x y H1 λz H2=>D.nx (σ.set i (some z)) H2
theorem zsF{op:Operator}{ti:TIp}(hN:X.N.Nodup)(hi:X.N[i]?=some x)(hx:Loc X.env.scope x)(he:PE X e te)(ho:PIp X op ti)(hf:autoParam (X.fn x=true\/X.env.scope.names.lookup x=some .local) r6):
 PS X (.AugAssign (.Name x pos') op e pos) (ztT i te ti):=by
 intro pins s σ H D I h
 obtain⟨v,e1,h⟩:=h
 obtain⟨m,hn,hl⟩:=I.loc
 have vis:Vis X.env.scope x:=by rcases hx with k|k;exact .inl k;exact .inr (.inl k)
 obtain⟨u,r,l⟩:=hl i x v hi e1 vis
 refine wpAny_AugAssign_Name ?_
 have go:wpAny (model X.prog X.w) X.A (eval e X.env) (λw s₂=>wpAny (model X.prog X.w) X.A (inplaceOp op u w) (λr s₃=>wpAny (model X.prog X.w) X.A (storeName X.env x r) (λ_=>SP X pins D .next) X.xe s₃) X.xe s₂) X.xe s:=by
  refine thn (he pins s σ H _ I h) λw s1 zq=>?_
  obtain⟨y,H1,I1,r1,q1⟩:=zq
  refine thn (ho pins s1 σ H1 v y u w _ I1 r r1 q1) λz s2 zq=>?_
  obtain⟨zv,H2,I2,r2,q2⟩:=zq
  exact zdd I2 hN hi hx r2 (λs3 I3=>⟨_,H2,I3,q2⟩) hf
 rcases l with⟨hk,hm⟩|⟨hk,c,hc,hcell⟩
 ·exact wpAny_loadName_local I.ok.kind hk hn hm go
 ·rcases hk with hk|hk
  ·exact wpAny_loadName_cell I.ok.kind hk hc hcell go
  ·rcases hx with k|k
   ·have:X.env.scope.names.lookup x=some .free:=hk
    rw[k] at this;cases this
   ·have:X.env.scope.names.lookup x=some .free:=hk
    rw[k] at this;cases this
structure It where
 go:Nat->Hp->Prop
 yld:Nat->Hp->V->Hp->Prop
 stop:Nat->Hp->Prop
variable{J:It}
def zc4(X:Cx)(pins:List (Addr×Obj))(H:Hp)(b:Addr):Prop:=
 H b=none/\b≠X.env.locals/\b∉X.fs/\(b∈X.ex\/X.s₀.heap.objs.size<=b)/\(∀x c,X.env.cells.lookup x=some c->c≠b)/\∀p∈X.pn ++pins,p.1≠b
theorem Inv.fpOk{b:Addr}(I:Inv X pins σ H s)(hb:s.heap.objs.size<=b)(hn:H' b=none):zc4 X pins H' b:=by
 refine⟨hn,Nat.ne_of_gt (C1 I.lt hb),I.nofs hb, .inr (F1 I.sz hb),λx c e z=>?_,λp hp z=>?_⟩
 ·obtain ⟨v,q⟩:=I.cell x c e
  exact absurd (C1 q.lt (by rw[z];exact hb)) (Z1 _)
 ·exact absurd (C1 (P0 (I.pin p hp).1) (by rw[z];exact hb)) (Z1 _)
structure Turn(P:Program)(w:World)(K:W.Frag)(tg:Expr)(J:It)(fp:List Addr)(it:Addr)(tn:Nat->Heap->Prop):Prop where
 mem:it∈fp
 obj:∀i h,tn i h->∀b∈fp,∃o,h.get? b=some o/\∀v,o.data≠ .cell v
 keep:∀i h h',tn i h->(∀b∈fp,∀o,h.get? b=some o->h'.get? b=some o)->tn i h'
 item:∀(X:Cx),X.prog=P->X.w=w->X.K=K->X.calm=true->∀(i:Nat) (pins:List (Addr×Obj)) (s:Shared) (σ:St) (H:Hp) (E:Value->Shared->Prop),Inv X pins σ H s->(∀b∈fp,zc4 X pins H b)->tn i s.heap->J.go i H->
  wpAny (model P w) X.A (pyNext (.ref it)) (λr s1=>∃u,r=some u/\
   wpAny (model P w) X.A (letOwnedTupleGo tg (.ref it) u) (λ_ s2=>∃x H',Inv X pins σ H' s2/\RelV x u/\J.yld i H x H'/\tn (i+1) s2.heap/\∀b∈fp,H' b=none) E s1) E s
 done:∀(X:Cx),X.prog=P->X.w=w->X.K=K->X.calm=true->∀(i:Nat) (pins:List (Addr×Obj)) (s:Shared) (σ:St) (H:Hp) (E:Value->Shared->Prop),Inv X pins σ H s->(∀b∈fp,zc4 X pins H b)->tn i s.heap->J.stop i H->
   wpAny (model P w) X.A (pyNext (.ref it)) (λr s1=>r=none/\Inv X pins σ H s1) E s
 self:∀(A:Around) (i:Nat) (s:Shared) (Q:Value->Shared->Prop) (E:Value->Shared->Prop),tn i s.heap->Q (.ref it) s->wpAny (model P w) A (pyIter (.ref it)) Q E s
noncomputable abbrev TI:=St->Hp->(It->Hp->Prop)->Prop
variable{wi wi2:TI}
def PIE(X:Cx)(pins:List (Addr×Obj))(σ:St)(tg:Expr)(R:It->Hp->Prop)(itv:Value)(s2:Shared):Prop:=
 ∃(it:Addr) (fp:List Addr) (tn:Nat->Heap->Prop) (J:It) (H':Hp),itv= .ref it/\Inv X pins σ H' s2/\Turn X.prog X.w X.K tg J fp it tn/\tn 0 s2.heap/\(∀b∈fp,zc4 X pins H' b)/\R J H'
def PI(X:Cx)(tg iter:Expr)(wi:TI):Prop:=
 ∀(pins:List (Addr×Obj)) (s:Shared) (σ:St) (H:Hp) (R:It->Hp->Prop),Inv X pins σ H s->wi σ H R->
  wpAny (model X.prog X.w) X.A (eval iter X.env) (λv s1=>wpAny (model X.prog X.w) X.A (pyIter v) (PIE X pins σ tg R) X.xe s1) X.xe s
theorem zj0{o:Obj}{n:String}{vs:Array Value}{Q:Unit->Shared->Prop}(ho:s.heap.get? it=some o)(hc:o.cls= .type n)(hd:o.data= .fields vs)
 (hn:["enumerate","zip","dict_itemiterator","dict_reverseitemiterator","odict_iterator","itertools.zip_longest","itertools.pairwise"].contains n=false) (hQ:Q Unit.unit s):wpAny M A (letOwnedTupleGo tg (.ref it) u) Q E s:=by
 unfold letOwnedTupleGo
 cases tg<;>first
  |exact F0 hQ
  |(cases u<;>first
     |exact F0 hQ
     |(refine A0 (wpAny_load ho ?_)
       rw[hc,hd]
       show wpAny M A (if(["enumerate","zip","dict_itemiterator","dict_reverseitemiterator","odict_iterator","itertools.zip_longest","itertools.pairwise"].contains n&&vs[0]?==some (rawInt _))=true then _ else _) Q E s
       rw[V0 (by intro h;rw[hn,Bool.false_and] at h;cases h)]
       exact F0 hQ))
noncomputable def Itl(K:W.Frag)(a:Addr):It:=
 ⟨λi H=>∃xs x,SqL K H a xs/\xs[i]?=some x,λi H x H'=>H'=H/\∀xs,SqL K H a xs->xs[i]?=some x,λi H=>∃xs,SqL K H a xs/\xs.length<=i⟩
noncomputable def Itt(K:W.Frag)(a:Addr):It:=
 ⟨λi H=>∃xs x,SqT K H a xs/\xs[i]?=some x,λi H x H'=>H'=H/\∀xs,SqT K H a xs->xs[i]?=some x,λi H=>∃xs,SqT K H a xs/\xs.length<=i⟩
noncomputable def Itr(lo:Int)(n:Nat):It:=⟨λi _=>i<n,λi H x H'=>H'=H/\x= .int (lo+i),λi _=>n<=i⟩
theorem zn6(a it:Addr):Turn P w K tg (Itl K a) [it] it (λi h=>h.IsListIter it a i) where
 mem:=`Z2
 obj:=λi h st b hb=>by
  have e:b=it:=by simpa using hb
  subst e
  obtain⟨o,e,c,d⟩:=st
  exact⟨o,e,λv z=>by rw[d] at z;cases z⟩
 keep:=λi h h' st k=>st.at λo e=>k it `Z2 o e
 item:=by
  intro X hP hw hK hc i pins s σ H E I hf st hg
  subst hP hw hK
  obtain⟨xs,x,hq,hx⟩:=hg
  obtain⟨its,rv,p,hz⟩:=I.list hq
  obtain⟨u,hu,ru⟩:=rv.get hx
  obtain⟨f0,f1,f2,f3,f4,f5⟩:=hf it `Z2
  refine wpAny_pyNext_list_item st p.isList (x:=u) (by simpa using hu) λh' st' sb=>?_
  have I1:Inv X pins σ H {s with heap:=h'}:=I.turned (t':=s.toks) (λb o hb e=>(sb.2 b hb).trans e) f0 f1 f3 f4 f5
  obtain⟨o,e,c,d⟩:=id st'
  exact⟨u,rfl,zj0 (s:={s with heap:=h'}) e c d ⋯ ⟨x,H,I1,ru,⟨rfl,λys hy=>by rw[I.list_inj hy hq];exact hx⟩,st',λb hb=>(hf b hb).1⟩⟩
 done:=by
   intro X hP hw hK hc i pins s σ H E I hf st hg
   subst hP hw hK
   obtain⟨xs,hq,hx⟩:=hg
   obtain⟨its,rv,p,hz⟩:=I.list hq
   obtain⟨f0,f1,f2,f3,f4,f5⟩:=hf it `Z2
   have hl:=rv.length
   exact wpAny_pyNext_list_end (I.ok.hd hc) st p.isList (by simp;lia) λh' eb=>⟨rfl,I.turned (t':=s.toks) (λb o hb e=>eb b o hb e) f0 f1 f3 f4 f5⟩
 self:=λ_ _ _ _ _ st h=>wpAny_pyIter_listiter st h
theorem zlF(a it:Addr):Turn P w K tg (Itt K a) [it] it (λi h=>h.IsTupleIter it a i) where
 mem:=`Z2
 obj:=λi h st b hb=>by
  have e:b=it:=by simpa using hb
  subst e
  obtain⟨o,e,c,d⟩:=st
  exact⟨o,e,λv z=>by rw[d] at z;cases z⟩
 keep:=λi h h' st k=>st.at λo e=>k it `Z2 o e
 item:=by
  intro X hP hw hK hc i pins s σ H E I hf st hg
  subst hP hw hK
  obtain⟨xs,x,hq,hx⟩:=hg
  obtain⟨its,rv,p,hz⟩:=I.tuple hq
  obtain⟨u,hu,ru⟩:=rv.get hx
  obtain⟨f0,f1,f2,f3,f4,f5⟩:=hf it `Z2
  refine wpAny_pyNext_tuple_item st (show s.heap.IsTuple a its.toArray from p) (x:=u) (by simpa using hu) λh' st' sb=>?_
  have I1:Inv X pins σ H {s with heap:=h'}:=I.turned (t':=s.toks) (λb o hb e=>(sb.2 b hb).trans e) f0 f1 f3 f4 f5
  obtain⟨o,e,c,d⟩:=id st'
  exact⟨u,rfl,zj0 (s:={s with heap:=h'}) e c d ⋯ ⟨x,H,I1,ru,⟨rfl,λys hy=>by rw[I.tuple_inj hy hq];exact hx⟩,st',λb hb=>(hf b hb).1⟩⟩
 done:=by
   intro X hP hw hK hc i pins s σ H E I hf st hg
   subst hP hw hK
   obtain⟨xs,hq,hx⟩:=hg
   obtain⟨its,rv,p,hz⟩:=I.tuple hq
   obtain⟨f0,f1,f2,f3,f4,f5⟩:=hf it `Z2
   have hl:=rv.length
   exact wpAny_pyNext_tuple_end (I.ok.hd hc) st (show s.heap.IsTuple a its.toArray from p) (by simp;lia) λh' eb=>⟨rfl,I.turned (t':=s.toks) (λb o hb e=>eb b o hb e) f0 f1 f3 f4 f5⟩
 self:=λ_ _ _ _ _ st h=>wpAny_pyIter_tupleiter st h
theorem zlU(it:Addr)(lo:Int)(n:Nat):Turn P w K tg (Itr lo n) [it] it (λi h=>IsRangeIter h it (lo+(i:Nat)*1) ((n:Int) -(i:Nat)) 1) where
 mem:=`Z2
 obj:=λi h st b hb=>by
  have e:b=it:=by simpa using hb
  subst e
  exact⟨_,st,λv z=>by
   have z':Data.fields _=Data.cell v:=z
   cases z'⟩
 keep:=λi h h' st k=>k it `Z2 _ st
 item:=by
  intro X hP hw hK hc i pins s σ H E I hf st hg
  subst hP hw hK
  obtain⟨f0,f1,f2,f3,f4,f5⟩:=hf it `Z2
  have W:=Walks.range (prog:=X.prog) (w:=X.w) (I.ok.hd hc) it lo 1 n
  refine W.item i s _ _ hg st λv h' tk hv st' kk=>?_
  obtain⟨t,rfl⟩:=hv
  have I1:Inv X pins σ H {s with heap:=h',toks:=tk}:=I.turned (λb o hb e=>kk b o (by simpa using hb) e) f0 f1 f3 f4 f5
  refine⟨_,rfl,zj0 (s:={s with heap:=h',toks:=tk}) (n:="range_iterator") st' rfl rfl ⋯ ⟨.int (lo+i),H,I1,⟨t,?_⟩,⟨rfl,rfl⟩,st',λb hb=>(hf b hb).1⟩⟩
  rw[Int.mul_one]
 done:=by
   intro X hP hw hK hc i pins s σ H E I hf st hg
   subst hP hw hK
   obtain⟨f0,f1,f2,f3,f4,f5⟩:=hf it `Z2
   exact wpAny_pyNext_range_end (I.ok.hd hc) st (by have:n<=i:=hg;lia) λh' eb=>⟨rfl,I.turned (t':=s.toks) (λb o hb e=>eb b o hb e) f0 f1 f3 f4 f5⟩
 self:=λ_ _ _ _ _ st h=>wpAny_pyIter_rangeiter st h
noncomputable def zoN(K:W.Frag)(tl:TE):TI:=λσ H R=>tl σ H λx H1=>∃a,x= .ref a/\(∃xs,SqL K H1 a xs)/\R (Itl K a) H1
noncomputable def zsu(K:W.Frag)(tl:TE):TI:=λσ H R=>tl σ H λx H1=>∃a,x= .ref a/\(∃xs,SqT K H1 a xs)/\R (Itt K a) H1
theorem zqZ{l:Expr}(hl:PE X l tl):PI X tg l (zoN X.K tl):=by
 intro pins s σ H R I h
 refine thn (hl pins s σ H _ I h) λv s1 zq=>?_
 obtain⟨x,H1,I1,r1,q1⟩:=zq
 obtain⟨a,e,⟨xs,hq⟩,q⟩:=q1
 subst e
 cases r1
 obtain⟨its,rv,p,hz⟩:=I1.list hq
 refine wpAny_pyIter_list p.isList ?_
 refine⟨s1.heap.objs.size,[s1.heap.objs.size],_,_,H1,rfl,I1.kept (t':=s1.toks) λb o e=>C0 _ e,zn6 a _,⟨_,M0 _ rfl,rfl,rfl⟩,λb hb=>?_,q⟩
 have e:b=s1.heap.objs.size:=by simpa using hb
 subst e
 exact I1.fpOk (K0 _) (I1.hok.fresh (K0 _))
theorem zsr{l:Expr}(hl:PE X l tl):PI X tg l (zsu X.K tl):=by
 intro pins s σ H R I h
 refine thn (hl pins s σ H _ I h) λv s1 zq=>?_
 obtain⟨x,H1,I1,r1,q1⟩:=zq
 obtain⟨a,e,⟨xs,hq⟩,q⟩:=q1
 subst e
 cases r1
 obtain⟨its,rv,p,hz⟩:=I1.tuple hq
 refine wpAny_pyIter_tuple (show s1.heap.IsTuple a its.toArray from p) ?_
 refine⟨s1.heap.objs.size,[s1.heap.objs.size],_,_,H1,rfl,I1.kept (t':=s1.toks) λb o e=>C0 _ e,zlF a _,⟨_,M0 _ rfl,rfl,rfl⟩,λb hb=>?_,q⟩
 have e:b=s1.heap.objs.size:=by simpa using hb
 subst e
 exact I1.fpOk (K0 _) (I1.hok.fresh (K0 _))
theorem zk9{R:It->Hp->Prop}{hi:Int}{t u v:Tok}{tk:Nat}(I:Inv X pins σ H s)(h1: -(2^62)<=lo)(h2:lo<2^62)(h3: -(2^62)<=hi)(h4:hi<2^62)
 (q:R (Itr lo (hi -lo).toNat) H):wpAny (model X.prog X.w) X.A (pyIter (.ref s.heap.objs.size)) (PIE X pins σ tg R) E {s with heap:=s.heap.push {cls:= .type "range",data:= .fields #[.int lo t, .int hi u, .int 1 v]},toks:=tk}:=by
 refine wpAny_pyIter_range (IsRange.new ..) (small_one h1 h2 h3 h4) ?_
 have I1:Inv X pins σ H {s with heap:=s.heap.push {cls:= .type "range",data:= .fields #[.int lo t, .int hi u, .int 1 v]},toks:=tk}:=I.kept λb o e=>C0 _ e
 refine⟨(s.heap.push {cls:= .type "range",data:= .fields #[.int lo t, .int hi u, .int 1 v]}).objs.size,[(s.heap.push {cls:= .type "range",data:= .fields #[.int lo t, .int hi u, .int 1 v]}).objs.size],_,_,H,rfl,
  I1.kept (t':=tk) λb o e=>C0 _ e,zlU _ lo (hi -lo).toNat,?_,λb hb=>?_,q⟩
 ·have e1:lo+((0:Nat):Int)*1=lo:=`Z2
  have e2:(((hi -lo).toNat:Nat):Int) -((0:Nat):Int)=Builtin.Range.rangeSize lo hi 1:=by rw[rangeSize_one];split<;>lia
  show IsRangeIter _ _ (lo+((0:Nat):Int)*1) ((((hi -lo).toNat:Nat):Int) -((0:Nat):Int)) 1
  rw[e1,e2]
  exact M0 _ rfl
 ·have e:b=(s.heap.push {cls:= .type "range",data:= .fields #[.int lo t, .int hi u, .int 1 v]}).objs.size:=by simpa using hb
  subst e
  exact I1.fpOk (K0 _) (I1.hok.fresh (K0 _))
noncomputable def zrC(ta:TA):TI:=λσ H R=>ta σ H λvs H1=>∃j:Int,vs=[.int j]/\-(2^62)<=j/\j<2^62/\R (Itr 0 j.toNat) H1
noncomputable def zrJ(ta:TA):TI:=λσ H R=>ta σ H λvs H1=>∃i j:Int,vs=[.int i, .int j]/\(-(2^62)<=i/\i<2^62/\-(2^62)<=j/\j<2^62)/\R (Itr i (j -i).toNat) H1
theorem zns{a:Expr}{p:Pos}(hg:Gl X "range")(hm:X.mg "range"=none)(ha:PA X [a] ta)(hs:autoParam (starEach [a] X.env=[(false,eval a X.env)]) y3):PI X tg (.Call (.Name "range" p) [a] [] pos) (zrC ta):=by
 intro pins s σ H R I h
 refine Call_ (zeh I hg hm boot_range (PyProof.Rows.callWith_type1 (thn (ha pos pins s σ H _ I h) λus s1 zq=>?_) hs rfl))
 obtain⟨vs,H1,I1,r1,q1⟩:=zq
 obtain⟨j,e,q1,q2,q⟩:=q1
 subst e
 cases r1 with
 |cons r rr=>
  cases rr
  obtain⟨t,rfl⟩:=r
  exact call_range_1 (zk9 I1 () () q1 q2 (by simpa using q))
theorem zni{a b:Expr}{p:Pos}(hg:Gl X "range")(hm:X.mg "range"=none)(ha:PA X [a,b] ta)(hs:autoParam (starEach [a,b] X.env=[(false,eval a X.env),(false,eval b X.env)]) y3)(hs2:autoParam (starEach [b] X.env=[(false,eval b X.env)]) y3):
 PI X tg (.Call (.Name "range" p) [a,b] [] pos) (zrJ ta):=by
 intro pins s σ H R I h
 refine Call_ (zeh I hg hm boot_range (PyProof.Rows.callWith_type1 (thn (ha pos pins s σ H _ I h) λus s1 ⟨vs,H1,I1,r1,q1⟩=>?_) (by rw[hs,hs2]) (by rw[hs2];rfl)))
 obtain⟨i,j,e,⟨q1,q2,q3,q4⟩,q⟩:=q1
 subst e
 cases r1 with
 |cons r rr=>
  cases rr with
  |cons r' rr=>
   cases rr
   obtain⟨t,rfl⟩:=r
   obtain⟨t',rfl⟩:=r'
   exact call_range_2 (zk9 I1 q1 q2 q3 q4 q)
noncomputable def zug(wi:TI)(g:TG)(tb:TS):TS:=λD σ H=>wi σ H λJ H1=>∃W:Nat->Nat->St->Hp->Prop,(∃m,W 0 m σ H1)/\∀i m σ H,W i m σ H->
 (J.stop i H/\D.nx σ H)\/(J.go i H/\∃N:St->Hp->Prop,(∀σ' H',N σ' H'->∃m',m'<m/\W (i+1) m' σ' H')/\∀x H',J.yld i H x H'->g x σ H' λσ2 H2=>tb {D with nx:=N,ct:=N,bk:=D.nx} σ2 H2)
noncomputable def zb7(fp:List Addr)(h:Heap):List (Addr×Obj):=fp.filterMap λb=>(h.get? b).map λo=>(b,o)
theorem z6{b:Addr}{o:Obj}(hb:b∈fp)(e:h.get? b=some o):(b,o)∈zb7 fp h:=List.mem_filterMap.mpr ⟨b,hb,by rw[e];rfl⟩
theorem znj{p:Addr×Obj}(hp:p∈zb7 fp h):p.1∈fp/\h.get? p.1=some p.2:=by
 obtain⟨b,hb,e⟩:=List.mem_filterMap.mp hp
 cases q:h.get? b with
 |none=>rw[q] at e;cases e
 |some o=>
  rw[q] at e
  have e':(b,o)=p:=A1 e
  subst e'
  exact⟨hb,q⟩
theorem Inv.pinned(I:Inv X pins σ H s)(hf:∀b∈fp,zc4 X pins H b)(ho:∀b∈fp,∃o,s.heap.get? b=some o/\∀v,o.data≠ .cell v):Inv X (pins ++zb7 fp s.heap) σ H s:=
 I.pins_of λp hp=>(G1.mp hp).elim (λz=>I.pin p (S0 _ z)) λz=>by
  obtain⟨hb,e⟩:=znj z
  obtain⟨f0,f1,f2,_⟩:=hf p.1 hb
  obtain⟨o,e',d⟩:=ho p.1 hb
  rw[e] at e';cases e'
  exact⟨e,f0,f1,f2,d⟩
theorem Inv.unpinned{pl:List (Addr×Obj)}(I:Inv X (pins ++pl) σ H s):Inv X pins σ H s:=I.pins_of λp hp=>I.pin p (S0 _ (List.mem_append_left _ hp))
theorem zsZ(hp:PassesOwn (model X.prog X.w) X.A X.env X.xe)(hc:X.calm=true)(hi:PI X tg iter wi)(hg:PG X tg g)(hb:PSs X body tb)
 (hs:autoParam (∀x,foldedSetIterable iter X.env x=pure x) u5):PS X (.For tg iter body [] pos) (zug wi g tb):=by
 intro pins s σ H D I h
 refine wpAny_For (thn (hi pins s σ H _ I h) λv s1 h1=>thn h1 λitv s2 h2=>?_) hs
 obtain⟨it,fp,tn,J,H2,e,I2,T,st2,f2,W,⟨m0,w0⟩,turn⟩:=h2
 subst e
 have stat:∀{H':Hp},(∀b∈fp,H' b=none)->∀b∈fp,zc4 X pins H' b:=λhn b hb=>⟨hn b hb,(f2 b hb).2⟩
 refine codeAny_forLoop_any (λn s'=>∃i σ' H',Inv X pins σ' H' s'/\tn i s'.heap/\(∀b∈fp,H' b=none)/\W i n σ' H') ?_ m0 ⟨0,σ,H2,I2,st2,λb hb=>(f2 b hb).1,w0⟩
 rintro n s3 ⟨i,σ3,H3,I3,st3,fr3,w3⟩
 rcases turn i n σ3 H3 w3 with⟨stop,qn⟩|⟨go,N,hN,step⟩
 ·refine wpAny_passesOwn hp (thn (T.done X rfl rfl rfl hc i pins s3 σ3 H3 X.xe I3 (stat fr3) st3 stop) λr s4 zq=>?_)
  obtain⟨hr,I4⟩:=zq
  subst hr
  exact wpAny_execs_nil ⟨σ3,H3,I4,qn⟩
 ·refine wpAny_passesOwn hp (thn (T.item X rfl rfl rfl hc i pins s3 σ3 H3 X.xe I3 (stat fr3) st3 go) λr s4 zq=>?_)
  obtain⟨u,hr,h4⟩:=zq
  subst hr
  refine wpAny_passesOwn hp (thn h4 λ_ s5 zq=>?_)
  obtain⟨x,H5,I5,r5,y5,st5,fr5⟩:=zq
  have I5':=I5.pinned (stat fr5) (T.obj _ _ st5)
  refine wpAny_passesOwn hp (thn (hg _ s5 σ3 H5 x u _ I5' r5 (step x H5 y5)) λ_ s6 zq=>?_)
  obtain⟨σ6,H6,I6,q6⟩:=zq
  refine wpAny_passesOwn hp (thn (hb _ s6 σ6 H6 _ I6 q6) λf s7 q7=>?_)
  have again:∀{σ7:St} {H7:Hp},Inv X (pins ++zb7 fp s5.heap) σ7 H7 s7->N σ7 H7->∃m,m<n/\∃i σ' H',Inv X pins σ' H' s7/\tn i s7.heap/\(∀b∈fp,H' b=none)/\W i m σ' H':=λ{σ7 H7} I7 n7=>by
   obtain⟨m',hm,w7⟩:=hN σ7 H7 n7
   refine⟨m',hm,i+1,σ7,H7,I7.unpinned,T.keep _ _ _ st5 λb hb o e=>(I7.pin (b,o) (S0 _ (S0 _ (z6 hb e)))).1,λb hb=>?_,w7⟩
   obtain⟨o,e,d⟩:=T.obj _ _ st5 b hb
   exact(I7.pin (b,o) (S0 _ (S0 _ (z6 hb e)))).2.1
  cases f with
  |next=>obtain ⟨σ7,H7,I7,n7⟩:=q7;exact again I7 n7
  |cont=>obtain ⟨σ7,H7,I7,n7⟩:=q7;exact again I7 n7
  |brk=>obtain ⟨σ7,H7,I7,q7⟩:=q7;exact⟨σ7,H7,I7.unpinned,q7⟩
  |ret v=>obtain ⟨x7,σ7,H7,I7,r7,q7⟩:=q7;exact⟨x7,σ7,H7,I7.unpinned,r7,q7⟩
noncomputable abbrev R2:=V->V->Hp->VK->Prop
variable{r r':R2}
def OpR(X:Cx)(f:Value->Value->Sem Value)(r:R2):Prop:=
 ∀(pins:List (Addr×Obj)) (s:Shared) (σ:St) (H:Hp) (x y:V) (v u:Value) (Q:VK),Inv X pins σ H s->RelV x v->RelV y u->r x y H Q->
  wpAny (model X.prog X.w) X.A (f v u) (EP X pins σ Q) X.xe s
def UnR(X:Cx)(f:Value->Sem Value)(r:V->Hp->VK->Prop):Prop:=
 ∀(pins:List (Addr×Obj)) (s:Shared) (σ:St) (H:Hp) (x:V) (v:Value) (Q:VK),Inv X pins σ H s->RelV x v->r x H Q->
  wpAny (model X.prog X.w) X.A (f v) (EP X pins σ Q) X.xe s
def CallR(X:Cx)(f:Value)(r:List V->Hp->VK->Prop):Prop:=
 ∀(pins:List (Addr×Obj)) (s:Shared) (σ:St) (H:Hp) (xs:List V) (us:List Value) (Q:VK),Inv X pins σ H s->Vals xs us->r xs H Q->
  wpAny (model X.prog X.w) X.A (call f us) (EP X pins σ Q) X.xe s
def zt7(X:Cx)(r:V->Hp->(Bool->Hp->Prop)->Prop):Prop:=
 ∀(pins:List (Addr×Obj)) (s:Shared) (σ:St) (H:Hp) (x:V) (v:Value) (Q:Bool->Hp->Prop),Inv X pins σ H s->RelV x v->r x H Q->
  wpAny (model X.prog X.w) X.A (truthy v) (TP X pins σ Q) X.xe s
noncomputable def tOp(r:R2)(ta tb:TE):TE:=λσ H Q=>ta σ H λx H1=>tb σ H1 λy H2=>r x y H2 Q
def tUn(r:V->Hp->VK->Prop)(ta:TE):TE:=λσ H Q=>ta σ H λx H1=>r x H1 Q
def rI(C:Int->Int->Prop)(g:Int->Int->V):R2:=λx y H Q=>∃i j,x= .int i/\y= .int j/\C i j/\Q (g i j) H
noncomputable def rI0(g:Int->Int->V):R2:=λx y H Q=>∃i j,x= .int i/\y= .int j/\Q (g i j) H
def rU(g:Int->V):V->Hp->VK->Prop:=λx H Q=>∃i,x= .int i/\Q (g i) H
section
variable{a b c:Expr}{ta tb tc:TE}
theorem zs0(ha:PE X a ta)(hb:PE X b tb){R:V->V->Hp->Prop}(I:Inv X pins σ H s)
 (h:ta σ H λx H1=>tb σ H1 λy H2=>R x y H2)  {f:Value->Value->Sem Value}
 (hf:∀v u s2 x y H2,Inv X pins σ H2 s2->RelV x v->RelV y u->R x y H2->wpAny (model X.prog X.w) X.A (f v u) Q X.xe s2):
 wpAny (model X.prog X.w) X.A (eval a X.env) (λv s₁=>wpAny (model X.prog X.w) X.A (eval b X.env) (λu s₂=>wpAny (model X.prog X.w) X.A (f v u) Q X.xe s₂) X.xe s₁) X.xe s:=by
 refine thn (ha pins s σ H _ I h) λv s1 zq=>?_
 obtain⟨x,H1,I1,r1,q1⟩:=zq
 refine thn (hb pins s1 σ H1 _ I1 q1) λu s2 zq=>?_
 obtain⟨y,H2,I2,r2,q2⟩:=zq
 exact hf v u s2 x y H2 I2 r1 r2 q2
theorem ztf{op:Operator}(ho:OpR X (binaryOp op) r)(ha:PE X a ta)(hb:PE X b tb):PE X (.BinOp a op b pos) (tOp r ta tb):=by
 intro pins s σ H Q I h
 exact wpAny_BinOp (zs0 ha hb I h λv u s2 x y H2 I2 rx ry q=>ho pins s2 σ H2 x y v u Q I2 rx ry q)
theorem zt1{op:UnaryOp}{r:V->Hp->VK->Prop}(ho:UnR X (unaryOp op) r)(ha:PE X a ta):PE X (.UnaryOp op a pos) (tUn r ta):=by
 intro pins s σ H Q I h
 refine UnaryOp_ (thn (ha pins s σ H _ I h) λv s1 zq=>?_)
 obtain⟨x,H1,I1,r1,q1⟩:=zq
 exact ho pins s1 σ H1 x v Q I1 r1 q1
theorem opI{f:Value->Value->Sem Value}{C:Int->Int->Prop}{g:Int->Int->Int}
 (rule:∀(i j:Int) (t u:Tok) (s:Shared) (Q:Value->Shared->Prop) (E:Value->Shared->Prop),C i j->Q (.int (g i j) s.toks) {s with toks:=s.toks+1}->wpAny (model X.prog X.w) X.A (f (.int i t) (.int j u)) Q E s):
 OpR X f (rI C λi j=> .int (g i j)):=by
 intro pins s σ H x y v u Q I rx ry h
 obtain⟨i,j,rfl,rfl,hc,q⟩:=h
 obtain⟨t,rfl⟩:=rx
 obtain⟨t',rfl⟩:=ry
 exact rule i j t t' s _ _ hc ⟨.int (g i j),H,I.tok _,⟨_,rfl⟩,q⟩
theorem ztL{f:Value->Value->Sem Value}{g:Int->Int->Int}
 (rule:∀(i j:Int) (t u:Tok) (s:Shared) (Q:Value->Shared->Prop) (E:Value->Shared->Prop),Q (.int (g i j) s.toks) {s with toks:=s.toks+1}->wpAny (model X.prog X.w) X.A (f (.int i t) (.int j u)) Q E s):
 OpR X f (rI0 λi j=> .int (g i j)):=by
 intro pins s σ H x y v u Q I rx ry h
 obtain⟨i,j,rfl,rfl,q⟩:=h
 obtain⟨t,rfl⟩:=rx
 obtain⟨t',rfl⟩:=ry
 exact rule i j t t' s _ _ ⟨.int (g i j),H,I.tok _,⟨_,rfl⟩,q⟩
theorem zrm{f:Value->Value->Sem Value}{g:Int->Int->Bool}
 (rule:∀(i j:Int) (t u:Tok) (s:Shared) (Q:Value->Shared->Prop) (E:Value->Shared->Prop),Q (.bool (g i j)) s->wpAny (model X.prog X.w) X.A (f (.int i t) (.int j u)) Q E s):
 OpR X f (rI0 λi j=> .bl (g i j)):=by
 intro pins s σ H x y v u Q I rx ry h
 obtain⟨i,j,rfl,rfl,q⟩:=h
 obtain⟨t,rfl⟩:=rx
 obtain⟨t',rfl⟩:=ry
 exact rule i j t t' s _ _ ⟨.bl (g i j),H,I,rfl,q⟩
def zus(i j:Int):Prop:=0<j/\j<1073741824
def zue(i j:Int):Prop:=0<=j/\j<=1000000/\i.natAbs<2^64
def CMul(i j:Int):Prop:=(-(2^64)<i/\i<2^64)\/(-(2^64)<j/\j<2^64)
theorem CMul.ok{i j:Int}(h:CMul i j):IntMulOk i j:=by
 rcases h with⟨h1,h2⟩|⟨h1,h2⟩
 ·exact .of_left (intBits_le_64 h1 h2)
 ·exact .of_right (intBits_le_64 h1 h2)
theorem zaS:OpR X (binaryOp .Add) (rI0 λi j=> .int (i+j)):=ztL λ_ _ _ _ _ _ _ q=>add_int q
theorem zsi:OpR X (binaryOp .Sub) (rI0 λi j=> .int (i -j)):=ztL λ_ _ _ _ _ _ _ q=>sub_int q
theorem zbO:OpR X (binaryOp .Mult) (rI CMul λi j=> .int (i*j)):=opI λ_ _ _ _ _ _ _ hc q=>mul_int q hc.ok
theorem zjG:OpR X (binaryOp .FloorDiv) (rI zus λi j=> .int (i/j)):=opI λi j _ _ _ _ _ hc q=>by
 have h1:(0:Int)<j:=hc.1
 have h2:j<1073741824:=hc.2
 exact floordiv_int () (by rw[Int.fdiv_eq_ediv_of_nonneg i ()];exact q) (.inl (PyProof.noPylong_small ()))
theorem zdp:OpR X (binaryOp .Mod) (rI (λ_ j=>0<j) λi j=> .int (i%j)):=opI λi j _ _ _ _ _ hc q=>by
 have h1:(0:Int)<j:=hc
 exact mod_int' () (by rw[Int.fmod_eq_emod_of_nonneg i ()];exact q)
theorem zsd:OpR X (binaryOp .Pow) (rI zue λi j=> .int (i^j.toNat)):=opI λ_ _ _ _ _ _ _ hc q=>pow_int_small hc.1 hc.2.1 hc.2.2 q
theorem unI{f:Value->Sem Value}{g:Int->Int}
 (rule:∀(i:Int) (t:Tok) (s:Shared) (Q:Value->Shared->Prop) (E:Value->Shared->Prop),Q (.int (g i) s.toks) {s with toks:=s.toks+1}->wpAny (model X.prog X.w) X.A (f (.int i t)) Q E s):
 UnR X f (rU λi=> .int (g i)):=by
 intro pins s σ H x v Q I rx h
 obtain⟨i,rfl,q⟩:=h
 obtain⟨t,rfl⟩:=rx
 exact rule i t s _ _ ⟨.int (g i),H,I.tok _,⟨_,rfl⟩,q⟩
theorem zhO:UnR X (unaryOp .USub) (rU λi=> .int (-i)):=unI λ_ _ _ _ _ q=>neg_int q
end
noncomputable def ztR:V->V->Bool
 | .non, .non=>true| .non, .int _=>true| .int _, .non=>true| .non, .bl _=>true| .bl _, .non=>true| .non, .str _=>true| .str _, .non=>true
 | .int _, .int _=>true| .bl _, .bl _=>true| .str _, .str _=>true| .byt _, .byt _=>true
 | .int _, .str _=>true| .str _, .int _=>true| .bl _, .str _=>true| .str _, .bl _=>true
 |_,_=>false
noncomputable def rEq:R2:=λx y H Q=>ztR x y=true/\Q (.bl (decide (x=y))) H
noncomputable def rNe:R2:=λx y H Q=>ztR x y=true/\Q (.bl (!decide (x=y))) H
theorem zmd{i j:Int}:decide (V.int i=V.int j)=(i==j):=by
 rw[Bool.eq_iff_iff]
 simp
theorem zpc{i j:Bool}:decide (V.bl i=V.bl j)=(i==j):=by
 rw[Bool.eq_iff_iff]
 simp
theorem zmA{i j:Str}:decide (V.str i=V.str j)=(i==j):=by
 rw[Bool.eq_iff_iff]
 simp
theorem zmn{i j:Array UInt8}:decide (V.byt i=V.byt j)=(i.toList==j.toList):=by
 rw[Bool.eq_iff_iff]
 cases i
 cases j
 simp
section
variable{a b c:Expr}{ta tb tc:TE}
theorem zP{Q:VK}{k k':Bool}(I:Inv X pins σ H s)(q:Q (.bl k) H)(e:k=k'):EP X pins σ Q (.bool k') s:=by
 subst e
 exact⟨.bl k,H,I,rfl,q⟩
theorem zaX:OpR X (compareOp .Eq) rEq:=by
 intro pins s σ H x y v u Q I rx ry h
 obtain⟨hs,q⟩:=h
 cases x with
 |non=>
  cases rx
  cases y with
  |non=>cases ry;exact EqNone.eq_none_none (zP I q `Z2)
  |bl j=>cases ry;exact EqNone.eq_none_bool (zP I q `Z2)
  |int j=>obtain ⟨t',rfl⟩:=ry;exact EqNone.eq_none_int (zP I q `Z2)
  |str j=>obtain ⟨t',rfl⟩:=ry;exact EqNone.eq_none_str (zP I q `Z2)
  |_=>exact absurd (show false=true from hs) Y0
 |bl i=>
  cases rx
  cases y with
  |non=>cases ry;exact EqNone.eq_bool_none (zP I q `Z2)
  |bl j=>cases ry;exact eq_bool (zP I q zpc)
  |str j=>obtain ⟨t',rfl⟩:=ry;exact EqMixed.eq_bool_str (zP I q `Z2)
  |_=>exact absurd (show false=true from hs) Y0
 |int i=>
  obtain⟨t,rfl⟩:=rx
  cases y with
  |non=>cases ry;exact EqNone.eq_int_none (zP I q `Z2)
  |int j=>obtain ⟨t',rfl⟩:=ry;exact eq_int (zP I q zmd)
  |str j=>obtain ⟨t',rfl⟩:=ry;exact EqMixed.eq_int_str (zP I q `Z2)
  |_=>exact absurd (show false=true from hs) Y0
 |str i=>
  obtain⟨t,rfl⟩:=rx
  cases y with
  |non=>cases ry;exact EqNone.eq_str_none (zP I q `Z2)
  |bl j=>cases ry;exact EqMixed.eq_str_bool (zP I q `Z2)
  |int j=>obtain ⟨t',rfl⟩:=ry;exact EqMixed.eq_str_int (zP I q `Z2)
  |str j=>obtain ⟨t',rfl⟩:=ry;exact eq_str (zP I q zmA)
  |_=>exact absurd (show false=true from hs) Y0
 |byt i=>
  obtain⟨t,rfl⟩:=rx
  cases y with
  |byt j=>obtain ⟨t',rfl⟩:=ry;exact W.eq_bytes (zP I q zmn)
  |_=>exact absurd (show false=true from hs) Y0
 |_=>cases y<;>exact absurd (show false=true from hs) Y0
theorem zfN:OpR X (compareOp .NotEq) rNe:=by
 intro pins s σ H x y v u Q I rx ry h
 obtain⟨hs,q⟩:=h
 cases x with
 |non=>
  cases rx
  cases y with
  |non=>cases ry;exact EqNone.ne_none_none (zP I q `Z2)
  |bl j=>cases ry;exact EqNone.ne_none_bool (zP I q `Z2)
  |int j=>obtain ⟨t',rfl⟩:=ry;exact EqNone.ne_none_int (zP I q `Z2)
  |str j=>obtain ⟨t',rfl⟩:=ry;exact EqNone.ne_none_str (zP I q `Z2)
  |_=>exact absurd (show false=true from hs) Y0
 |bl i=>
  cases rx
  cases y with
  |non=>cases ry;exact EqNone.ne_bool_none (zP I q `Z2)
  |bl j=>cases ry;exact ne_bool (zP I q (congrArg not zpc))
  |str j=>obtain ⟨t',rfl⟩:=ry;exact EqMixed.ne_bool_str (zP I q `Z2)
  |_=>exact absurd (show false=true from hs) Y0
 |int i=>
  obtain⟨t,rfl⟩:=rx
  cases y with
  |non=>cases ry;exact EqNone.ne_int_none (zP I q `Z2)
  |int j=>obtain ⟨t',rfl⟩:=ry;exact ne_int (zP I q (congrArg not zmd))
  |str j=>obtain ⟨t',rfl⟩:=ry;exact EqMixed.ne_int_str (zP I q `Z2)
  |_=>exact absurd (show false=true from hs) Y0
 |str i=>
  obtain⟨t,rfl⟩:=rx
  cases y with
  |non=>cases ry;exact EqNone.ne_str_none (zP I q `Z2)
  |bl j=>cases ry;exact EqMixed.ne_str_bool (zP I q `Z2)
  |int j=>obtain ⟨t',rfl⟩:=ry;exact EqMixed.ne_str_int (zP I q `Z2)
  |str j=>obtain ⟨t',rfl⟩:=ry;exact ne_str (zP I q (congrArg not zmA))
  |_=>exact absurd (show false=true from hs) Y0
 |byt i=>
  obtain⟨t,rfl⟩:=rx
  cases y with
  |byt j=>obtain ⟨t',rfl⟩:=ry;exact W.ne_bytes (zP I q (congrArg not zmn))
  |_=>exact absurd (show false=true from hs) Y0
 |_=>cases y<;>exact absurd (show false=true from hs) Y0
theorem zoE:OpR X (compareOp .Lt) (rI0 λi j=> .bl (decide (i<j))):=zrm λ_ _ _ _ _ _ _ q=>lt_int q
theorem zgA:OpR X (compareOp .LtE) (rI0 λi j=> .bl (decide (i<=j))):=zrm λ_ _ _ _ _ _ _ q=>le_int q
theorem zmh:OpR X (compareOp .Gt) (rI0 λi j=> .bl (decide (j<i))):=zrm λ_ _ _ _ _ _ _ q=>gt_int q
theorem ztr:OpR X (compareOp .GtE) (rI0 λi j=> .bl (decide (j<=i))):=zrm λ_ _ _ _ _ _ _ q=>ge_int q
theorem zir:OpR X (compareOp .Lt) (λx y H Q=>∃i j,x= .str i/\y= .str j/\Q (.bl (decide (i.cps.toList<j.cps.toList))) H):=by
 intro pins s σ H x y v u Q I rx ry h
 obtain⟨i,j,rfl,rfl,q⟩:=h
 obtain⟨t,rfl⟩:=rx
 obtain⟨t',rfl⟩:=ry
 exact lt_str (zP I q rfl)
theorem zed:OpR X (compareOp .Is) (λx y H Q=>y= .non/\Q (.bl (decide (x= .non))) H):=by
 intro pins s σ H x y v u Q I rx ry h
 obtain⟨rfl,q⟩:=h
 cases ry
 refine is_none_gen (zP I q ?_)
 cases x<;>first
  |(cases rx;rfl)
  |(obtain⟨t,rfl⟩:=rx;rfl)
theorem zqH:OpR X (compareOp .IsNot) (λx y H Q=>y= .non/\Q (.bl (!decide (x= .non))) H):=by
 intro pins s σ H x y v u Q I rx ry h
 obtain⟨rfl,q⟩:=h
 cases ry
 refine isnot_none_gen (zP I q ?_)
 cases x<;>first
  |(cases rx;rfl)
  |(obtain⟨t,rfl⟩:=rx;rfl)
theorem OpR.or{f:Value->Value->Sem Value}(h:OpR X f r)(h':OpR X f r'):OpR X f (λx y H Q=>r x y H Q\/r' x y H Q):=by
 intro pins s σ H x y v u Q I rx ry q
 rcases q with q|q
 ·exact h pins s σ H x y v u Q I rx ry q
 ·exact h' pins s σ H x y v u Q I rx ry q
theorem zre(ho:OpR X (compareOp op) r)(ha:PE X a ta)(hb:PE X b tb)(hm:behindInMarks op b=false):PE X (.Compare a [op] [b] pos) (tOp r ta tb):=by
 intro pins s σ H Q I h
 exact wpAny_Compare1 (zs0 ha hb I h λv u s2 x y H2 I2 rx ry q=>ho pins s2 σ H2 x y v u Q I2 rx ry q) hm
noncomputable def zmN(t:TE):TT:=λσ H Q=>t σ H λx H'=>∃k,x= .bl k/\Q k H'
theorem zqV(ho:OpR X (compareOp op) r)(ha:PE X a ta)(hb:PE X b tb)(hm:behindInMarks op b=false):PT X (.Compare a [op] [b] pos) (zmN (tOp r ta tb)):=by
 intro pins s σ H Q I h
 refine wpAny_isTrue_Compare1 (thn (ha pins s σ H _ I h) λv s1 ⟨x,H1,I1,r1,q1⟩=>thn (hb pins s1 σ H1 _ I1 q1) λu s2 ⟨y,H2,I2,r2,q2⟩=>
  thn (ho pins s2 σ H2 x y v u _ I2 r1 r2 q2) λc s3 ⟨z,H3,I3,r3,k,e,q3⟩=>?_) hm
 subst e
 cases r3
 exact wpAny_truthy_bool ⟨H3,I3,q3⟩
noncomputable def zi9(r r':R2)(ta tb tc:TE):TE:=λσ H Q=>ta σ H λx H1=>tb σ H1 λy H2=>r x y H2 λz H3=>∃k,z= .bl k/\
 (if k=true then tc σ H3 λw' H4=>r' y w' H4 Q else Q (.bl false) H3)
theorem zoa(ho:OpR X (compareOp op) r)(ho':OpR X (compareOp op') r')(ha:PE X a ta)(hb:PE X b tb)(hc:PE X c tc)
 (hm:autoParam (lastMarks [op,op'] [b,c]=false) u6):PE X (.Compare a [op,op'] [b,c] pos) (zi9 r r' ta tb tc):=by
 intro pins s σ H Q I h
 refine Compare_chain (thn (ha pins s σ H _ I h) λv s1 ⟨x,H1,I1,r1,q1⟩=>chain_link (thn (hb pins s1 σ H1 _ I1 q1) λu s2 ⟨y,H2,I2,r2,q2⟩=>
  thn (ho pins s2 σ H2 x y v u _ I2 r1 r2 q2) λd s3 ⟨z,H3,I3,r3,k,e,q3⟩=>?_)) hm
 subst e
 cases r3
 refine wpAny_truthy_bool ?_
 cases k with
 |false=>exact ite_ff ⟨.bl false,H3,I3,rfl,q3⟩
 |true=>exact ite_tt (chain_last (thn (hc pins s3 σ H3 _ I3 q3) λw' s4 ⟨z',H4,I4,r4,q4⟩=>ho' pins s4 σ H4 y z' u w' Q I4 r2 r4 q4))
theorem zoV(ho:OpR X (compareOp op) r)(ho':OpR X (compareOp op') r')(ha:PE X a ta)(hb:PE X b tb)(hc:PE X c tc)
 (hm:autoParam (lastMarks [op,op'] [b,c]=false) u6):PT X (.Compare a [op,op'] [b,c] pos) (zmN (zi9 r r' ta tb tc)):=by
 intro pins s σ H Q I h
 refine isTrue_chain (thn (ha pins s σ H _ I h) λv s1 ⟨x,H1,I1,r1,q1⟩=>test_link (thn (hb pins s1 σ H1 _ I1 q1) λu s2 ⟨y,H2,I2,r2,q2⟩=>
  thn (ho pins s2 σ H2 x y v u _ I2 r1 r2 q2) λd s3 ⟨z,H3,I3,r3,k,e,q3⟩=>?_)) hm
 subst e
 cases r3
 refine wpAny_truthy_bool ?_
 cases k with
 |false=>
  obtain⟨k',e',q'⟩:=q3
  cases e'
  exact ite_ff ⟨H3,I3,q'⟩
 |true=>
  refine ite_tt (test_last (thn (hc pins s3 σ H3 _ I3 q3) λw' s4 zq=>?_))
  obtain⟨z',H4,I4,r4,q4⟩:=zq
  refine thn (ho' pins s4 σ H4 y z' u w' _ I4 r2 r4 q4) λd' s5 zq1=>?_
  obtain⟨z2,H5,I5,r5,k2,e2,q5⟩:=zq1
  subst e2
  cases r5
  exact wpAny_truthy_bool ⟨H5,I5,q5⟩
def zs4(K:W.Frag)(x:V)(H:Hp)(k:Bool):Prop:=
 match x with
 | .non=>k=false
 | .bl b=>k=b
 | .int i=>k=(i !=0)
 | .str y=>y.length<=sizeLine/\k=((y.length:Int) !=0)
 | .byt y=>y.size<=sizeLine/\k=((y.size:Int) !=0)
 | .ref p=>(∃xs,SqL K H p xs/\k=!xs.isEmpty)\/(∃xs,SqT K H p xs/\k=!xs.isEmpty)\/∃kvs,H p=some (.dK kvs)/\k=!kvs.isEmpty
 |_=>False
theorem zlN{kvs:List (κ×V)}{vs:List (κ×Value)}(r:KV kvs vs):(!vs.isEmpty)=!kvs.isEmpty:=by
 cases r<;>rfl
theorem zha(r:Vals xs its):(!its.toArray.isEmpty)=!xs.isEmpty:=by
 cases r<;>simp
theorem zfa:(sizeLine:Nat)<2^63:=by rw[sizeLine_eq];decide
theorem zso:zt7 X (λx H Q=>∃k,zs4 X.K x H k/\Q k H):=by
 intro pins s σ H x v Q I rx h
 obtain⟨k,e,q⟩:=h
 have hl:=zfa
 have hs:sizeLine=16777216:=sizeLine_eq
 cases x with
 |non=>
  cases rx
  have e':k=false:=e
  subst e'
  exact truthy_none ⟨H,I,q⟩
 |bl b=>
  cases rx
  have e':k=b:=e
  subst e'
  exact wpAny_truthy_bool ⟨H,I,q⟩
 |int i=>
  obtain⟨t,rfl⟩:=rx
  have e':k=(i !=0):=e
  subst e'
  exact P.truthy_int ⟨H,I,q⟩
 |str y=>
  obtain⟨t,rfl⟩:=rx
  obtain⟨hy,e'⟩:y.length<=sizeLine/\k=((y.length:Int) !=0):=e
  subst e'
  exact P.truthy_str () ⟨H,I.tok _,q⟩
 |byt y=>
  obtain⟨t,rfl⟩:=rx
  obtain⟨hy,e'⟩:y.size<=sizeLine/\k=((y.size:Int) !=0):=e
  subst e'
  exact W.truthy_bytes () ⟨H,I.tok _,q⟩
 |ref p=>
  cases rx
  have e':(∃xs,SqL X.K H p xs/\k=!xs.isEmpty)\/(∃xs,SqT X.K H p xs/\k=!xs.isEmpty)\/∃kvs,H p=some (.dK kvs)/\k=!kvs.isEmpty:=e
  rcases e' with⟨xs,hx,e'⟩|⟨xs,hx,e'⟩|⟨kvs,hx,e'⟩
  ·subst e'
   obtain⟨its,r,pl,hz⟩:=I.list hx
   have hlen:=r.length
   exact wpAny_truthy_list pl.isList (by simp only[b0];lia) ⟨H,I.tok _,by rw[zha r];exact q⟩
  ·subst e'
   obtain⟨its,r,pl,hz⟩:=I.tuple hx
   have hlen:=r.length
   exact truthy_tuple pl (by simp only[b0];lia) ⟨H,I.tok _,by rw[zha r];exact q⟩
  ·subst e'
   obtain⟨hz,hS,vs,r,m⟩:kvs.length<=sizeLine/\(p==sysModules)=false/\∃vs,KV kvs vs/\s.heap.DictOf (zaU X.prog X.w) p vs:=I.hok p _ hx
   have hlen:kvs.length=vs.length:=Paired.length r
   exact wpAny_truthy_dict hS m () ⟨H,I.tok _,by rw[zlN r];exact q⟩
 |_=>exact (show False from e).elim
theorem zpP(ha:PE X a ta)(he:∀whole,isTrue a X.env whole=(do let v ←whole;standAt a.pos;holding [v] (truthy v))):
 PT X a (λσ H Q=>ta σ H λx H'=>∃k,zs4 X.K x H' k/\Q k H'):=by
 intro pins s σ H Q I h
 refine isTrue_plain (thn (ha pins s σ H _ I h) λv s1 zq=>?_) (he _)
 obtain⟨x,H1,I1,r1,q1⟩:=zq
 exact zso pins s1 σ H1 x v Q I1 r1 q1
theorem zY:OpR X (binaryOp .Add) (λx y H Q=>∃i j,x= .str i/\y= .str j/\i.length+j.length<=sizeLine/\Q (.str (i ++j)) H):=by
 intro pins s σ H x y v u Q I rx ry h
 obtain⟨i,j,rfl,rfl,hz,q⟩:=h
 obtain⟨t,rfl⟩:=rx
 obtain⟨t',rfl⟩:=ry
 exact add_str (λt' tk=>⟨.str (i ++j),H,I.tok _,⟨_,rfl⟩,q⟩) hz
theorem zbq{x:V}(r:Vals [x] us):∃u,us=[u]/\RelV x u:=by
 cases r with
 |cons r1 r2=>cases r2;exact⟨_,rfl,r1⟩
theorem ziO{x y:V}(r:Vals [x,y] us):∃u w',us=[u,w']/\RelV x u/\RelV y w':=by
 cases r with
 |cons r1 r2=>
  cases r2 with
  |cons r3 r4=>cases r4;exact⟨_,_,rfl,r1,r3⟩
theorem zm7(hc:X.calm=true):CallR X (.builtin "max") (λxs H Q=>∃i j,xs=[.int i, .int j]/\Q (.int (if j>i then j else i)) H):=by
 intro pins s σ H xs us Q I r h
 obtain⟨i,j,rfl,q⟩:=h
 obtain⟨u,w',rfl,⟨t,rfl⟩,⟨t',rfl⟩⟩:=ziO r
 refine max_two_ints (I.ok.hd hc) λh' tk k=>⟨_,H,I.kept k,?_,q⟩
 by_cases hj:j>i
 ·rw[p0 hj,p0 hj];exact⟨_,rfl⟩
 ·rw[V0 hj,V0 hj];exact⟨_,rfl⟩
theorem zin(hc:X.calm=true):CallR X (.builtin "min") (λxs H Q=>∃i j,xs=[.int i, .int j]/\Q (.int (if j<i then j else i)) H):=by
 intro pins s σ H xs us Q I r h
 obtain⟨i,j,rfl,q⟩:=h
 obtain⟨u,w',rfl,⟨t,rfl⟩,⟨t',rfl⟩⟩:=ziO r
 refine min_two_ints (I.ok.hd hc) λh' tk k=>⟨_,H,I.kept k,?_,q⟩
 by_cases hj:j<i
 ·rw[p0 hj,p0 hj];exact⟨_,rfl⟩
 ·rw[V0 hj,V0 hj];exact⟨_,rfl⟩
theorem zdk:CallR X (.type "int") (λxs H Q=>(∃i,xs=[.int i]/\Q (.int i) H)\/∃k,xs=[.bl k]/\Q (.int (if k then 1 else 0)) H):=by
 intro pins s σ H xs us Q I r h
 rcases h with⟨i,rfl,q⟩|⟨k,rfl,q⟩
 ·obtain ⟨u,rfl,t,rfl⟩:=zbq r
  exact call_int_int ⟨.int i,H,I,⟨_,rfl⟩,q⟩
 ·obtain ⟨u,rfl,r1⟩:=zbq r
  cases r1
  exact call_int_bool ⟨.int (if k then 1 else 0),H,I.tok _,⟨_,rfl⟩,q⟩
theorem zfw:CallR X (.type "str") (λxs H Q=>∃i,xs=[.int i]/\i.natAbs.log2<1920/\Q (.str (toString i)) H):=by
 intro pins s σ H xs us Q I r h
 obtain⟨i,rfl,hz,q⟩:=h
 obtain⟨u,rfl,t,rfl⟩:=zbq r
 exact P.str_of_int hz ⟨.str _,H,I.tok _,⟨_,rfl⟩,q⟩
end
structure ObjM(h:Heap)(x dx C:Addr)(mA:Str->Option Value):Prop where
 obj:h.get? x=some (W.instObj C dx)
 ns:h.Ns1 dx mA
 ne:dx≠x
variable{ns:List Int}
theorem znW(n:h.Ns1 dx mA):∃od,h.get? dx=some od/\∀name,W.lookIn name od=some (mA name):=by
 obtain⟨o,es,ep,ho,hd,hk,_,hm⟩:=n
 refine⟨o,ho,λname=>?_⟩
 have e:=hm name
 unfold nsFind findBy at e
 rw[←Array.find?_toList] at e
 unfold W.lookIn
 rw[hd]
 dsimp only
 split
 ·rename_i y q
  rw[q] at e
  exact congrArg some e
 ·rename_i q
  rw[q] at e
  have a:es.toList.any (·.refKey)=false:=by
   rw[List.any_eq_false]
   intro y hy
   obtain⟨z,t,hkey⟩:=hk y (Array.mem_toList_iff.mp hy)
   simp[DictEntry.refKey,hkey]
  have a':¬es.toList.any (·.refKey)=true:=by rw[a];exact Y0
  rw[V0 a']
  exact congrArg some e
theorem ObjM.look{x:Addr}(I:ObjM h x dx C mA):∃od,W.InstAt h x (W.instObj C dx) C (some od)/\∀name,W.lookIn name od=some (mA name):=
 let⟨od,ho,hl⟩:=znW I.ns
 ⟨od,⟨I.obj,rfl,rfl,ho⟩,hl⟩
section
variable{x:Addr}{name:Str}{v:Value}
end
section
variable{fs':List (Str×V)}
theorem zru(hok:HOk P w H h)(e:H a=some (.ins C dx fs)):∃mA,ObjM h a dx C mA/\(∀f,RelO (fs.lookup f) (mA f))/\PySem.Within mA (fs.map (·.1))/\fs.length<=1000/\H dx=some (.own a):=by
 obtain⟨d,z,ne,ob,mA,n,r,q⟩:=(show ObjOk P w H h a (.ins C dx fs)from hok a _ e)
 exact⟨mA,⟨ob,n,ne⟩,r,q,z,d⟩
end
structure Cls(K:W.Frag)(C:Addr):Prop where
 pg:W.plainGet K C Str.empty=true
 hd:W.hasDictIn K C=true
 po:W.plainOver K C=true
 sa:W.findIn K (.ref C) "__setattr__"=some (some (.builtin "object.__setattr__"))
variable{sa:TS}
theorem Cls.get(c:Cls K C)(f:Str):W.plainGet K C f=true:=c.pg
structure Con(K:W.Frag)(C:Addr)(f:Str)(v:V)(u:Value):Prop where
 at_:W.findIn K (.ref C) f=some (some u)
 rel:RelV v u
 get:W.specialIn K u "__get__"=some none
 cp:W.copiedNames.contains f=false
structure Meth(K:W.Frag)(C:Addr)(m:Str)(f:Addr):Prop where
 at_:W.findIn K (.ref C) m=some (some (.ref f))
 fn:W.isFn K (.ref f)=true
 kp:W.keepIn K (.ref f)=true
section
variable{f:Str}
end
section
variable{o:Expr}{f:Str}{ta:TE}
end
section
variable{c:Value}{b:Bool}
inductive TyOf(K:W.Frag)(H:Hp):V->Value->Prop where
 |non:TyOf K H .non (.type "NoneType")
 |bl (x:Bool):TyOf K H (.bl x) (.type "bool")
 |int (i:Int):TyOf K H (.int i) (.type "int")
 |str (x:Str):TyOf K H (.str x) (.type "str")
 |flt (x:UInt64):TyOf K H (.flt x) (.type "float")
 |lst {a:Addr} {xs:List V} (e:H a=some (.lst xs)):TyOf K H (.ref a) (.type "list")
 |frz {a:Addr} {o:Obj} {xs:List V} (e:H a=some (.frz o (.lst xs))):TyOf K H (.ref a) (.type "list")
 |tup {a:Addr} {xs:List V} (e:H a=some (.tup xs)):TyOf K H (.ref a) (.type "tuple")
 |dK {a:Addr} {kvs:List (Key×V)} (e:H a=some (.dK kvs)):TyOf K H (.ref a) (.type "dict")
 |dT {a:Addr} {kvs:List (List Key×V)} (e:H a=some (.dT kvs)):TyOf K H (.ref a) (.type "dict")
 |ins {a C dx:Addr} {fs:List (Str×V)} (e:H a=some (.ins C dx fs)) (cl:Cls K C) (ha:W.findIn K (.ref C) "__class__"=some (some (.builtin "object.__class__")))
   (hn:W.specialIn K (.builtin "object.__class__") "__get__"=some (some (.builtin "getset_descriptor.__get__"))) (htk:W.takesIn K (.builtin "object.__class__")=some true)
   (hm:W.mroIn K C (.type "object")=some true):TyOf K H (.ref a) (.ref C)
theorem zno{x:V}{t:Value}(I:Inv X pins σ H s)(rx:RelV x u)(ty:TyOf X.K H x t)(e:W.kitOne X.K t c=some b)(h:∀tk,Q (.bool b) {s with toks:=tk}):
 wpAny (model X.prog X.w) A (call (.builtin "isinstance") [u,c]) Q E s:=by
 cases ty with
 |non=>cases (show u=Value.none from rx);exact W.kia_one W.kitx_none I.kIn True.intro e (λz=>nomatch z) h
 |bl y=>cases (show u=Value.bool y from rx);exact W.kia_one W.kitx_bool I.kIn True.intro e (λz=>nomatch z) h
 |int i=>obtain ⟨t,q⟩:=(show∃t,u=Value.int i t from rx);cases q;exact W.kia_one W.kitx_int I.kIn True.intro e (λz=>nomatch z) h
 |str y=>obtain ⟨t,q⟩:=(show∃t,u=Value.str y t from rx);cases q;exact W.kia_one W.kitx_str I.kIn True.intro e (λz=>nomatch z) h
 |flt y=>obtain ⟨t,q⟩:=(show∃t,u=Value.float y t from rx);cases q;exact W.kia_one W.kitx_float I.kIn True.intro e (λz=>nomatch z) h
 | @lst a xs ea=>
   cases(show u=Value.ref a from rx)
   obtain⟨_,_,n,_,h1⟩:=(show ObjOk X.prog X.w H s.heap a (.lst xs)from I.hok a _ ea)
   exact W.kia_one W.kitx_list I.kIn ⟨_,h1,rfl⟩ e (λz=>nomatch z) h
 | @frz a ob xs ea=>
   cases(show u=Value.ref a from rx)
   obtain⟨_,_,_,n,_,h1⟩:=(show ObjOk X.prog X.w H s.heap a (.frz ob (.lst xs))from I.hok a _ ea)
   exact W.kia_one W.kitx_list I.kIn ⟨_,h1,rfl⟩ e (λz=>nomatch z) h
 | @tup a xs ea=>
   cases(show u=Value.ref a from rx)
   obtain⟨_,_,_,p,_⟩:=(show ObjOk X.prog X.w H s.heap a (.tup xs)from I.hok a _ ea)
   obtain⟨o,h1,h2,_⟩:=p
   exact W.kia_one W.kitx_tuple I.kIn ⟨o,h1,h2⟩ e (λz=>nomatch z) h
 | @dK a kvs ea=>
   cases(show u=Value.ref a from rx)
   obtain⟨_,_,vs,_,p⟩:=(show ObjOk X.prog X.w H s.heap a (.dK kvs)from I.hok a _ ea)
   obtain⟨o,es,ep,h1,h2,_⟩:=p
   exact W.kia_one W.kitx_dict I.kIn ⟨o,h1,h2.1⟩ e (λz=>nomatch z) h
 | @dT a kvs ea=>
   cases(show u=Value.ref a from rx)
   obtain⟨_,_,xs,_,o,es,ep,h1,h2,_⟩:=(show ObjOk X.prog X.w H s.heap a (.dT kvs)from I.hok a _ ea)
   exact W.kia_one W.kitx_dict I.kIn ⟨o,h1,h2.1⟩ e (λz=>nomatch z) h
 | @ins a C dx fs ea cl ha hn htk hm=>
   cases(show u=Value.ref a from rx)
   obtain⟨mA,O,_⟩:=zru I.hok ea
   obtain⟨od,J,_⟩:=O.look
   exact W.kia_one (W.kitx_own (cl.get _) cl.hd ha hn htk hm) I.kIn J e (λz=>nomatch z) h
end
structure Room(k:Nat)(A:Around):Prop where
 hd:A.handled=none
 dp:A.depth+3*k+5<recursionLimit
 un:A.units+16*k+200<cLine
 gd:A.guards=some []
theorem Room.mono(r:Room k A)(h:j<=k):Room j A:=⟨r.hd,by have:=r.dp;lia,by have:=r.un;lia,r.gd⟩
theorem Room.deeper(r:Room (k+1) A)(env:Env):Room k (A.deeper env):=
 ⟨r.hd,by have:=r.dp;show A.depth+1+3*k+5<_;lia,by have:=r.un;show A.units+3+16*k+200<_;lia,r.gd⟩
theorem Room.depth(r:Room k A):A.depth<recursionLimit:=by have:=r.dp;lia
theorem Room.units(r:Room k A):A.units+64<cLine:=by have:=r.un;lia
theorem Room.units0(r:Room k A):A.units<cLine:=by have:=r.un;lia
noncomputable def zsI:TA:=λ_ H Q=>Q [] H
noncomputable def zmf(ta:TE)(tr:TA):TA:=λσ H Q=>ta σ H λx H1=>tr σ H1 λxs H2=>Q (x::xs) H2
section
variable{t:TA}
theorem zo8:PA X [] zsI:=λ_ _ _ _ H Q I h=>Calls.spliced_nil ⟨[],H,I, .nil,h⟩
theorem zmQ(ha:PE X e te)(hr:PA X es t)(hs:autoParam (starEach (e::es) X.env=(false,eval e X.env)::starEach es X.env) y3):PA X (e::es) (zmf te t):=by
 intro pos pins s σ H Q I h
 rw[hs]
 show wpAny _ _ (spliced ((false,eval e X.env)::backTo pos (starEach es X.env))) _ _ s
 refine Calls.spliced_cons (thn (ha pins s σ H _ I h) λu s1 zq=>?_)
 obtain⟨x,H1,I1,r1,q1⟩:=zq
 refine thn (hr pos pins s1 σ H1 _ I1 q1) λus s2 zq=>?_
 obtain⟨xs,H2,I2,r2,q2⟩:=zq
 exact⟨x::xs,H2,I2, .cons r1 r2,q2⟩
noncomputable def ztx(t:TA):TE:=λσ H Q=>t σ H λxs H1=>xs.length<=sizeLine/\∀p,H1 p=none->Q (.ref p) (upd H1 p (.tup xs))
noncomputable def zsD(t:TA):TE:=λσ H Q=>t σ H λxs H1=>xs.length<=sizeLine/\∀p,H1 p=none->Q (.ref p) (upd H1 p (.lst xs))
theorem zrX{x1}(h:PA X es t):PE X (.Tuple es x1 pos) (ztx t):=by
 intro pins s σ H Q I hq
 refine wpAny_Tuple_spliced (thn (h pos pins s σ H _ I hq) λus s1 ⟨xs,H1,I1,r,z,q⟩=>⟨by rw[←r.length];exact z,?_⟩)
 have hf:H1 s1.heap.objs.size=none:=I1.hok.fresh (K0 _)
 refine⟨.ref s1.heap.objs.size,upd H1 s1.heap.objs.size (.tup xs),I1.laid (t':=s1.toks) (λb u e=>C0 _ e) (K0 _) ?_,rfl,q _ hf⟩
 exact⟨z,us,r,⟨_,M0 _ rfl,rfl,_,rfl⟩,NoDict.new rfl (M0 _ rfl)⟩
theorem zoR(h:PA X es t):PE X (.List es pos) (zsD t):=by
 intro pins s σ H Q I hq
 refine wpAny_List_spliced (thn (h pos pins s σ H _ I hq) λus s1 ⟨xs,H1,I1,r,z,q⟩=>⟨by rw[←r.length];exact z,?_⟩)
 have hf:H1 s1.heap.objs.size=none:=I1.hok.fresh (K0 _)
 refine⟨.ref s1.heap.objs.size,upd H1 s1.heap.objs.size (.lst xs),I1.laid (t':=s1.toks) (λb u e=>C0 _ e) (K0 _) ?_,rfl,q _ hf⟩
 exact⟨z,us,0,r,M0 _ rfl⟩
end
noncomputable abbrev Sp:=List V->Hp->VK->XK->Prop
variable{sp:Sp}
noncomputable abbrev CXT:=List Env->Hp->Shared->XK->Value->Shared->Prop
variable{CX:CXT}
structure Env0(P:Program)(w:World)(K:W.Frag)(mg:Str->Option Value)(base:Heap)(A:Around)(outer:List Env)(s:Shared)(H:Hp):Prop where
 frames:A.frames=some outer
 mod:Mod K mg base
 bs:∀b o,base.get? b=some o->s.heap.get? b=some o/\H b=none
 bsz:base.objs.size<=s.heap.objs.size
 funs:s.heap.FunFrames base outer
 frf:∀b∈frs outer,H b=none
 hok:HOk P w H s.heap
 bare:AllBare s.gens
def CE(outer:List Env)(P:Program)(w:World)(H:Hp)(s:Shared)(Q:VK)(u:Value)(s':Shared):Prop:=
 ∃v H',s'.os=s.os/\AllBare s'.gens/\Un (frs outer) [] H H' s.heap s'.heap/\HOk P w H' s'.heap/\RelV v u/\Q v H'
def CR(CX:CXT)(outer:List Env)(P:Program)(w:World)(H:Hp)(s:Shared)(Q:VK)(E:XK)(r:Result)(s':Shared):Prop:=
 match r with
 | .ok (.ret u)=>CE outer P w H s Q u s'
 | .ok _=>False
 | .error e=>CX outer H s E e s'
structure FnOk(P:Program)(w:World)(K:W.Frag)(mg:Str->Option Value)(base:Heap)(CX:CXT)(k:Nat)(f:Addr)(fd:FuncData)(ps:List Str)(sp:Sp):Prop where
 len:∀vs H Q E,sp vs H Q E->vs.length=ps.length
 run:∀(A:Around) (outer:List Env) (s:Shared) (H:Hp) (args:Args) (us:List Value) (vs:List V) (Q:VK) (E:XK),Room k A->Env0 P w K mg base A outer s H->BindsTo s fd args (ps.zip us)->Vals vs us->sp vs H Q E->
  codeAny (model P w) A (.call (.ref f) args) (CR CX outer P w H s Q E) s
theorem Inv.env0(I:Inv X pins σ H s):Env0 X.prog X.w X.K X.mg X.base X.A X.stack s H:=
 ⟨I.ok.frames,I.ok.mod,I.bs,F1 I.ok.bsz I.sz,I.stack,I.stkFree,I.hok,I.bare⟩
theorem Inv.after{Q:VK}(I:Inv X pins σ H s)(h:CE X.stack X.prog X.w H s Q u s'):EP X pins σ Q u s':=by
 obtain⟨v,H',os,bare,un,hok,r,q⟩:=h
 obtain⟨hh,g,d,t,os'⟩:=s'
 obtain rfl:os'=s.os:=os
 exact⟨v,H',I.call (h':=hh) (g':=g) (d':=d) (t':=t) (ch:=[]) un hok bare (λb z=>absurd z `Z2),r,q⟩
noncomputable def zrQ(sp:Sp)(dvs:List V)(E:XK)(t:TA):TE:=λσ H Q=>t σ H λvs H1=>sp (vs ++dvs) H1 Q E
def Binds(K:W.Frag)(fd:FuncData)(ps:List Str)(ds:List Value):Prop:=
 ∀(s:Shared) (us:List Value),K.In s.heap->(us ++ds).length=ps.length->BindsTo s fd ⟨us,[]⟩ (ps.zip (us ++ds))
theorem Binds.all{ps:List Str}(h:∀us:List Value,us.length=ps.length->bindArgs fd ⟨us,[]⟩=pure (ps.zip us)):Binds K fd ps []:=λs us _ hl=>by
 rw[O1] at hl⊢
 exact .of_eq (h us hl)
def zjR(CX:CXT)(X:Cx)(E:XK):Prop:=∀(pins:List (Addr×Obj)) (σ:St) (H:Hp) (s:Shared) (e:Value) (s':Shared),Inv X pins σ H s->CX X.stack H s E e s'->X.xe e s'
section
variable{ps:List Str}{ds:List Value}{E:XK}{m:Str}{p:Pos}{o:Expr}{ta:TE}{t:TA}
theorem zsv{Q:VK}(F:FnOk X.prog X.w X.K X.mg X.base CX k f fd ps sp)(hr:Room k X.A)(hb:Binds X.K fd ps ds)(hd:Vals dvs ds)(hx:zjR CX X E)
 (I:Inv X pins σ H s) (r:Vals vs us) (h:sp (vs ++dvs) H Q E):wpAny (model X.prog X.w) X.A (call (.ref f) us) (EP X pins σ Q) X.xe s:=by
 have r2:Vals (vs ++dvs) (us ++ds):=r.append hd
 have hl:(us ++ds).length=ps.length:=by rw[←r2.length];exact F.len _ _ _ _ h
 refine wpAny_call (codeAny_mono (F.run X.A X.stack s H ⟨us,[]⟩ (us ++ds) (vs ++dvs) Q E hr I.env0 (hb s us I.kIn hl) r2 h) λr s' hq=>?_)
 cases r with
 |error e=>exact hx pins σ H s e s' I hq
 |ok fl=>
  cases fl with
  |ret u=>exact I.after hq
  |next=>exact False.elim hq
  |brk=>exact False.elim hq
  |cont=>exact False.elim hq
theorem zqF(F:FnOk X.prog X.w X.K X.mg X.base CX k f fd ps sp)(hr:Room k X.A)(hg:Gl X x)(hm:X.mg x=some (.ref f))(hk:W.keepIn X.K (.ref f)=true)(hb:Binds X.K fd ps ds)(hd:Vals dvs ds)(hx:zjR CX X E)
 (ha:PA X (e::es) t) (hdb:autoParam ((x==("__debug__":Str))=false) w4) (he:autoParam (starEach (e::es) X.env=(false,eval e X.env)::starEach es X.env) y3) (hpl:autoParam ((backTo pos (starEach es X.env)).any (·.1)=false) y3):
 PE X (.Call (.Name x p) (e::es) [] pos) (zrQ sp dvs E t):=by
 intro pins s σ H Q I h
 refine wpAny_Call_Name_kw (zmz I hg hm ?_ hdb)
 refine W.callWith_K (h₀:=X.base) I.ok.mod.kin hk (thn (ha pos pins s σ H _ I h) λus s1 zq=>?_) he hpl
 obtain⟨vs,H1,I1,r,q⟩:=zq
 refine⟨I1.kIn,?_⟩
 exact zsv F hr hb hd hx I1 r q
structure Mk(K:W.Frag)(C f:Addr):Prop where
 makes:W.makesIn K C=true
 init:W.findIn K (.ref C) "__init__"=some (some (.ref f))
 fn:W.isFn K (.ref f)=true
 kp:W.keepIn K (.ref C)=true
end
section
variable{ps ks:List Str}{E:XK}{m:Str}{p kpos:Pos}{o:Expr}{ta:TE}{t tk:TA}{nm:Option Str}
structure KBinds(K:W.Frag)(fd:FuncData)(ps ks:List Str)(g:List Value->List Value->List Value)(gV:List V->List V->List V):Prop where
 to:∀(s:Shared) (us ws:List Value),K.In s.heap->(g us ws).length=ps.length->BindsTo s fd ⟨us,ks.zip ws⟩ (ps.zip (g us ws))
 rel:∀{vs:List V} {us:List Value} {zs:List V} {ws:List Value},Vals vs us->Vals zs ws->Vals (gV vs zs) (g us ws)
variable{g:List Value->List Value->List Value}{gV:List V->List V->List V}
end
structure FnScope(N P:List Str)(sc:Scope):Prop where
 kind:sc.kind= .function
 co:sc.isCoroutine=false
 gen:sc.isGenerator=false
 nd:N.Nodup
 pre:N.take P.length=P
 par:∀x∈P,sc.names.lookup x=some .local\/sc.names.lookup x=some .cell
 nofree:∀y∈sc.names,y.2≠ .free
theorem ziL{kindOf:Str->Option NameKind}{x:Str}:∀{binds:List (Str×Value)} {m:Str->Option Value},(∀v,(x,v)∉binds)->bindL kindOf binds m x=m x
 |[],_,_=>rfl
 |(n,v)::r,m,h=>by
  unfold bindL
  rw[ziL λw hw=>h w (N0 _ hw)]
  split
  ·have:x≠n:=by rintro rfl;exact h v Q0
   simp[this]
  ·rfl
theorem ziF{kindOf:Str->Option NameKind}{x:Str}:∀{binds:List (Str×Value)} {m:Str->Option Value},(∀v,(x,v)∉binds)->bindC kindOf binds m x=m x
 |[],_,_=>rfl
 |(n,v)::r,m,h=>by
  unfold bindC
  rw[ziF λw hw=>h w (N0 _ hw)]
  split
  ·rfl
  ·have:x≠n:=by rintro rfl;exact h v Q0
   simp[this]
theorem zim{kindOf:Str->Option NameKind}{x:Str}{v:Value}:∀{P:List Str} {vs:List Value} {i:Nat} {m:Str->Option Value},P.Nodup->P[i]?=some x->vs[i]?=some v->kindOf x=some .local->
 bindL kindOf (P.zip vs) m x=some v
 |[],_,_,_,_,h,_,_=>by simp at h
 |_::_,[],_,_,_,_,h,_=>by simp at h
 |p::P,w::vs,0,m,nd,h1,h2,hk=>by
  simp at h1 h2;subst h1;subst h2
  show bindL kindOf ((p,w)::P.zip vs) m p=_
  unfold bindL
  rw[ziL λv hv=>(List.nodup_cons.mp nd).1 (List.of_mem_zip hv).1,p0 hk]
  simp
 |p::P,w::vs,i+1,m,nd,h1,h2,hk=>by
  show bindL kindOf ((p,w)::P.zip vs) m x=_
  unfold bindL
  exact zim (i:=i) (List.nodup_cons.mp nd).2 (by simpa using h1) (by simpa using h2) hk
theorem zix{kindOf:Str->Option NameKind}{x:Str}{v:Value}:∀{P:List Str} {vs:List Value} {i:Nat} {m:Str->Option Value},P.Nodup->P[i]?=some x->vs[i]?=some v->kindOf x≠some .local->
 bindC kindOf (P.zip vs) m x=some v
 |[],_,_,_,_,h,_,_=>by simp at h
 |_::_,[],_,_,_,_,h,_=>by simp at h
 |p::P,w::vs,0,m,nd,h1,h2,hk=>by
  simp at h1 h2;subst h1;subst h2
  show bindC kindOf ((p,w)::P.zip vs) m p=_
  unfold bindC
  rw[ziF λv hv=>(List.nodup_cons.mp nd).1 (List.of_mem_zip hv).1,V0 hk]
  simp
 |p::P,w::vs,i+1,m,nd,h1,h2,hk=>by
  show bindC kindOf ((p,w)::P.zip vs) m x=_
  unfold bindC
  exact zix (i:=i) (List.nodup_cons.mp nd).2 (by simpa using h1) (by simpa using h2) hk
noncomputable def zfP(N:List Str)(vs:List V):St:=vs.map some ++List.replicate (N.length -vs.length) none
noncomputable def zlV(CX:CXT)(P:Program)(w:World)(K:W.Frag)(mg:Str->Option Value)(base:Heap)(N:List Str)(qual:Str)(scope:Scope)(f:Addr)(cd:Value)(A:Around)(outer:List Env)(s:Shared)(H:Hp)(E:XK):Cx where
 prog:=P
 w:=w
 K:=K
 mg:=mg
 base:=base
 A:=A.deeper (envOfC qual scope s.heap.objs.size f cd)
 N:=N
 s₀:=s
 H₀:=H
 env:=envOfC qual scope s.heap.objs.size f cd
 outer:=outer
 stack:=envOfC qual scope s.heap.objs.size f cd::outer
 ex:=[]
 calm:=true
 fn:=λ_=>true
 pn:=[]
 xe:=λe s'=>wpAny (model P w) (A.deeper (envOfC qual scope s.heap.objs.size f cd)) (leaving (envOfC qual scope s.heap.objs.size f cd) e) (λ_ s''=>CX outer H s E e s'') (λe' s''=>CX outer H s E e' s'') s'
theorem zkC{sc:Scope}(h:sc.names.lookup x=some .cell):∃c,(cellsFrom n sc.names []).lookup x=some c:=by
 have q:=W.cellsFrom_some sc.names n [] (.inl h)
 exact Option.isSome_iff_exists.mp q
theorem znZ{mg:Str->Option Value}{base:Heap}{ps:List Str}{cd:Value}{outer:List Env}{s1:Shared}{E:XK}
 (S:FnScope N ps scope) (hd:A.handled=none) (e0:Env0 P w K mg base A outer s H) (hl:vs.length=ps.length) (r:Vals vs us)
 (x:InCallC s s.heap.objs.size (bindL (envOfC qual scope s.heap.objs.size f cd).kindOf (ps.zip us) λ_=>none) (cellsFrom (s.heap.objs.size+1) scope.names []) (bindC (envOfC qual scope s.heap.objs.size f cd).kindOf (ps.zip us) λ_=>none) s1):
 Inv (zlV CX P w K mg base N qual scope f cd A outer s H E) [] (zfP N vs) H s1:=by
 have hpl:ps.length<=N.length:=by have:=congrArg List.length S.pre;rw[K1] at this;lia
 obtain⟨h1,tk,rfl,hk⟩:=x.done
 have noA:∀b:Addr,b∉(zlV CX P w K mg base N qual scope f cd A outer s H E).ex:=λb z=>absurd (show b∈([]:List Addr)from z) `Z2
 refine⟨⟨e0.mod,S.kind,rfl,rfl,K0 _,λy z c h1 h2=>?_,λy hy=>?_,λy c _ h=>?_,λ_=>hd,Around.frames_deeper e0.frames, .inr ⟨rfl,rfl⟩,λb z=>absurd z (noA b),e0.bs,e0.bsz,λb _ _=>noA b,λb z=>absurd z (noA b),e0.funs,e0.frf⟩,
  rfl,e0.bare,Un.kept hk,⟨_,x.toInCall.ns,λi y v h1 h2 h3=>?_⟩,λy c h=>⟨_,x.cell y c h⟩,e0.hok.fresh (K0 _),λy c h=>?_,λp hp=>absurd (show p∈([]:List (Addr×Obj))from hp) `Z2,e0.hok.kept hk,?_⟩
 ·exact name_of_addr x.apart (PySem.mem_of_lookup h1) (PySem.mem_of_lookup h2)
 ·have hy:scope.names.lookup y=some .cell\/scope.names.lookup y=some .free:=hy
  rcases hy with hy|hy
  ·exact zkC hy
  ·exact absurd rfl (S.nofree _ (PySem.mem_of_lookup hy))
 ·exact Nat.le_of_lt (x.above y c (PySem.mem_of_lookup h))
 ·have hi:i<vs.length:=by
   unfold zfP at h2
   by_cases hi:i<vs.length
   ·exact hi
   ·rw[E2 (by simpa using hi)] at h2
    rw[List.getElem?_replicate] at h2
    split at h2<;>cases h2
  have ha:vs[i]?=some v:=by
   unfold zfP at h2
   rw[K2 (by simpa using hi),W0] at h2
   cases e:vs[i]? with
   |none=>rw[e] at h2;cases h2
   |some a=>rw[e] at h2;cases h2;rfl
  obtain⟨u,hu,rv⟩:=r.get ha
  have hp:ps[i]?=some y:=by
   rw[←S.pre,List.getElem?_take_of_lt ()];exact h1
  have ndP:ps.Nodup:=by rw[←S.pre];exact S.nd.sublist (List.take_sublist _ _)
  refine⟨u,rv,?_⟩
  rcases S.par y (L0 hp)with k|k
  ·exact .inl ⟨k,zim ndP hp hu k⟩
  ·obtain ⟨c,e⟩:=zkC (n:=s.heap.objs.size+1) k
   refine .inr ⟨.inl k,c,e,?_⟩
   have q:=x.cell y c e
   rw[zix ndP hp hu (by show scope.names.lookup y≠_;rw[k];decide)] at q
   exact q
 ·exact e0.hok.fresh (Nat.le_of_lt (x.above y c (PySem.mem_of_lookup h)))
 ·unfold zfP
  show _=N.length
  rw[O0,B0,List.length_replicate]
  lia
theorem ztV{mg:Str->Option Value}{base:Heap}{name:Str}{params:Arguments}{dV kV:Value}{an:Option Addr}
  {ps:List Str}  (lk:K.lookup f=some ⟨oc,od, .func (W.fnOf name qual params body scope dV kV doc pm an cdv ct),osl⟩) (hcd:W.codeIn K cdv qual=true) (S:FnScope N ps scope)
 (len:∀vs H Q E,sp vs H Q E->vs.length=ps.length)
 (hbody:∀(A:Around) (outer:List Env) (s:Shared) (H:Hp) (vs:List V) (Q:VK) (E:XK),Room k (A.deeper (envOfC qual scope s.heap.objs.size f cdv))->sp vs H Q E->
   ∃t,PSs (zlV CX P w K mg base N qual scope f cdv A outer s H E) body t/\t {nx:=λ_ H'=>Q .non H',rt:=Q} (zfP N vs) H):
 FnOk P w K mg base CX (k+1) f (W.fnOf name qual params body scope dV kV doc pm an cdv ct) ps sp:=by
 refine⟨len,λA outer s H args us vs Q E hr e0 hb r hsp=>?_⟩
 have hl:=len _ _ _ _ hsp
 have KX:K.In s.heap:=e0.mod.kin.keeps λb o e=>(e0.bs b o e).1
 have lim:s.heap.NoLimit:=e0.mod.nolimit.keeps λb o e=>(e0.bs b o e).1
 have hkind:∀y∈ps.zip us,scope.names.lookup y.1=some .local\/(scope.names.lookup y.1=some .cell/\((cellsFrom (s.heap.objs.size+1) scope.names []).lookup y.1).isSome=true):=λ⟨n,v⟩ hy=>by
  rcases S.par n (List.of_mem_zip hy).1 with q|q
  ·exact .inl q
  ·exact .inr ⟨q,W.cellsFrom_some _ _ _ (.inl q)⟩
 refine codeAny_call_function hr.depth (KX _ _ lk) rfl S.co S.gen rfl (W.codeRec_of KX hcd) (hb _ _ _ _ ?_)
 refine wpAny_newFunctionEnv_cells S.kind hkind λenv he s1 x=>?_
 subst he
 refine⟨lim.keeps x.toInCall.keep,codeAny_func ?_⟩
 obtain⟨t,ht,hq⟩:=hbody A outer s H vs Q E (hr.deeper _) hsp
 have I:Inv (zlV CX P w K mg base N qual scope f cdv A outer s H E) [] (zfP N vs) H s1:=znZ S hr.hd e0 hl r x
 refine Y1 (ht [] s1 (zfP N vs) H _ I hq) (λfl s' hs=>?_) λe s' hs=>hs
 have fin:∀{σ':St} {H':Hp} {v:V} {u:Value},Inv (zlV CX P w K mg base N qual scope f cdv A outer s H E) [] σ' H' s'->RelV v u->Q v H'->CE outer P w H s Q u s':=
  λ{σ' H' v u} J rv q=>⟨v,H',J.os,J.bare,J.base,J.hok,rv,q⟩
 cases fl with
 |ret u=>
  obtain⟨v,σ',H',J,rv,q⟩:=hs
  exact fin J rv q
 |next=>
  obtain⟨σ',H',J,q⟩:=hs
  exact fin (v:=V.non) (u:=Value.none) J rfl q
 |brk=>
  obtain⟨_,_,_,q⟩:=hs
  exact False.elim q
 |cont=>
  obtain⟨_,_,_,q⟩:=hs
  exact False.elim q
section
variable{p:Pos}{t:TA}{id:String}{r:List V->Hp->VK->Prop}
def tCB(r:List V->Hp->VK->Prop)(t:TA):TE:=λσ H Q=>t σ H λvs H1=>r vs H1 Q
theorem zou(hc:CallR X (.builtin id) r)(hg:Gl X x)(hm:X.mg x=none)(hv:bootBuiltins x=some (.builtin id))(ha:PA X (e::es) t)(hn:autoParam (x≠"__name__") w4)(hdb:autoParam ((x==("__debug__":Str))=false) w4)
 (he:autoParam (starEach (e::es) X.env=(false,eval e X.env)::starEach es X.env) y3) (hpl:autoParam ((backTo pos (starEach es X.env)).any (·.1)=false) y3):PE X (.Call (.Name x p) (e::es) [] pos) (tCB r t):=by
 intro pins s σ H Q I h
 refine wpAny_Call_Name_kw (zeh I hg hm hv ?_ hn hdb)
 refine PyProof.Rows.callWith_builtin1 (thn (ha pos pins s σ H _ I h) λus s1 zq=>?_) he hpl
 obtain⟨vs,H1,I1,r1,q1⟩:=zq
 exact hc pins s1 σ H1 vs us Q I1 r1 q1
theorem znX(hc:CallR X (.type T) r)(hg:Gl X x)(hm:X.mg x=none)(hv:bootBuiltins x=some (.type T))(ha:PA X (e::es) t)(hn:autoParam (x≠"__name__") w4)(hdb:autoParam ((x==("__debug__":Str))=false) w4)
 (he:autoParam (starEach (e::es) X.env=(false,eval e X.env)::starEach es X.env) y3) (hpl:autoParam ((backTo pos (starEach es X.env)).any (·.1)=false) y3):PE X (.Call (.Name x p) (e::es) [] pos) (tCB r t):=by
 intro pins s σ H Q I h
 refine wpAny_Call_Name_kw (zeh I hg hm hv ?_ hn hdb)
 refine PyProof.Rows.callWith_type1 (thn (ha pos pins s σ H _ I h) λus s1 zq=>?_) he hpl
 obtain⟨vs,H1,I1,r1,q1⟩:=zq
 exact hc pins s1 σ H1 vs us Q I1 r1 q1
end
noncomputable def lexLt:List Int->List Int->Bool
 |[],[]=>false
 |[],_::_=>true
 |_::_,[]=>false
 |x::xs,y::ys=>if x=y then lexLt xs ys else decide (x<y)
theorem zlS(x y:Int)(xs ys:List Int):lexLt (x::xs) (y::ys)=if x=y then lexLt xs ys else decide (x<y):=rfl
theorem zia:lexLt [] []=false:=rfl
theorem zg2(y:Int)(ys:List Int):lexLt [] (y::ys)=true:=rfl
theorem zhh(x:Int)(xs:List Int):lexLt (x::xs) []=false:=rfl
theorem zog(A:Around)(s:Shared)(a:Int)(t:Tok)(c:Int)(u:Tok):∃e,SeqAt.EqAt A s (.int a t) (.int c u) e/\(e=true↔a=c):=
 ⟨(a==c),SeqAt.EqAt.int_int a t c u,`Z2⟩
theorem zpB(A:Around)(s:Shared)(a:Int)(t:Tok)(c:Int)(u:Tok)(prog:Program)(w:World)(E:Value->Shared->Prop)(Q:Value->Shared->Prop)(h:Q (.bool (decide (a<c))) s):
 wpAny (model prog w) A (richCompare .Lt (.int a t) (.int c u)) Q E s:=
 (PyProof.Rows.lt_int h:wpAny (model prog w) A (compareOp .Lt (.int a t) (.int c u)) Q E s)
section
open PySem.SeqAt
open PySem.AutoSeq1 (wpAny_loadPart')
open PySem.MeetsSeq PySem.MeetsSeq2 PySem.MeetsSeq3
theorem zhY(l b:Addr)(items items2:Array Value)(n n2:Nat)(dd dd2:Option Addr)(sl sl2:Array (Option Value))(ns ms:List Int)(hi:IntsAre items.toList ns)(hj:IntsAre items2.toList ms):
 Meets (Builtin.«tuple.__lt__» ⟨[.ref l, .ref b],[]⟩)
  (λ_ R s=>s.heap.get? l=some {cls:= .type "tuple",dict:=dd,data:= .seq items n,slots:=sl}/\s.heap.get? b=some {cls:= .type "tuple",dict:=dd2,data:= .seq items2 n2,slots:=sl2}/\
    R (.ok (.ret (.bool (lexLt ns ms)))) s):=
 .of_wp λprog w A R s h=>by
  obtain⟨hp,g,d,tk,os⟩:=s;obtain⟨hl,hb,h⟩:=h
  have f2:=AutoSeq1.sub_tuple_tuple
  have z1:items.size=ns.length:=by rw[←hi.length];simp
  have z2:items2.size=ms.length:=by rw[←hj.length];simp
  wp_walk using wpAny_loadPart' hl,wpAny_loadPart' hb,wpAny_forIn_list _ (λrest b s'=>b.1=none/\s'=⟨hp,g,d,tk,os⟩/\∃(vs ws:List Value) (ns' ms':List Int),rest=vs.zip ws/\
   IntsAre vs ns'/\IntsAre ws ms'/\ns'.length+items2.size=ms'.length+items.size/\R (.ok (.ret (.bool (lexLt ns' ms')))) ⟨hp,g,d,tk,os⟩) _
  case turn=>
   rintro⟨y,x⟩ rest b s' ⟨hb',rfl,vs,ws,ns',ms',hz,hvi,hwi,hlen,hR⟩
   cases hvi with
   |nil=>rw[List.zip_nil_left] at hz;cases hz
   |cons a t hvi'=>
    cases hwi with
    |nil=>rw[List.zip_nil_right] at hz;cases hz
    |cons c u hwi'=>
     rw[List.zip_cons_cons] at hz
     injection hz with hyx hrest
     injection hyx with hy hx
     subst hy hx
     rw[zlS] at hR
     simp only[Z0] at hlen
     obtain⟨e,he,hiff⟩:=zog A.in1 ⟨hp,g,d,tk,os⟩ a t c u
     refine A0 (he prog w _ _ ?_)
     cases e with
     |true=>
      rw[p0 (hiff.mp rfl)] at hR
      wp_walk
      exact⟨rfl,rfl,_,_,_,_,hrest,hvi',hwi',(),hR⟩
     |false=>
      rw[V0 (λq=>absurd (hiff.mpr q) Y0)] at hR
      have hri:=zpB A.in1 ⟨hp,g,d,tk,os⟩ a t c u prog w
      wp_walk using hri
      exact⟨_,rfl,by simpa using hR⟩
  case fin=>
   rintro⟨b1,b2⟩ s' ⟨hb',rfl,vs,ws,ns',ms',hz,hvi,hwi,hlen,hR⟩
   simp only at hb'
   subst hb'
   have hv:lexLt ns' ms'=decide (items.size<items2.size):=by
    cases hvi with
    |nil=>
     cases hwi with
     |nil=>
      simp only[List.length_nil] at hlen
      rw[zia]
      exact(G0 ()).symm
     |cons c u hw=>
      simp only[List.length_nil,Z0] at hlen
      rw[zg2]
      exact(D0 ()).symm
    |cons a t hv=>
     cases hwi with
     |nil=>
      simp only[List.length_nil,Z0] at hlen
      rw[zhh]
      exact(G0 ()).symm
     |cons c u hw=>
      rw[List.zip_cons_cons] at hz
      cases hz
   rw[hv] at hR
   wp_walk
   exact⟨_,rfl,by simpa[Builtin.Tuple.tupleCompareSizes] using hR⟩
  case h=>
   exact⟨rfl,rfl,items.toList,items2.toList,ns,ms,rfl,hi,hj,(),h⟩
end
theorem lt_tupInts{b:Addr}{ms:List Int}(hl:IsTup s.heap l items)(hb:IsTup s.heap b items2)(hi:IntsAre items.toList ns)(hj:IntsAre items2.toList ms)
 (hu:A.units<cLine) (h:Q (.bool (lexLt ns ms)) s):wpAny (model prog w) A (compareOp .Lt (.ref l) (.ref b)) Q E s:=by
 obtain⟨⟨cls,dd,data,sl⟩,ho,hc,n,hd⟩:=id hl
 obtain⟨⟨cls2,dd2,data2,sl2⟩,ho2,hc2,n2,hd2⟩:=id hb
 simp only at hc hd hc2 hd2
 subst hc hd hc2 hd2
 exact richCompare_meets_room (op:= .Lt) ⟨_,ho,rfl⟩ ⟨_,ho2,rfl⟩ F.slot_tuple_lt F.entry_tuple_lt (F.args_tuple_lt_2 _ _) (zhY l b items items2 n n2 dd dd2 sl sl2 ns ms hi hj)
  ⟨ho,ho2,show Value.bool (lexLt ns ms)≠Value.notImplemented/\Q (.bool (lexLt ns ms)) s from⟨(λx=>nomatch x),h⟩⟩ hu
theorem cat_tup{t b:Addr}{vs ws:List Value}(ht:IsTup s.heap t vs.toArray)(hb:IsTup s.heap b ws.toArray)(hv:vs≠ [])
 (h1:ws=[]->Q (.ref t) s) (h2:ws≠ []->Q (.ref s.heap.objs.size) {s with heap:=s.heap.push {cls:= .type "tuple",data:= .seq (vs ++ws).toArray}})
 (hsz:vs.length+ws.length<=sizeLine):wpAny (model prog w) A (binaryOp .Add (.ref t) (.ref b)) Q E s:=by
 obtain⟨⟨cls,dd,data,sl⟩,ho,hc,n,hd⟩:=id ht
 obtain⟨⟨cls2,dd2,data2,sl2⟩,ho2,hc2,n2,hd2⟩:=id hb
 simp only at hc hd hc2 hd2
 subst hc hd hc2 hd2
 have e:vs.toArray ++ws.toArray=(vs ++ws).toArray:=`Z2
 by_cases hw:ws=[]
 ·exact concat_meets ⟨_,ho,rfl⟩ ⟨_,ho2,rfl⟩ noFill_tuple_add seq_tuple_add F.slot_tuple_add F.entry_tuple_add (F.args_tuple_add_2 _ _)
   (tuple_addW1 t b vs.toArray ws.toArray n n2 dd dd2 sl sl2 (by simpa using hv) (by simp[hw])) ⟨ho,ho2,h1 hw⟩
 ·refine concat_meets ⟨_,ho,rfl⟩ ⟨_,ho2,rfl⟩ noFill_tuple_add seq_tuple_add F.slot_tuple_add F.entry_tuple_add (F.args_tuple_add_2 _ _)
   (tuple_addW2 t b vs.toArray ws.toArray n n2 dd dd2 sl sl2 (by simpa using hv) (by simpa using hw) (by rw[b0,b0];exact hsz)) ⟨ho,ho2,?_⟩
  rw[e]
  exact h2 hw
noncomputable def sIx(n d:Nat):Option Int->Nat
 |none=>d
 |some v=>if v<0 then(v+(n:Int)).toNat else min v.toNat n
noncomputable abbrev TO:=St->Hp->(Option Int->Hp->Prop)->Prop
variable{th:TO}
def PO(X:Cx)(e:Option Expr)(t:TO):Prop:=
 ∀(pins:List (Addr×Obj)) (s:Shared) (σ:St) (H:Hp) (Q:Option Int->Hp->Prop),Inv X pins σ H s->t σ H Q->
  wpAny (model X.prog X.w) X.A (evalPart e X.env) (λu s'=>∃o H',Inv X pins σ H' s'/\IsPart u o/\Q o H') X.xe s
noncomputable def zcl:TO:=λ_ H Q=>Q none H
noncomputable def zrG(t:TE):TO:=λσ H Q=>t σ H λx H1=>∃i,x= .int i/\Q (some i) H1
theorem zhr:∀{us:List Value},Vals (ns.map V.int) us->IntsAre us ns:=by
 induction ns with
 |nil=>intro us r;rw[List.map_nil] at r;cases r;exact .nil
 |cons n ns ih=>
  intro us r
  rw[J1] at r
  cases r with
  |cons r1 r2=>
   obtain⟨t,e⟩:=r1
   subst e
   exact .cons n t (ih r2)
section
variable{lo:Option Expr}{tl:TO}{p2:Pos}
theorem zp6:PO X none zcl:=by
 intro pins s σ H Q I h
 rw[evalPart_none]
 exact F0 ⟨none,H,I, .none,h⟩
theorem zqJ(h:PE X e te):PO X (some e) (zrG te):=by
 intro pins s σ H Q I hw
 rw[evalPart_some]
 refine thn (h pins s σ H _ I hw) λu s1 zq=>?_
 obtain⟨x,H1,I1,r1,q1⟩:=zq
 obtain⟨i,rfl,q⟩:=q1
 obtain⟨t,rfl⟩:=r1
 exact⟨some i,H1,I1, .int i t,q⟩
def SlR(X:Cx)(r:V->Option Int->Option Int->Hp->VK->Prop):Prop:=
 ∀(pins:List (Addr×Obj)) (s:Shared) (σ:St) (H:Hp) (x:V) (v vl vu:Value) (lo hi:Option Int) (sl:Addr) (Q:VK),Inv X pins σ H s->RelV x v->s.heap.IsSliceOf sl vl vu .none->IsPart vl lo->IsPart vu hi->r x lo hi H Q->
  ∃T id,typeLookup (.type T) "__getitem__"=pure (some (.builtin id))/\s.TypeIs v T/\wpAny (model X.prog X.w) X.A (getItem v (.ref sl)) (EP X pins σ Q) X.xe s
def tSl(r:V->Option Int->Option Int->Hp->VK->Prop)(te:TE)(tl th:TO):TE:=λσ H Q=>te σ H λx H1=>tl σ H1 λl H2=>th σ H2 λu H3=>r x l u H3 Q
theorem zoj{r:V->Option Int->Option Int->Hp->VK->Prop}(hr:SlR X r)(he:PE X e te)(hl:PO X lo tl)(hu:PO X hi th):PE X (.Subscript e (.Slice lo hi none p2) pos) (tSl r te tl th):=by
 intro pins s σ H Q I h
 refine Subscript_ (thn (he pins s σ H _ I h) λv s1 zq=>?_)
 obtain⟨x,H1,I1,r1,q1⟩:=zq
 refine wpAny_Slice (thn (hl pins s1 σ H1 _ I1 q1) λvl s2 zq=>?_)
 obtain⟨l,H2,I2,pl,q2⟩:=zq
 refine thn (hu pins s2 σ H2 _ I2 q2) λvu s3 zq1=>?_
 obtain⟨u,H3,I3,pu,q3⟩:=zq1
 rw[evalPart_none]
 refine F0 ?_
 have I4:Inv X pins σ H3 {s3 with heap:=s3.heap.push {cls:= .type "slice",data:= .fields #[vl,vu, .none]}}:=I3.kept (t':=s3.toks) λb ob q=>C0 _ q
 obtain⟨T,id,hT,ht,hg⟩:=hr pins {s3 with heap:=s3.heap.push {cls:= .type "slice",data:= .fields #[vl,vu, .none]}} σ H3 x v vl vu l u s3.heap.objs.size Q I4 r1 (Heap.IsSliceOf.new ..) pl pu q3
 show wpAny (model X.prog X.w) X.A (subscriptTail e (.Slice lo hi none p2) v (.ref s3.heap.objs.size)) (EP X pins σ Q) X.xe {s3 with heap:=s3.heap.push {cls:= .type "slice",data:= .fields #[vl,vu, .none]}}
 exact tail_any (ops:=[.ref s3.heap.objs.size,v]) ht hT hg (by with_unfolding_all rfl)
noncomputable def za0(xs:List V)(lo hi:Option Int):List V:=(xs.drop (sIx xs.length 0 lo)).take (sIx xs.length xs.length hi -sIx xs.length 0 lo)
theorem zkS(xs:List V)(lo hi:Option Int):(za0 xs lo hi).length<=xs.length:=by
 unfold za0
 rw[K1,List.length_drop]
 lia
noncomputable def zun(K:W.Frag):R2:=λx y H Q=>∃a b ns ms,x= .ref a/\y= .ref b/\SqT K H a (ns.map V.int)/\SqT K H b (ms.map V.int)/\Q (.bl (lexLt ns ms)) H
theorem zr9(hu:X.A.units<cLine):OpR X (compareOp .Lt) (zun X.K):=by
 intro pins s σ H x y v u Q I rx ry h
 obtain⟨a,b,ns,ms,rfl,rfl,ha,hb,q⟩:=h
 cases rx
 cases ry
 obtain⟨its,r1,p1,_⟩:=I.tuple ha
 obtain⟨its2,r2,p2,_⟩:=I.tuple hb
 have i1:IntsAre its.toArray.toList ns:=zhr r1
 have i2:IntsAre its2.toArray.toList ms:=zhr r2
 exact lt_tupInts p1 p2 i1 i2 hu ⟨.bl (lexLt ns ms),H,I,rfl,q⟩
noncomputable def ztv(K:W.Frag):R2:=λx y H Q=>∃a b xs ys,x= .ref a/\y= .ref b/\SqT K H a xs/\SqT K H b ys/\xs≠ []/\xs.length+ys.length<=sizeLine/\
 (ys=[]->Q (.ref a) H)/\(ys≠ []->∀p,H p=none->Q (.ref p) (upd H p (.tup (xs ++ys))))
theorem Vals.nil_iff(r:Vals xs us):us=[]↔xs=[]:=by
 cases r with
 |nil=>simp
 |cons _ _=>simp
theorem zqE:OpR X (binaryOp .Add) (ztv X.K):=by
 intro pins s σ H x y v u Q I rx ry h
 obtain⟨a,b,xs,ys,rfl,rfl,ha,hb,hx,hz,q1,q2⟩:=h
 cases rx
 cases ry
 obtain⟨its,r1,p1,_⟩:=I.tuple ha
 obtain⟨its2,r2,p2,_⟩:=I.tuple hb
 refine cat_tup p1 p2 (λz=>hx (r1.nil_iff.mp z)) (λz=>⟨.ref a,H,I,rfl,q1 (r2.nil_iff.mp z)⟩) (λz=>?_) (by rw[←r1.length,←r2.length];exact hz)
 refine⟨.ref s.heap.objs.size,_,I.laid (t':=s.toks) (o:= .tup (xs ++ys)) (λb ob q=>C0 _ q) (K0 _) ?_,rfl,q2 (λw=>z (r2.nil_iff.mpr w)) _ (I.hok.fresh (K0 _))⟩
 exact⟨by rw[O0];exact hz,_,r1.append r2,IsTup.new _ _,NoDict.new rfl (M0 _ rfl)⟩
end
noncomputable def ixN(n:Nat)(i:Int):Option Nat:=if 0<=i then(if i<n then some i.toNat else none)else if -(n:Int)<=i then some (i+n).toNat else none
noncomputable def atI(xs:List α)(i:Int):Option α:=(ixN xs.length i).bind λj=>xs[j]?
theorem zmH{i:Int}(h:ixN n i=some j):seqIndex? i n=some j/\j<n/\-(n:Int)<=i/\i<n:=by
 unfold ixN at h
 by_cases h0:0<=i
 ·rw[p0 h0] at h
  by_cases h1:i<n
  ·rw[p0 h1] at h
   have e:i.toNat=j:=A1 h
   exact⟨by rw[seqIndex_of h0 h1,e],(),(),h1⟩
  ·rw[V0 h1] at h;cases h
 ·rw[V0 h0] at h
  by_cases h1: -(n:Int)<=i
  ·rw[p0 h1] at h
   have e:(i+n).toNat=j:=A1 h
   exact⟨by rw[seqIndex_neg () h1,e],(),h1,()⟩
  ·rw[V0 h1] at h;cases h
theorem zjn{xs:List α}{i:Int}{v:α}(h:atI xs i=some v):∃j,seqIndex? i xs.length=some j/\xs[j]?=some v/\j<xs.length/\-(xs.length:Int)<=i/\i<xs.length:=by
 unfold atI at h
 cases e:ixN xs.length i with
 |none=>rw[e] at h;cases h
 |some j=>
  rw[e] at h
  obtain⟨h1,h2,h3,h4⟩:=zmH e
  exact⟨j,h1,h,h2,h3,h4⟩
theorem zbi{xs:List α}{v:α}(h:xs[j]?=some v):atI xs (j:Int)=some v:=by
 have hj:j<xs.length:=(List.getElem?_eq_some_iff.mp h).1
 have e:ixN xs.length (j:Int)=some j:=by
  unfold ixN
  rw[p0 (),p0 ()];simp
 unfold atI;rw[e];exact h
theorem zlf(xs:List α)(v:α):atI (xs ++ [v]) (-1)=some v:=by
 have hl:(xs ++ [v]).length=xs.length+1:=`Z2
 have e:ixN (xs ++ [v]).length (-1)=some xs.length:=by
  unfold ixN
  rw[hl,V0 ⋯,p0 ()]
  congr 1
  lia
 unfold atI
 rw[e]
 show(xs ++ [v])[xs.length]?=some v
 simp
def zmK(b:Expr):Prop:=∀o i,subscripted b false o i=operate [o,i] (getItem o i)
def IxR(X:Cx)(r:R2):Prop:=
 ∀(value slice:Expr) (pins:List (Addr×Obj)) (s:Shared) (σ:St) (H:Hp) (x y:V) (v u:Value) (Q:VK),Inv X pins σ H s->RelV x v->RelV y u->r x y H Q->
  subscripted slice false v u=operate [v,u] (getItem v u)->wpAny (model X.prog X.w) X.A (subscriptTail value slice v u) (EP X pins σ Q) X.xe s
def MtR(X:Cx)(id:String)(r:V->List V->Hp->VK->Prop):Prop:=
 ∀(pins:List (Addr×Obj)) (s:Shared) (σ:St) (H:Hp) (x:V) (xs:List V) (v:Value) (us:List Value) (Q:VK),Inv X pins σ H s->RelV x v->Vals xs us->r x xs H Q->
  wpAny (model X.prog X.w) X.A (call (.builtin id) (v::us)) (EP X pins σ Q) X.xe s
section
variable{a b:Expr}{ta tb:TE}
theorem IxR.or(h:IxR X r)(h':IxR X r'):IxR X (λx y H Q=>r x y H Q\/r' x y H Q):=by
 intro value slice pins s σ H x y v u Q I rx ry q hs
 rcases q with q|q
 ·exact h value slice pins s σ H x y v u Q I rx ry q hs
 ·exact h' value slice pins s σ H x y v u Q I rx ry q hs
theorem ztn(hr:IxR X r)(ha:PE X a ta)(hb:PE X b tb)(hs:zmK b):PE X (.Subscript a b pos) (tOp r ta tb):=by
 intro pins s σ H Q I h
 exact Subscript_ (zs0 ha hb I h λv u s2 x y H2 I2 rx ry q=>hr a b pins s2 σ H2 x y v u Q I2 rx ry q (hs _ _))
noncomputable def ztB(K:W.Frag):R2:=λx y H Q=>∃p xs i v,x= .ref p/\y= .int i/\SqL K H p xs/\atI xs i=some v/\Q v H
noncomputable def zr5(K:W.Frag):R2:=λx y H Q=>∃p xs i v,x= .ref p/\y= .int i/\SqT K H p xs/\atI xs i=some v/\Q v H
noncomputable def ztE:R2:=λx y H Q=>∃z i c,x= .str z/\y= .int i/\z.length<=sizeLine/\atI z.cps.toList i=some c/\Q (.str ⟨#[c]⟩) H
theorem zA:IxR X (ztB X.K):=by
 intro value slice pins s σ H x y v u Q I rx ry h hs
 obtain⟨p,xs,i,z,rfl,rfl,hq,he,q⟩:=h
 cases rx
 obtain⟨t,rfl⟩:=ry
 obtain⟨its,r,pl,hz⟩:=I.list hq
 obtain⟨j,h1,h2,h3,h4,h5⟩:=zjn he
 obtain⟨w,ew,rw'⟩:=r.get h2
 have hl:=r.length
 have hn:=zfa
 have fin:EP X pins σ Q w s:=⟨z,H,I,rw',q⟩
 by_cases h0:0<=i
 ·have hj:i.toNat=j:=by
   rw[seqIndex_of h0 h5] at h1
   exact A1 h1
  exact item_listR pl.isList h0 () (by rw[hj];simpa using ew) fin hs
 ·have hj:(i+(its.toArray.size:Int)).toNat=j:=by
   rw[seqIndex_neg () h4] at h1
   rw[b0,←hl]
   exact A1 h1
  exact subscriptTail_builtinR (x:=w) pl.isList.typeIs slot_list_getitem.lookup
   (wpAny_getItem_list_neg (Q:=λr s'=>r=w/\EP X pins σ Q r s') pl.isList () (by rw[b0]<;>lia) () (by rw[hj];simpa using ew) ⟨rfl,fin⟩) hs
theorem zR:IxR X (zr5 X.K):=by
 intro value slice pins s σ H x y v u Q I rx ry h hs
 obtain⟨p,xs,i,z,rfl,rfl,hq,he,q⟩:=h
 cases rx
 obtain⟨t,rfl⟩:=ry
 obtain⟨its,r,pl,hz⟩:=I.tuple hq
 obtain⟨j,h1,h2,h3,h4,h5⟩:=zjn he
 obtain⟨w,ew,rw'⟩:=r.get h2
 have hl:=r.length
 have hn:=zfa
 have fin:EP X pins σ Q w s:=⟨z,H,I,rw',q⟩
 exact subscriptTail_builtinR (x:=w) pl.typeIs slot_tuple_getitem.lookup
  (getItem_tuple (j:=j) (Q:=λr s'=>r=w/\EP X pins σ Q r s') pl () () (by rw[b0,←hl];exact h1) (by simpa using ew) ⟨rfl,fin⟩) hs
theorem zlg:IxR X ztE:=by
 intro value slice pins s σ H x y v u Q I rx ry h hs
 obtain⟨z,i,c,rfl,rfl,hz,he,q⟩:=h
 obtain⟨t,rfl⟩:=rx
 obtain⟨t',rfl⟩:=ry
 obtain⟨j,h1,h2,h3,h4,h5⟩:=zjn he
 have hl:z.cps.toList.length=z.length:=by simp[Str.length]
 rw[hl] at h1 h4 h5
 have hn:=zfa
 exact tail_any (typeIs_str s z t) slot_str_getitem.lookup (getItem_str (c:=c) (by
  have e1:decide (i< -(2^63:Int))=false:=G0 ()
  have e2:decide (i≥2^63)=false:=G0 ()
  rw[e1,e2,Bool.or_false]) (by rw[h1];simpa using h2) ⟨.str ⟨#[c]⟩,H,I.tok _,⟨_,rfl⟩,q⟩) hs
noncomputable def rIx(K:W.Frag):R2:=λx y H Q=>ztB K x y H Q\/zr5 K x y H Q\/ztE x y H Q
theorem zpK:IxR X (rIx X.K):=zA.or (zR.or zlg)
theorem zlP(its:List Value)(n j:Nat)(u:Value):Obj.mapSeq (·.setIfInBounds j u) {cls:= .type "list",data:= .seq its.toArray n}={cls:= .type "list",data:= .seq (its.set j u).toArray n}:=by
 simp[Obj.mapSeq]
theorem Inv.lst{pins:List (Addr×Obj)}{σ:St}{H:Hp}{s:Shared}{p:Addr}{xs:List V}(I:Inv X pins σ H s)(h:H p=some (.lst xs)):
 ∃(its:List Value) (n:Nat),Vals xs its/\s.heap.get? p=some {cls:= .type "list",data:= .seq its.toArray n}/\xs.length<=sizeLine:=by
 obtain⟨z,its,n,r,e⟩:=I.hok p _ h
 exact⟨its,n,r,e,z⟩
theorem Inv.lstUpd{n':Nat}{f:Obj->Obj}(I:Inv X pins σ H s)(h:H p=some (.lst xs))
 (ho:s.heap.get? p=some {cls:= .type "list",data:= .seq its.toArray n}) (hf:f {cls:= .type "list",data:= .seq its.toArray n}={cls:= .type "list",data:= .seq its'.toArray n'}) (r:Vals ys its') (hz:ys.length<=sizeLine) (t:Nat):
 Inv X pins σ (upd H p (.lst ys)) {s with heap:=s.heap.update p f,toks:=t}:=by
 have e:(s.heap.update p f).get? p=some {cls:= .type "list",data:= .seq its'.toArray n'}:=by
  rw[Heap.get?_update_self f ho (by rw[hf]<;>rfl),hf]
 refine I.write (x:=p) (e:=p) (by rw[h];trivial) (.inl rfl) (λb u hb q=>(Heap.get?_update_other _ _ (Ne.symm hb)).trans q) ⟨_,e⟩ ?_
 exact⟨hz,its',n',r,e⟩
def ztK:V->V->V->Hp->(Hp->Prop)->Prop:=λo i v H Q=>∃p xs k j,o= .ref p/\i= .int k/\H p=some (.lst xs)/\ixN xs.length k=some j/\Q (upd H p (.lst (xs.set j v)))
theorem zhi:zr8 X ztK:=by
 intro pins s σ H o i v ov iv u Q I ro ri rv h
 obtain⟨p,xs,k,j,rfl,rfl,hp,hj,q⟩:=h
 cases ro
 obtain⟨t,rfl⟩:=ri
 obtain⟨its,n,r,ho,hz⟩:=I.lst hp
 obtain⟨h1,h2,h3,h4⟩:=zmH hj
 have hl:=r.length
 have hn:=zfa
 have I':Inv X pins σ (upd H p (.lst (xs.set j v))) {s with heap:=s.heap.update p (Obj.mapSeq (·.setIfInBounds j u))}:=
  I.lstUpd hp ho (zlP its n j u) (r.set rv j) (by rw[List.length_set];exact hz) s.toks
 by_cases h0:0<=k
 ·have hk:k.toNat=j:=by
   rw[seqIndex_of h0 h4] at h1
   exact A1 h1
  exact W.ki_setAt ho h0 () (by rw[b0,←hl];exact h4) (by rw[hk];exact⟨_,I',q⟩)
 ·have hk:(k+(its.toArray.size:Int)).toNat=j:=by
   rw[seqIndex_neg () h3] at h1
   rw[b0,←hl]
   exact A1 h1
  exact W.ki_setBack ho () (by rw[b0,←hl];exact h3) () (by rw[hk];exact⟨_,I',q⟩)
theorem zjm(lo hi:Option Int)(n:Nat):(sliceBounds lo hi none n).1=((sIx n 0 lo:Nat):Int)/\(sliceBounds lo hi none n).2.1=((sIx n n hi:Nat):Int)/\(sliceBounds lo hi none n).2.2=1:=by
 refine⟨?_,?_,rfl⟩
 ·cases lo with
  |none=>simp[sliceBounds,sIx]
  |some i=>
   simp only[sliceBounds,sIx,Option.getD_none,show(1:Int)>0 by decide,if_true]
   by_cases h:i<0
   ·simp only[h,if_true]<;>lia
   ·simp only[h,if_false]<;>lia
 ·cases hi with
  |none=>simp[sliceBounds,sIx]
  |some i=>
   simp only[sliceBounds,sIx,Option.getD_none,show(1:Int)>0 by decide,if_true]
   by_cases h:i<0
   ·simp only[h,if_true]<;>lia
   ·simp only[h,if_false]<;>lia
theorem zh5(its:List Value)(lo hi:Option Int):slicePick its.toArray lo hi none=((its.drop (sIx its.length 0 lo)).take (sIx its.length its.length hi -sIx its.length 0 lo)).toArray:=by
 obtain⟨h1,h2,h3⟩:=zjm lo hi its.toArray.size
 unfold slicePick
 rw[h1,h2,h3]
 simp only[sliceRange_one,pick_run,b0]<;>rfl
def zuc(K:W.Frag):V->Option Int->Option Int->Hp->VK->Prop:=λx lo hi H Q=>∃a xs,x= .ref a/\SqL K H a xs/\∀p,H p=none->Q (.ref p) (upd H p (.lst (za0 xs lo hi)))
theorem zaN:SlR X (zuc X.K):=by
 intro pins s σ H x v vl vu lo hi sl Q I rx hs pl pu h
 obtain⟨a,xs,rfl,hx,q⟩:=h
 cases rx
 obtain⟨its,r,ht,hz⟩:=I.list hx
 have hlen:=r.length
 refine⟨"list",_,slot_list_getitem.lookup,ht.isList.typeIs,?_⟩
 refine wpAny_getItem_list_slice ht.isList hs pl pu .none `Z2 ?_ (by rw[b0]<;>lia)
 rw[zh5,←hlen]
 refine⟨.ref s.heap.objs.size,_,I.laid (t':=s.toks) (o:= .lst (za0 xs lo hi)) (λb ob q=>C0 _ q) (K0 _) ?_,rfl,q _ (I.hok.fresh (K0 _))⟩
 exact⟨F1 (zkS xs lo hi) hz,_,0,(r.drop (sIx xs.length 0 lo)).take (sIx xs.length xs.length hi -sIx xs.length 0 lo),M0 _ rfl⟩
noncomputable def zfT:V->Bool
 | .non=>true
 | .bl _=>true
 | .int _=>true
 | .str _=>true
 |_=>false
noncomputable def eqV:V->V->Bool
 | .non, .non=>true
 | .bl a, .bl b=>a==b
 | .bl a, .int b=>(if a then 1 else 0)==b
 | .int a, .bl b=>a==(if b then 1 else 0)
 | .int a, .int b=>a==b
 | .str a, .str b=>a==b
 |_,_=>false
theorem zr1{y x:V}{v:Value}(ry:RelV y u)(rx:RelV x v)(fy:zfT y=true)(fx:zfT x=true):SeqAt.EqAt A s u v (eqV y x):=by
 cases y with
 |non=>
  cases ry
  cases x with
  |non=>cases rx;exact SeqAt.EqAt.same _
  |bl b=>cases rx;exact SeqAt.EqAt.none_bool b
  |int b=>obtain ⟨t,rfl⟩:=rx;exact SeqAt.EqAt.none_int b t
  |str b=>obtain ⟨t,rfl⟩:=rx;exact SeqAt.EqAt.none_str b t
  |_=>exact absurd (show false=true from fx) Y0
 |bl a=>
  cases ry
  cases x with
  |non=>cases rx;exact SeqAt.EqAt.bool_none a
  |bl b=>cases rx;exact SeqAt.EqAt.bool_bool a b
  |int b=>obtain ⟨t,rfl⟩:=rx;exact SeqAt.EqAt.bool_int a b t
  |str b=>obtain ⟨t,rfl⟩:=rx;exact SeqAt.EqAt.bool_str a b t
  |_=>exact absurd (show false=true from fx) Y0
 |int a=>
  obtain⟨t',rfl⟩:=ry
  cases x with
  |non=>cases rx;exact SeqAt.EqAt.int_none a t'
  |bl b=>cases rx;exact SeqAt.EqAt.int_bool a t' b
  |int b=>obtain ⟨t,rfl⟩:=rx;exact SeqAt.EqAt.int_int a t' b t
  |str b=>obtain ⟨t,rfl⟩:=rx;exact SeqAt.EqAt.int_str a t' b t
  |_=>exact absurd (show false=true from fx) Y0
 |str a=>
  obtain⟨t',rfl⟩:=ry
  cases x with
  |non=>cases rx;exact SeqAt.EqAt.str_none a t'
  |bl b=>cases rx;exact SeqAt.EqAt.str_bool a t' b
  |int b=>obtain ⟨t,rfl⟩:=rx;exact SeqAt.EqAt.str_int a t' b t
  |str b=>obtain ⟨t,rfl⟩:=rx;exact SeqAt.EqAt.str_str a t' b t
  |_=>exact absurd (show false=true from fx) Y0
 |_=>exact absurd (show false=true from fy) Y0
noncomputable def eqU(x:V)(u:Value):Bool:=match u with
 | .none=>eqV .non x
 | .bool b=>eqV (.bl b) x
 | .int i _=>eqV (.int i) x
 | .str z _=>eqV (.str z) x
 |_=>false
theorem zoX{x y:V}(r:RelV y u)(f:zfT y=true):eqU x u=eqV y x:=by
 cases y with
 |non=>cases r;rfl
 |bl b=>cases r;rfl
 |int i=>obtain ⟨t,rfl⟩:=r;rfl
 |str z=>obtain ⟨t,rfl⟩:=r;rfl
 |_=>exact absurd (show false=true from f) Y0
theorem zft{x:V}:∀{xs:List V} {us:List Value},Vals xs us->xs.all zfT=true->us.any (eqU x)=xs.any λy=>eqV y x
 |_,_, .nil,_=>rfl
 |y::xs,u::us, .cons r t,f=>by
  rw[List.all_cons,R0] at f
  rw[List.any_cons,List.any_cons,zoX r f.1,zft t f.2]
theorem zdZ{A:Around}{s:Shared}{x:V}{v:Value}(rx:RelV x v)(fx:zfT x=true):∀{xs:List V} {us:List Value},Vals xs us->xs.all zfT=true->∀u∈us,SeqAt.EqAt A s u v (eqU x u)
 |_,_, .nil,_=>λu hu=>by cases hu
 |y::xs,u::us, .cons r t,f=>λu' hu=>by
  rw[List.all_cons,R0] at f
  rcases I0.mp hu with rfl|hu
  ·rw[zoX r f.1];exact zr1 r rx f.1 fx
  ·exact zdZ rx fx t f.2 u' hu
noncomputable def inV(x:V)(xs:List V):Bool:=xs.any λy=>eqV y x
noncomputable def rIn(K:W.Frag)(neg:Bool):R2:=λx y H Q=>∃p xs,y= .ref p/\(SqL K H p xs\/SqT K H p xs)/\zfT x=true/\xs.all zfT=true/\Q (.bl (if neg then !inV x xs else inV x xs)) H
theorem zdh:OpR X (compareOp .In) (rIn X.K false):=by
 intro pins s σ H x y v u Q I rx ry h
 obtain⟨p,xs,rfl,hq,fx,fs,q⟩:=h
 cases ry
 rcases hq with hq|hq
 ·obtain ⟨its,r,pl,hz⟩:=I.list hq
  refine SeqAt.in_listAt (eqU x) pl.isList (λw hw=>zdZ rx fx r fs w (by simpa using hw)) ⟨.bl _,H,I,rfl,?_⟩
  rw[show its.toArray.any (eqU x)=its.any (eqU x) by simp,zft r fs]
  exact q
 ·obtain ⟨its,r,pl,hz⟩:=I.tuple hq
  refine SeqAt.in_tupleAt (eqU x) pl (λw hw=>zdZ rx fx r fs w (by simpa using hw)) ⟨.bl _,H,I,rfl,?_⟩
  rw[show its.toArray.any (eqU x)=its.any (eqU x) by simp,zft r fs]
  exact q
theorem zdL:OpR X (compareOp .NotIn) (rIn X.K true):=by
 intro pins s σ H x y v u Q I rx ry h
 obtain⟨p,xs,rfl,hq,fx,fs,q⟩:=h
 cases ry
 rcases hq with hq|hq
 ·obtain ⟨its,r,pl,hz⟩:=I.list hq
  refine SeqAt.notIn_listAt (eqU x) pl.isList (λw hw=>zdZ rx fx r fs w (by simpa using hw)) ⟨.bl _,H,I,rfl,?_⟩
  rw[show its.toArray.any (eqU x)=its.any (eqU x) by simp,zft r fs]
  exact q
 ·obtain ⟨its,r,pl,hz⟩:=I.tuple hq
  refine SeqAt.notIn_tupleAt (eqU x) pl (λw hw=>zdZ rx fx r fs w (by simpa using hw)) ⟨.bl _,H,I,rfl,?_⟩
  rw[show its.toArray.any (eqU x)=its.any (eqU x) by simp,zft r fs]
  exact q
theorem zjx:CallR X (.builtin "len") (λxs H Q=>∃p ys,xs=[.ref p]/\(SqL X.K H p ys\/SqT X.K H p ys)/\Q (.int ys.length) H):=by
 intro pins s σ H xs us Q I r h
 obtain⟨p,ys,rfl,hq,q⟩:=h
 obtain⟨u,rfl,rx⟩:=zbq r
 cases rx
 have hn:=zfa
 rcases hq with hq|hq
 ·obtain ⟨its,r',pl,hz⟩:=I.list hq
  have hlen:=r'.length
  exact Calls.call_len_list pl.isList (by simp only[b0]<;>lia) ⟨.int ys.length,H,I.tok _,⟨s.toks+1,by rw[b0,hlen]⟩,q⟩
 ·obtain ⟨its,r',pl,hz⟩:=I.tuple hq
  have hlen:=r'.length
  exact len_tuple pl (by simp only[b0]<;>lia) ⟨.int ys.length,H,I.tok _,⟨s.toks+1,by rw[b0,hlen]⟩,q⟩
theorem zjB:CallR X (.builtin "len") (λxs H Q=>∃z,xs=[.str z]/\z.length<=sizeLine/\Q (.int z.length) H):=by
 intro pins s σ H xs us Q I r h
 obtain⟨z,rfl,hz,q⟩:=h
 obtain⟨u,rfl,t,rfl⟩:=zbq r
 have hn:=zfa
 exact len_str () ⟨.int z.length,H,I.tok _,⟨_,rfl⟩,q⟩
theorem CallR.or{f:Value}{r r':List V->Hp->VK->Prop}(h:CallR X f r)(h':CallR X f r'):CallR X f (λxs H Q=>r xs H Q\/r' xs H Q):=by
 intro pins s σ H xs us Q I rs q
 rcases q with q|q
 ·exact h pins s σ H xs us Q I rs q
 ·exact h' pins s σ H xs us Q I rs q
theorem zC:CallR X (.type "tuple") (λxs H Q=>∃p ys,xs=[.ref p]/\((SqL X.K H p ys/\∀l,H l=none->Q (.ref l) (upd H l (.tup ys)))\/(SqT X.K H p ys/\Q (.ref p) H))):=by
 intro pins s σ H xs us Q I r h
 obtain⟨p,ys,rfl,h⟩:=h
 obtain⟨u,rfl,rx⟩:=zbq r
 cases rx
 rcases h with⟨hq,q⟩|⟨hq,q⟩
 ·obtain ⟨its,r',pl,hz⟩:=I.list hq
  have hlen:=r'.length
  refine call_tuple_list pl.isList (λh' kp=>?_) (by simp only[b0]<;>lia)
  have I1:Inv X pins σ H {s with heap:=h'}:=I.kept (t':=s.toks) kp
  have I2:Inv X pins σ (upd H h'.objs.size (.tup ys)) {s with heap:=h'.push {cls:= .type "tuple",data:= .seq its.toArray}}:=
   I1.laid (t':=s.toks) (λb o e=>C0 _ e) (K0 _) (show ObjOk X.prog X.w _ _ _ (.tup ys)from⟨hz,its,r',IsTup.new _ _,NoDict.new rfl (M0 _ rfl)⟩)
  exact⟨.ref h'.objs.size,_,I2,rfl,q _ (I1.hok.fresh (K0 _))⟩
 ·obtain ⟨its,r',pl,hz⟩:=I.tuple hq
  exact call_tuple_same pl ⟨.ref p,H,I,rfl,q⟩
def tyV(K:W.Frag)(T:String)(x:V)(H:Hp):Prop:=match x with
 | .str _=>T="str"
 | .int _=>T="int"
 | .ref p=>(T="list"/\∃xs,SqL K H p xs)\/(T="tuple"/\∃o,K.lookup p=some o/\o.cls= .type "tuple"/\o.dict=none)\/
    (T="dict"/\((∃kvs,H p=some (.dK kvs))\/∃kvs,H p=some (.dT kvs)))\/(T="set"/\∃S n,H p=some (.set S n))\/(T="tuple"/\∃xs,H p=some (.tup xs))
 |_=>False
theorem zsm{x:V}{v:Value}(I:Inv X pins σ H s)(r:RelV x v)(ty:tyV X.K T x H):
 s.TypeIs v T/\∀a,v= .ref a->∃ob,s.heap.get? a=some ob/\ob.dict=none:=by
 cases x with
 |str z=>
  obtain⟨t,rfl⟩:=r
  cases(show T="str"from ty)
  exact⟨typeIs_str s z t,λ_ e=>nomatch e⟩
 |int i=>
  obtain⟨t,rfl⟩:=r
  cases(show T="int"from ty)
  exact⟨typeIs_int s i t,λ_ e=>nomatch e⟩
 |ref p=>
  cases r
  rcases ty with⟨rfl,xs,hq⟩|⟨rfl,o,hk,hc,hd⟩|⟨rfl,hk⟩|⟨rfl,S,n,hk⟩|⟨rfl,xs,hk⟩
  ·obtain ⟨its,_,pl,_⟩:=I.list hq
   refine⟨pl.isList.typeIs,λa e=>?_⟩
   cases e
   obtain⟨o,n,e,c,hd,_⟩:=pl
   exact⟨o,e,hd⟩
  ·refine ⟨⟨o,I.kIn p o hk,hc⟩,λa e=>?_⟩
   cases e
   exact⟨o,I.kIn _ o hk,hd⟩
  ·have z:∃o,s.heap.get? p=some o/\o.ExactDict:=by
    rcases hk with⟨kvs,hk⟩|⟨kvs,hk⟩
    ·obtain ⟨_,_,_,_,o,_,_,e,ex,_⟩:=I.hok p _ hk
     exact⟨o,e,ex⟩
    ·obtain ⟨_,_,_,_,o,_,_,e,ex,_⟩:=I.hok p _ hk
     exact⟨o,e,ex⟩
   obtain⟨o,e,ex⟩:=z
   refine⟨⟨o,e,ex.1⟩,λa e2=>?_⟩
   cases e2
   exact⟨o,e,ex.2.1⟩
  ·obtain ⟨o,_,_,_,e,ex,_⟩:=I.hok p _ hk
   refine⟨⟨o,e,ex.1⟩,λa e2=>?_⟩
   cases e2
   exact⟨o,e,ex.2.1⟩
  ·obtain ⟨_,_,_,⟨o,e,c,_⟩,nd⟩:=I.hok p _ hk
   refine⟨⟨o,e,c⟩,λa e2=>?_⟩
   cases e2
   exact⟨o,e,nd o e⟩
 |_=>exact False.elim ty
def tBM(K:W.Frag)(T:String)(r:V->List V->Hp->VK->Prop)(to:TE)(t:TA):TE:=λσ H Q=>to σ H λx H1=>tyV K T x H1/\t σ H1 λxs H2=>r x xs H2 Q
variable{o:Expr}{to:TE}{t:TA}{name:Str}{id:String}{r:V->List V->Hp->VK->Prop}
theorem ztQ(pa:PlainAttrs T)(slot:Slot T name id)(hty:typeOf (.builtin id)=pure (.type "method_descriptor"))(hm:MtR X id r)(ho:PE X o to)(ha:PA X (e::es) t)
 (hbase:autoParam (attributeBase o name X.env (eval o X.env)=eval o X.env) y3)
 (hfew:autoParam (((backTo cpos (starEach (e::es) X.env)).all (λx=>!x.1)&&(backToKw cpos (keywordEach [] X.env)).all (λx=>x.1.isSome)
   &&decide ((e::es).length+([]:List Keyword).length+(if([]:List Keyword).isEmpty then 0 else 1)<30))=true) y3)
 (hline:autoParam ((apos.endLine==cpos.line)=true) y3) (hs:autoParam (starEach (e::es) X.env=(false,eval e X.env)::starEach es X.env) y3) (hplain:autoParam ((backTo cpos (starEach es X.env)).any (·.1)=false) y3):
 PE X (.Call (.Attribute o name apos) (e::es) [] cpos) (tBM X.K T r to t):=by
 intro pins s σ H Q I h
 refine wpAny_Call_method_late hbase hfew hline rfl (thn (ho pins s σ H _ I h) λv s1 zq=>?_)
 obtain⟨x,H1,I1,r1,ty,q1⟩:=zq
 obtain⟨h1,h2⟩:=zsm I1 r1 ty
 refine⟨T,id,pa,slot,hty,h1,h2,?_⟩
 have hA:=ha cpos pins s1 σ H1 _ I1 q1
 rw[hs] at hA⊢
 refine Calls.callWith_builtin (by show(false||(backTo cpos (starEach es X.env)).any (·.1))=false;rw[hplain]<;>rfl) (Calls.evalArgs_plain ?_)
 refine thn hA λus s2 zq=>?_
 obtain⟨vs,H2,I2,r2,q2⟩:=zq
 exact hm pins s2 σ H2 x vs v us Q I2 r1 r2 q2
end
def MtM(X:Cx)(id:String)(r:V->List V->Hp->VK->Prop):Prop:=
 ∀(pins:List (Addr×Obj)) (s:Shared) (σ:St) (H:Hp) (x:V) (xs:List V) (v:Value) (us:List Value) (Q:VK),Inv X pins σ H s->RelV x v->Vals xs us->r x xs H Q->
  wpAny (model X.prog X.w) X.A (call (.builtin id) (v::us)) (EP X pins σ Q) X.xe s
theorem Vals.one{x:V}(h:Vals [x] us):∃u,us=[u]/\RelV x u:=by
 cases h with
 |cons r t=>cases t;exact⟨_,rfl,r⟩
section
variable{b:Addr}
theorem Inv.lset{f:Array Value->Array Value}(I:Inv X pins σ H s)(hH:H l=some (.lst xs))
 (e:s.heap.get? l=some {cls:= .type "list",data:= .seq its.toArray n}) (hf:f its.toArray=its'.toArray) (hv:Vals ys its') (hz:ys.length<=sizeLine):
 Inv X pins σ (upd H l (.lst ys)) {s with heap:=s.heap.update l (Obj.mapSeq f),toks:=t'}:=by
 have q:=IsL.update e f
 rw[hf] at q
 refine I.write (x:=l) (e:=l) (by rw[hH];exact trivial) (.inl rfl) (λb' u hb hu=>(Heap.get?_update_other s.heap (Obj.mapSeq f) (Ne.symm hb)).trans hu) ⟨_,q⟩ ?_
 exact⟨hz,its',_,hv,q⟩
theorem Inv.lstM(I:Inv X pins σ H s)(hH:H l=some (.lst xs)):xs.length<=sizeLine/\∃(its:List Value) (n:Nat),Vals xs its/\xs.length=its.length/\s.heap.get? l=some {cls:= .type "list",data:= .seq its.toArray n}:=by
 obtain⟨z,its,n,r,e⟩:=I.hok l _ hH
 exact⟨z,its,n,r,r.length,e⟩
theorem zoo(h:n<=sizeLine):Builtin.List.listTooLong n=false:=by
 unfold Builtin.List.listTooLong
 exact G0 ()
end
def zq0:V->List V->Hp->VK->Prop:=λx vs H Q=>∃l xs y,x= .ref l/\vs=[y]/\H l=some (.lst xs)/\xs.length<sizeLine/\Q .non (upd H l (.lst (xs ++ [y])))
theorem zau:MtM X "list.append" zq0:=by
 intro pins s σ H x vs v us Q I rx rv h
 obtain⟨l,xs,y,rfl,rfl,hH,hz,q⟩:=h
 cases rx
 obtain⟨u,rfl,ru⟩:=rv.one
 obtain⟨z,its,n,r,hl,e⟩:=I.lstM hH
 refine call_meets F.slot_list_append ⟨_,e,rfl⟩ F.entry_list_append (F.args_list_append_2 _ _) (PySem.list_append l its.toArray n u (by rw[b0];lia)) ⟨e,?_⟩
 refine⟨.non,_,I.lset (its':=its ++ [u]) hH e `Z2 (r.append (.cons ru .nil)) ?_,rfl,q⟩
 rw[O0,List.length_singleton]
 lia
section
set_option maxRecDepth 100000 in
end
section
open PySem.W PySem.Calls
theorem zgN{P:Params}:∀(ns:List Int) (vs:List Value),WellAll P h vs (ns.map WData.int)->IntsAre vs ns:=by
 intro ns
 induction ns with
 |nil=>
  intro vs w
  rw[List.map_nil] at w
  cases w
  exact .nil
 |cons n ns ih=>
  intro vs w
  rw[J1] at w
  cases w with
  |cons a b=>
   cases a
   exact .cons _ _ (ih _ b)
theorem znp{l:OpenLaw}(hn:l.most=some n){P:Params}{args:List WData}{vals:List Value}
 (hpre:l.row.toRowW.claim.pre args=true) (hwl:WellAll P h vals args):
 ∃a vs ns,vals=[Value.ref a]/\args=[WData.list (ns.map WData.int)]/\h.get? a=some {cls:= .type "list",data:= .seq vs.toArray}/\IntsAre vs ns/\ns.length<=n:=by
 have hsh:WShape.hasAll [] args [.list .int]=true:=(pre_splitW hpre).1
 have hc:l.pre.holds [] {args:=args}=true:=(pre_splitW hpre).2
 obtain⟨d,r,rfl,h1,h2⟩:=hasAllW_cons hsh
 obtain rfl:=hasAllW_nil h2
 obtain⟨xs,rfl,h3⟩:=hasW_list h1
 obtain⟨ns,rfl⟩:=items_int h3
 have hlen:ns.length<=n:=by
  unfold OpenLaw.pre at hc
  have h4:(WTm.not (.lt (.lit (.int (n:Int))) (.len (.arg 0)))).holds [] {args:=[.list (ns.map .int)]}=true:=by
   have h4:=(holds_andW hc).1
   rw[hn] at h4
   exact h4
  have h5:=condW_of h4 (w_not (w_lt w_lit (w_len_list (w_arg rfl))))
  rw[B0] at h5
  refine Nat.le_of_not_lt λq=>?_
  have q':(n:Int)<((ns.length:Nat):Int):=()
  first
   |(rw[D0 q'] at h5;exact absurd h5 ⋯)
   |(simp at h5;lia)
 cases hwl with
 |cons w1 w2=>
  cases w2
  cases w1 with
  |list ho hall=>exact ⟨_,_,ns,rfl,rfl,ho,zgN ns _ hall,hlen⟩
theorem znY(l:OpenLaw)(args:List WData):l.row.toRowW.claim.post args (.bool true) args=true:=
 postW_of (r:=l.row.toRowW) (X:=(true==true))
  (show WShape.has [] (.bool true) .bool=true by first|rfl|decide|simp[WShape.has,WShape.arms,WShape.armsAll])
  (show(WTm.eq .res (.lit (.bool true))).value [] {args:=args,res:=some (.bool true),after:=args}=some (.bool (true==true))from w_eq_bool (w_res rfl) w_lit) rfl
theorem attach_call{l:OpenLaw}{q:Program}{d:DefRec}
 (hn:l.most=some n) (hdf:d.params.defaults=[])
 (call:∀(w:World) (s₀ s₁:Shared) (mg mb:Str->Option Value) (fa:Addr) (o:Obj) (pm cd doc:Value) (a:Addr) (vs:List Value) (ns:List Int),
   Ground q loose [] XP w s₀ mg mb s₁.heap->YP w s₁.heap->
   s₁.heap.get? fa=some o->o.data= .func (docDef d.name d.params d.body d.scope pm cd doc)->s₁.heap.CodeRec cd d.name->mg d.name=some (.ref fa)->
   s₁.heap.get? a=some {cls:= .type "list",data:= .seq vs.toArray}->IntsAre vs ns->ns.length<=n->s₁.gens= #[]->
   codeAny (model l.prog w) callerA (.call (.ref fa) ⟨[.ref a],[]⟩) (λr s'=>r= .ok (.ret (.bool true))/\OldK s₁.heap s'.heap/\s'.os=s₁.os/\AllBare s'.gens) s₁):
 WalkO q loose XP YP l.row.toRowW d [] (λf vs=>PySem.call f vs):=by
 intro w s₀ s₁ mg mb G Y fa o pm cd doc dV kV ho hd hcd hD hmg hg args vals as hpre hlay hrd hwl hlo
 obtain rfl:dV= .none:=Dflts.none hD hdf
 obtain rfl:kV= .none:=Dflts.noKw hD
 obtain⟨a,vs,ns,rfl,rfl,hobj,hints,hlen⟩:=znp hn hpre hwl
 refine enter_call (codeAny_mono (call w s₀ s₁ mg mb fa o pm cd doc a vs ns G Y ho (fd_plain hd) hcd hmg hobj hints hlen hg) λr s' hq=>?_)
 obtain⟨rfl,h2,h3,h4⟩:=hq
 exact⟨.inl ⟨.bool true, .bool true,[],rfl,λ_=>rfl, .bool true,znY l _,λ_=>⟨List.Pairwise.nil,λ_ hm=>(nomatch hm)⟩⟩,h2,h3,h4⟩
section
variable{K:Frag}
end
end
theorem ziM:∀{vs:List Value} {ns:List Int},IntsAre vs ns->Vals (ns.map V.int) vs
 |_,_, .nil=> .nil
 |_,_, .cons n t h=> .cons ⟨t,rfl⟩ (ziM h)
def zsH(H:Hp):Prop:=∀b,H b=none\/∃o xs,H b=some (.frz o (.lst xs))
theorem zpk{mg mb:Str->Option Value}{s₁:Shared}{vs:List Value}
 (KX:K.In s₁.heap) (hns:s₁.heap.Ns mainGlobals mg) (hb:s₁.heap.Ns builtinsNs mb) (hbb:∀x:Str,x≠"__name__"->mb x=bootBuiltins x) (hlim:s₁.heap.NoLimit) (hg:s₁.gens= #[])
 (ha:s₁.heap.get? a=some {cls:= .type "list",data:= .seq vs.toArray}) (hi:IntsAre vs ns) (hl:ns.length<=sizeLine) (hr:Room k callerA)
 (F:∀base:Heap,K.In base->base.Ns mainGlobals mg->FnOk P w K mg base CX k fa fd [x] sp) (hbind:∀(s:Shared) (u:Value),BindsTo s fd ⟨[u],[]⟩ [(x,u)])
 (hsp:∀H:Hp,zsH H->SqL K H a (ns.map V.int)->sp [.ref a] H (λv _=>v= .bl true) λ_ _ _=>False)
 (hCX:∀H e s',CX [] H s₁ (λ_ _ _=>False) e s'->False):
 codeAny (model P w) callerA (.call (.ref fa) ⟨[.ref a],[]⟩) (λr s'=>r= .ok (.ret (.bool true))/\OldK s₁.heap s'.heap/\s'.os=s₁.os/\AllBare s'.gens) s₁:=by
 have rv:=ziM hi
 have lenV:=hi.length
 have core:∀H:Hp,zsH H->SqL K H a (ns.map V.int)->HOk P w H s₁.heap->(∀b,H b≠none->b=a)->(H a≠none->K.lookup a=none)->
  codeAny (model P w) callerA (.call (.ref fa) ⟨[.ref a],[]⟩) (λr s'=>r= .ok (.ret (.bool true))/\OldK s₁.heap s'.heap/\s'.os=s₁.os/\AllBare s'.gens) s₁:=by
  intro H hO hS hok hA hK
  have base_of:∀{b:Addr} {o:Obj},s₁.heap.get? b=some o->H b=none->(zi2 s₁.heap H).get? b=some o:=λe n=>zos e n
  have noA:∀{b:Addr} {o:Obj} {es:Array DictEntry} {ep:Nat},s₁.heap.get? b=some o->o.data= .dict es ep->H b=none:=λ{b o es ep} e d=>by
   cases q:H b with
   |none=>rfl
   |some u=>
    have e':b=a:=hA b (by rw[q];simp)
    subst e'
    rw[ha] at e;cases e
    have d':Data.seq vs.toArray _=Data.dict es ep:=d
    cases d'
  have nsK:∀{b:Addr} {m:Str->Option Value},s₁.heap.Ns b m->(zi2 s₁.heap H).Ns b m:=λ{b m} ⟨o,es,ep,e,d,r⟩=>⟨o,es,ep,base_of e (noA e d),d,r⟩
  have hKb:K.In (zi2 s₁.heap H):=λb o e=>base_of (KX b o e) (by
   cases q:H b with
   |none=>rfl
   |some u=>
    have e':b=a:=hA b (by rw[q];simp)
    subst e'
    rw[hK (by rw[q];simp)] at e;cases e)
  have hM:Mod K mg (zi2 s₁.heap H):=⟨hKb,nsK hns,⟨mb,nsK hb,hbb⟩,let⟨mc,h1,h2⟩:=hlim;⟨mc,nsK h1,h2⟩⟩
  have e0:Env0 P w K mg (zi2 s₁.heap H) callerA [] s₁ H:=⟨rfl,hM,λb o e=>zqv e,Nat.le_of_eq (zm0 _ _),trivial,λb hb=>absurd (show b∈([]:List Addr)from hb) `Z2,hok, .of_eq hg⟩
  refine codeAny_mono ((F _ hKb (nsK hns)).run callerA [] s₁ H ⟨[.ref a],[]⟩ [.ref a] [.ref a] _ _ hr e0 (hbind s₁ (.ref a)) (.cons rfl .nil) (hsp H hO hS)) λr s' h=>?_
  cases r with
  |error e=>exact (hCX H e s' h).elim
  |ok fl=>
   cases fl with
   |next=>exact False.elim h
   |brk=>exact False.elim h
   |cont=>exact False.elim h
   |ret u=>
    obtain⟨v,H',os,bare,un,hok',r',q⟩:=h
    have q':v= .bl true:=q
    subst q'
    obtain rfl:u=Value.bool true:=r'
    refine⟨rfl,OldK.of_keep λb o e=>?_,os,bare⟩
    cases q:H b with
    |none=>exact un.keep b o e q (by intro z;exact absurd (show b∈([]:List Addr)from z) `Z2) `Z2
    |some u=>
     rcases hO b with z|⟨ob,xs,z⟩
     ·rw[q] at z;cases z
     ·have z2:=un.frzs b ob _ z
      obtain⟨e1,_⟩:=hok b _ z
      obtain⟨e2,_⟩:=hok' b _ z2
      rw[e] at e1;cases e1
      exact e2
 cases hk:K.lookup a with
 |some o=>
  have e:=KX a o hk
  rw[ha] at e
  cases e
  refine core (λ_=>none) (λ_=> .inl rfl) (.inr ⟨_,vs.toArray,_,hk,rfl,rfl,rfl,by rw[b0,lenV];exact hl,by simpa using rv⟩) (λb u z=>by have z':(none:Option HO)=some u:=z;cases z') (λb z=>absurd rfl z) λz=>absurd rfl z
 |none=>
  refine core (λb=>if b=a then some (.frz {cls:= .type "list",data:= .seq vs.toArray} (.lst (ns.map V.int)))else none) (λb=>?_) (.inl (.inr ⟨{cls:= .type "list",data:= .seq vs.toArray},p0 rfl⟩)) (λb u z=>?_) (λb z=>?_) λ_=>hk
  ·by_cases hb:b=a
   ·exact .inr ⟨_,_,p0 hb⟩
   ·exact .inl (V0 hb)
  ·by_cases hb:b=a
   ·have z':=(p0 hb).symm.trans z
    cases z'
    subst hb
    exact⟨ha,by rw[B0];exact hl,vs,_,rv,ha⟩
   ·have z':=(V0 hb).symm.trans z
    cases z'
  ·by_cases hb:b=a
   ·exact hb
   ·exact absurd (V0 hb) z
theorem walk_of{l:W.OpenLaw}{q:Program}{d:DefRec}{K:Params->W.Frag}{CX:World->CXT}{sp:World->Sp}
 (hn:l.most=some n) (hn2:n<=sizeLine) (hdf:d.params.defaults=[]) (hr:Room k callerA)
 (hY:∀(w:World) (h:Heap),YP w h->(K w.params).In h)
 (F:∀(w:World) (mg:Str->Option Value) (fa:Addr) (h:Heap),(K w.params).In h->h.Ns mainGlobals mg->mg d.name=some (.ref fa)->
   ∃fd:FuncData,(∀(s:Shared) (u:Value),BindsTo s fd ⟨[u],[]⟩ [(x,u)])/\
    ∀base:Heap,(K w.params).In base->base.Ns mainGlobals mg->FnOk l.prog w (K w.params) mg base (CX w) k fa fd [x] (sp w))
 (hsp:∀(w:World) (H:Hp) (a:Addr) (ns:List Int),ns.length<=n->zsH H->SqL (K w.params) H a (ns.map V.int)->sp w [.ref a] H (λv _=>v= .bl true) λ_ _ _=>False)
 (hCX:∀(w:World) (H:Hp) (s:Shared) (e:Value) (s':Shared),CX w [] H s (λ_ _ _=>False) e s'->False):
 W.WalkO q loose XP YP l.row.toRowW d [] (λf vs=>PySem.call f vs):=by
 refine attach_call hn hdf λw s₀ s₁ mg mb fa o pm cd doc a vs ns G Y ho hd hcd hmg hobj hints hlen hg=>?_
 have KX:=hY w _ Y
 obtain⟨fd,hb,hF⟩:=F w mg fa _ KX G.T.g hmg
 exact zpk KX G.T.g G.T.b G.T.builtins G.T.nolimit hg hobj hints (F1 hlen hn2) hr hF hb (λH hO hS=>hsp w H a ns hlen hO hS) λH e s'=>hCX w H s₁ e s'
noncomputable abbrev CX0:CXT:=λ_ _ _ _ _ _=>False
noncomputable abbrev E0:XK:=λ_ _ _=>False
theorem zi:zjR CX0 X E0:=λ_ _ _ _ _ _ _ h=>h.elim
structure Fun(K:W.Frag)(x qual:Str)(st:Stmt)(f:Addr)(fd:FuncData):Prop where
 ex:∃(oc:Value) (od:Option Addr) (kV doc pm:Value) (an:Option Addr) (cdv ct:Value) (osl:Array (Option Value)),
  fd=W.fnOf x qual (zbP st) (zbg st) (zc st) .none kV doc pm an cdv ct/\K.lookup f=some ⟨oc,od, .func fd,osl⟩/\W.codeIn K cdv qual=true
 kp:W.keepIn K (.ref f)=true
section
variable{mg:Str->Option Value}{base:Heap}
theorem Fun.ok{st:Stmt}{ps:List Str}(F:Fun K x qual st f fd)(S:FnScope N ps (zc st))(len:∀vs H Q E,sp vs H Q E->vs.length=ps.length)
 (hbody:∀(cdv:Value) (A:Around) (outer:List Env) (s:Shared) (H:Hp) (vs:List V) (Q:VK) (E:XK),Room k (A.deeper (envOfC qual (zc st) s.heap.objs.size f cdv))->sp vs H Q E->
   ∃t,PSs (zlV CX0 P w K mg base N qual (zc st) f cdv A outer s H E).nox (zbg st) t/\t {nx:=λ_ H'=>Q .non H',rt:=Q} (zfP N vs) H):FnOk P w K mg base CX0 (k+1) f fd ps sp:=by
 obtain⟨oc,od,kV,doc,pm,an,cdv,ct,osl,rfl,lk,hcd⟩:=F.ex
 refine ztV lk hcd S len λA outer s H vs Q E hr hsp=>?_
 obtain⟨t,h,q⟩:=hbody cdv A outer s H vs Q E hr hsp
 exact⟨t,h.nox,q⟩
theorem Fun.binds{st:Stmt}{ps:List Str}(F:Fun K x qual st f fd)
 (h:∀(kV doc pm:Value) (an:Option Addr) (cdv ct:Value) (us:List Value),us.length=ps.length->bindArgs (W.fnOf x qual (zbP st) (zbg st) (zc st) .none kV doc pm an cdv ct) ⟨us,[]⟩=pure (ps.zip us)):Binds K fd ps []:=by
 obtain⟨oc,od,kV,doc,pm,an,cdv,ct,osl,rfl,lk,hcd⟩:=F.ex
 exact .all (h kV doc pm an cdv ct)
theorem zot{st:Stmt}{an:Option Addr}{kV:Value}(l:K.lookup f=some ⟨oc,od, .func (W.fnOf x qual (zbP st) (zbg st) (zc st) .none kV doc pm an cdv ct),osl⟩)
 (c:W.codeIn K cdv qual=true) (k:W.keepIn K (.ref f)=true):Fun K x qual st f (W.fnOf x qual (zbP st) (zbg st) (zc st) .none kV doc pm an cdv ct):=⟨⟨oc,od,kV,doc,pm,an,cdv,ct,osl,rfl,l,c⟩,k⟩
end
theorem zE(h:n<=1000):n<sizeLine:=Nat.lt_of_le_of_lt h ⋯
theorem zak{c A B:Prop}[Decidable c](h1:c->A)(h2:¬c->B):if c then A else B:=by
 by_cases h:c
 ·rw[p0 h]
  exact h1 h
 ·rw[V0 h]
  exact h2 h
def Same(H H':Hp):Prop:=∀b o,H b=some o->H' b=some o
theorem Same.refl(H:Hp):Same H H:=λ_ _ h=>h
theorem Same.trans(a:Same H H1)(b:Same H1 H2):Same H H2:=λc o h=>b c o (a c o h)
theorem Same.free(e:Same H H')(h:H' l=Option.none):H l=Option.none:=by
 cases q:H l with
 |none=>rfl
 |some o=>
  rw[e l o q] at h
  cases h
theorem Same.seq(e:Same H H')(h:SqL K H a xs):SqL K H' a xs:=by
 rcases h with(h|⟨o,h⟩)|h
 ·exact .inl (.inl (e _ _ h))
 ·exact .inl (.inr ⟨o,e _ _ h⟩)
 ·exact .inr h
noncomputable def zx(X:Cx)(N':List Str)(scope:Scope)(cl:List (Str×Addr))(C:Addr)(s₀:Shared)(H₀:Hp)(fp:List Addr):Cx:=
 {prog:=X.prog,w:=X.w,K:=X.K,mg:=X.mg,base:=X.base,A:=X.A,N:=N',s₀:=s₀,H₀:=H₀,env:=compEnvC scope cl C X.env,outer:=X.stack,stack:=X.stack,ex:=fp,fn:=λ_=>false,
  calm:=X.calm,pn:=[],xe:=λ_ _=>False}
structure CompOk(N:List Str)(osc:Scope)(N':List Str)(src:List (Option Nat))(scope:Scope):Prop where
 kind:scope.kind= .function
 nocell:∀y∈scope.names,y.2≠ .cell
 loc:∀y∈scope.names,y.2= .local->scope.names.lookup y.1=some .local
 frees:∀y∈scope.names,y.2= .free->osc.names.lookup y.1=some .cell\/osc.names.lookup y.1=some .free
 nd:N'.Nodup
 len:src.length=N'.length
 src:∀q∈src.zip N',∀j∈q.1.toList,N[j]?=some q.2/\scope.names.lookup q.2=some .free
theorem zfg{env:Env}:∀(l:List (Str×NameKind)) (acc:List (Str×Addr)),(∀x c,acc.lookup x=some c->env.cells.lookup x=some c)->(∀y∈l,y.2= .free->∃c,env.cells.lookup y.1=some c)->
 ∃cl,(forIn l acc λ(x:Str×NameKind) (r:List (Str×Addr))=>(if(x.2==NameKind.free)=true then(cellOf env x.1>>=λa=>pure (ForInStep.yield ((x.1,a)::r)))else pure (ForInStep.yield r):Sem (ForInStep (List (Str×Addr)))))=pure cl/\
  (∀x c,cl.lookup x=some c->env.cells.lookup x=some c)/\(∀y∈l,y.2= .free->∃c,cl.lookup y.1=some c)/\(∀x c,acc.lookup x=some c->∃d,cl.lookup x=some d)
 |[],acc,h,_=>⟨acc,rfl,h,λ_ z=>(nomatch z),λx c e=>⟨c,e⟩⟩
 |(n,k)::l,acc,h,hf=>by
  by_cases hk:k= .free
  ·subst hk
   obtain⟨c,hc⟩:=hf (n, .free) Q0 rfl
   have hacc:∀x d,((n,c)::acc).lookup x=some d->env.cells.lookup x=some d:=λx d e=>by
    rw[F2] at e
    cases hx:x==n with
    |true=>
     rw[hx] at e
     have e1:x=n:=by simpa using hx
     have e2:c=d:=by simpa using e
     rw[e1,←e2];exact hc
    |false=>
     rw[hx] at e
     exact h x d e
   obtain⟨cl,e1,e2,e3,e4⟩:=zfg l ((n,c)::acc) hacc λy hy=>hf y (N0 _ hy)
   refine⟨cl,?_,e2,λy hy hyf=>?_,λx d e=>?_⟩
   ·rw[List.forIn_cons]
    have:cellOf env n=pure c:=by unfold cellOf;rw[hc]
    simp only[beq_self_eq_true,if_true,this,pure_bind]
    exact e1
   ·rcases I0.mp hy with rfl|hy
    ·exact e4 n c `Z2
    ·exact e3 y hy hyf
   ·by_cases hx:x=n
    ·subst hx;exact e4 x c `Z2
    ·have hb:(x==n)=false:=by simpa using hx
     exact e4 x d (by rw[F2,hb];exact e)
  ·obtain ⟨cl,e1,e2,e3,e4⟩:=zfg l acc h λy hy=>hf y (N0 _ hy)
   refine⟨cl,?_,e2,λy hy hyf=>?_,e4⟩
   ·rw[List.forIn_cons]
    have hb:(k==NameKind.free)=false:=by simpa using hk
    simp only[hb,G2,if_false,pure_bind]
    exact e1
   ·rcases I0.mp hy with rfl|hy
    ·exact absurd hyf hk
    ·exact e3 y hy hyf
theorem zdv(hf:∀y∈scope.names,y.2= .free->∃c,env.cells.lookup y.1=some c):
 ∃cl,closureFor scope env=pure cl/\(∀x c,cl.lookup x=some c->env.cells.lookup x=some c)/\∀y∈scope.names,y.2= .free->∃c,cl.lookup y.1=some c:=by
 obtain⟨cl,e1,e2,e3,_⟩:=zfg (env:=env) scope.names [] (λ_ _ z=>by simp at z) hf
 refine⟨cl,?_,e2,e3⟩
 unfold closureFor
 refine Eq.trans ?_ (congrArg (λt=>t>>=λc=>(pure c:Sem (List (Str×Addr)))) e1)
 first
  |rfl
  |(congr 1)
theorem zi4:∀{x:Str},(relabel scope env).names.lookup x=some .cell\/(relabel scope env).names.lookup x=some .free->(∀y∈scope.names,y.2≠ .cell)->(x,NameKind.free)∈scope.names:=by
 intro x h hc
 have key:∀(l:List (Str×NameKind)),(∀y∈l,y.2≠ .cell)->((l.map λ(n,k)=>if (k==NameKind.free&&env.scope.kind== .function&&env.kindOf n==some .cell)then(n,NameKind.cell)else(n,k)).lookup x=some .cell\/
  (l.map λ(n,k)=>if (k==NameKind.free&&env.scope.kind== .function&&env.kindOf n==some .cell)then(n,NameKind.cell)else(n,k)).lookup x=some .free)->(x,NameKind.free)∈l:=by
  intro l
  induction l with
  |nil=>intro _ h;simp at h
  |cons y l ih=>
   obtain⟨n,k⟩:=y
   intro hc h
   have hc':∀y∈l,y.2≠ .cell:=λy hy=>hc y (N0 _ hy)
   have hk:k≠ .cell:=hc (n,k) Q0
   rw[J1] at h
   by_cases hx:x=n
   ·subst hx
    by_cases hf:k= .free
    ·subst hf;exact Q0
    ·exfalso
     have hb:(k==NameKind.free)=false:=by simpa using hf
     simp only[hb,Bool.false_and,G2,if_false,F2,beq_self_eq_true] at h
     rcases h with h|h
     ·exact hk (A1 h)
     ·exact hf (A1 h)
   ·refine N0 _ (ih hc' ?_)
    have hb:(x==n)=false:=by simpa using hx
    by_cases hq:(k==NameKind.free&&env.scope.kind== .function&&env.kindOf n==some .cell)=true
    ·simp only[hq,if_true,F2,hb] at h
     exact h
    ·simp only[hq,G2,if_false,F2,hb] at h
     exact h
 exact key _ hc h
theorem zfR(h:scope.names.lookup x=some .free):(relabel scope env).names.lookup x=some .cell\/(relabel scope env).names.lookup x=some .free:=by
 have key:∀(l:List (Str×NameKind)),l.lookup x=some .free->((l.map λ(n,k)=>if (k==NameKind.free&&env.scope.kind== .function&&env.kindOf n==some .cell)then(n,NameKind.cell)else(n,k)).lookup x=some .cell\/
  (l.map λ(n,k)=>if (k==NameKind.free&&env.scope.kind== .function&&env.kindOf n==some .cell)then(n,NameKind.cell)else(n,k)).lookup x=some .free):=by
  intro l
  induction l with
  |nil=>intro h;simp at h
  |cons y l ih=>
   obtain⟨n,k⟩:=y
   intro h
   rw[J1]
   rw[F2] at h
   cases hx:x==n with
   |true=>
    rw[hx] at h
    have hk:k= .free:=A1 h
    subst hk
    by_cases hq:(NameKind.free==NameKind.free&&env.scope.kind== .function&&env.kindOf n==some .cell)=true
    ·simp only[hq,if_true,F2,hx];exact .inl trivial
    ·simp only[hq,G2,if_false,F2,hx];exact .inr trivial
   |false=>
    rw[hx] at h
    by_cases hq:(k==NameKind.free&&env.scope.kind== .function&&env.kindOf n==some .cell)=true
    ·simp only[hq,if_true,F2,hx];exact ih h
    ·simp only[hq,G2,if_false,F2,hx];exact ih h
 exact key _ h
noncomputable def zdy(src:List (Option Nat))(σ:St):St:=src.map λo=>o.bind λj=>(σ[j]?).join
section
variable{src:List (Option Nat)}{cl:List (Str×Addr)}
theorem zfc{tk:Nat}(I:Inv X pins σ H s)(hf:∀b∈fp,zc4 X pins H b)(hlt:∀b∈fp,b<s.heap.objs.size)(ok:CompOk X.N osc N' src scope)(hsc:X.env.scope=osc)
 (c1:∀x c,cl.lookup x=some c->X.env.cells.lookup x=some c) (c2:∀y∈scope.names,y.2= .free->∃c,cl.lookup y.1=some c)
 (hn:h₁.Ns s.heap.objs.size λ_=>none) (hk:∀b o,s.heap.get? b=some o->h₁.get? b=some o):
 Inv (zx X N' scope cl s.heap.objs.size s H fp) [] (zdy src σ) H {s with heap:=h₁,toks:=tk}:=by
 have hkind:(relabel scope X.env).kind= .function:=ok.kind
 refine⟨⟨I.ok.mod,hkind,I.ok.glob,I.ok.blt,K0 _,λx y c h1 h2=>I.ok.inj x y c (c1 x c h1) (c1 y c h2),λx hx=>?_,λx c z _=>(by cases z),I.ok.hd,I.ok.frames, .inl rfl,λb hb=>?_,I.bs,F1 I.ok.bsz I.sz,λb o e hb=>?_,λb hb z=>?_,I.stack,I.stkFree⟩,
  rfl,I.bare,Un.kept hk,⟨_,hn,λi x v h1 h2 h3=>?_⟩,λx c e=>?_,I.hok.fresh (K0 _),λx c e=>I.freeC x c (c1 x c e),λp hp=>absurd (show p∈([]:List (Addr×Obj))from hp) `Z2,I.hok.kept hk,?_⟩
 ·exact c2 _ (zi4 (env:=X.env) (scope:=scope) (x:=x) hx ok.nocell) rfl
 ·obtain ⟨f0,f1,f2,f3,f4,f5⟩:=hf b hb
  exact⟨λz=>absurd (hlt b hb) (by rw[z];exact Z1 _),λx c e=>f4 x c (c1 x c e)⟩
 ·obtain ⟨f0,f1,f2,f3,f4,f5⟩:=hf b hb
  rcases f3 with z|z
  ·exact I.ok.noex b o e z
  ·exact absurd (C1 (P0 e) (F1 I.ok.bsz z)) (Z1 _)
 ·obtain ⟨f0,f1,f2,f3,f4,f5⟩:=hf b hb
  rcases I0.mp (I.stkSub b z)with q|q
  ·exact f1 q
  ·exact f2 q
 ·
  have hi:∃j,src[i]?=some (some j)/\σ[j]?=some (some v):=by
   unfold zdy at h2
   rw[W0] at h2
   cases e:src[i]? with
   |none=>rw[e] at h2;cases h2
   |some o=>
    rw[e] at h2
    cases o with
    |none=>cases h2
    |some j=>
     refine⟨j,rfl,?_⟩
     have h2':(σ[j]?).join=some v:=A1 h2
     cases e2:σ[j]? with
     |none=>rw[e2] at h2';cases h2'
     |some w=>rw[e2] at h2';exact congrArg some h2'
  obtain⟨j,e1,e2⟩:=hi
  have hz:(some j,x)∈src.zip N':=by
   refine List.mem_iff_getElem?.mpr ⟨i,?_⟩
   rw[List.getElem?_zip_eq_some]
   exact⟨e1,h1⟩
  obtain⟨q1,q2⟩:=ok.src _ hz j `Z2
  have hfr:=PySem.mem_of_lookup q2
  have hk0:=ok.frees _ hfr rfl
  rw[←hsc] at hk0
  obtain⟨m,hns,hl⟩:=I.loc
  obtain⟨u,r,l⟩:=hl j x v q1 e2 (hk0.elim (λz=> .inr (.inl z)) λz=> .inr (.inr z))
  refine⟨u,r,?_⟩
  rcases l with⟨l1,_⟩|⟨_,c,l2,l3⟩
  ·exfalso
   have l1':X.env.scope.names.lookup x=some .local:=l1
   rcases hk0 with z|z
   ·rw[l1'] at z;cases z
   ·rw[l1'] at z;cases z
  ·obtain ⟨d,hd⟩:=c2 _ hfr rfl
   have:d=c:=by
    have:=(c1 _ _ hd).symm.trans l2
    exact A1 this
   subst this
   obtain⟨o,ho,hod⟩:=l3
   exact .inr ⟨zfR q2,d,hd,o,hk _ _ ho,hod⟩
 ·obtain ⟨v,o,ho,hod⟩:=I.cell x c (c1 x c e)
  exact⟨v,o,hk _ _ ho,hod⟩
 ·show (zdy src σ).length=N'.length
  unfold zdy
  rw[B0]
  exact ok.len
theorem ze8(I:Inv X pins σ H s)(hf:∀b∈fp,zc4 X pins H b)(hC:s.heap.objs.size<=C)(J:Inv (zx X N' scope cl C s H fp) [] σ' H' s')(hs:Heap.SameBut C s'.heap h'):
 Inv X pins σ H' {s' with heap:=h'}:=by
 have nC:∀b o,s.heap.get? b=some o->b≠C:=λb o e z=>absurd (C1 (P0 e) (by rw[z];exact hC)) (Z1 _)
 have B:Un (frs X.stack) fp H H' s.heap s'.heap:=J.base
 refine I.call' (ch:=fp) J.os ⟨λb o e n hb hx=>(hs.2 b (nC b o e)).trans (B.keep b o e n hb hx),λb o e n hb hx=>?_,B.free,λb o e hx=>?_,B.tups,B.frzs,B.tbls⟩ (λb ob e=>?_) J.bare λb hb=>?_
 ·obtain ⟨sl,e1⟩:=B.slot b o e n hb hx
  exact⟨sl,(hs.2 b (nC b o e)).trans e1⟩
 ·obtain ⟨o',e1⟩:=B.there b o e hx
  exact⟨o',(hs.2 b (nC b o e)).trans e1⟩
 ·refine (J.hok b ob e).stay (λc w' hc q=>(hs.2 c ?_).trans q) (λ_ q=>q) λ_ _ q=>q
  have hfree:H' C=none:=J.free
  rintro rfl
  rcases hc with rfl|hc
  ·rw[hfree] at e;cases e
  ·rw[hfree] at hc;cases hc
 ·obtain ⟨f0,f1,f2,f3,f4,f5⟩:=hf b hb
  exact⟨f3,f1,f4,f5⟩
end
noncomputable def zg0(ifs:List Expr)(env:Env):Sem Bool:=forIn ifs true λc r=>if r=true then do let ok ←isTrue c env (eval c env);pure (ForInStep.yield ok)else pure (ForInStep.yield r)
def PIf(X:Cx)(ifs:List Expr)(t:TT):Prop:=
 ∀(pins:List (Addr×Obj)) (s:Shared) (σ:St) (H:Hp) (Q:Bool->Hp->Prop),Inv X pins σ H s->t σ H Q->wpAny (model X.prog X.w) X.A (zg0 ifs X.env) (TP X pins σ Q) X.xe s
noncomputable def znO:TT:=λ_ H Q=>Q true H
theorem zrf:PIf X [] znO:=λpins s σ H Q I h=>wpAny_tests_nil ⟨H,I,h⟩
theorem zqM{c:Expr}{t:TT}(h:PT X c t):PIf X [c] t:=λpins s σ H Q I hq=>wpAny_tests_one (h pins s σ H Q I hq)
theorem zdt{target:Expr}{it:Value}(I:Nat->Shared->Prop)
 (turn:∀n s,I n s->wpAny (model prog w) A (pyNext it) (λr s1=>match r with
   |none=>R (.ok .next) s1
   |some v=>wpAny (model prog w) A (letOwnedTupleGo target it v) (λ_ s1'=>wpAny (model prog w) A (assign target env v) (λ_ s2=>wpAny (model prog w) A (zg0 ifs env) (λok s3=>
     if ok=true then wpAny (model prog w) A (eval elt env) (λx s4=>wpAny (model prog w) A (call (.builtin "list.append") [acc,x]) (λ_ s5=>∃m,m<n/\I m s5) (λ_ _=>False) s4) (λ_ _=>False) s3
     else∃m,m<n/\I m s3) (λ_ _=>False) s2) (λ_ _=>False) s1') (λ_ _=>False) s1) (λ_ _=>False) s)
 (n:Nat) (h:I n s):codeAny (model prog w) A (.compLoop (.ListComp elt [⟨target,iter,ifs,0⟩] scope pos) 0 it acc env) R s:=by
 have no:∀{E:Value->Shared->Prop} (e:Value) (s:Shared),(λ(_:Value) (_:Shared)=>False) e s->E e s:=λ_ _ z=>False.elim z
 refine codeAny_loop rfl I (λn s hI=>?_) n h
 show wpAny _ A ((compTurn (.ListComp elt [⟨target,iter,ifs,0⟩] scope pos) 0 it acc env).onRaise (λx=>do noteFrame x env;theTreesLotGoes x)) _ _ s
 refine wpAny_noted ?_
 rw[compTurn_list]
 refine A0 (wpAny_standAt (A0 (Y1 (turn n s hI) (λr s₁ h₁=>?_) no)))
 cases r with
 |none=>exact F0 h₁
 |some v=>
  refine A0 (Y1 h₁ (λ_ s1' h1'=>?_) no)
  refine A0 (Y1 h1' (λ_ s₂ h₂=>A0 (Y1 h₂ (λok s₃ h₃=>?_) no)) no)
  cases ok with
  |false=>exact F0 ⟨rfl,h₃⟩
  |true=>
   exact A0 (A0 (Y1 h₃ (λx s₄ h₄=>A0 (Y1 h₄ (λ_ s₅ h₅=>F0 (F0 ⟨rfl,h₅⟩)) no)) no))
def zdx(g:TG)(tc:TT)(te:TE)(src:List (Option Nat))(σ:St)(Q:VK)(J:It)(H1:Hp):Prop:=∀l,H1 l=none->
 ∃W:Nat->Nat->List V->St->Hp->Prop,(∃m,W 0 m [] (zdy src σ) (upd H1 l (.lst [])))/\∀i m ys σ' H',W i m ys σ' H'->H' l=some (.lst ys)->
  (J.stop i H'/\Q (.ref l) H')\/(J.go i H'/\∃N:List V->St->Hp->Prop,(∀zs σ2 H2,N zs σ2 H2->∃m',m'<m/\W (i+1) m' zs σ2 H2)/\∀x H2,J.yld i H' x H2->g x σ' H2 λσ2 H3=>tc σ2 H3 λb H4=>
    if b=true then te σ2 H4 λy H5=>H5 l=some (.lst ys)/\ys.length<sizeLine/\N (ys ++ [y]) σ2 (upd H5 l (.lst (ys ++ [y])))
    else H4 l=some (.lst ys)/\N ys σ2 H4)
noncomputable def ziA(wi:TI)(g:TG)(tc:TT)(te:TE)(src:List (Option Nat)):TE:=λσ H Q=>wi σ H (zdx g tc te src σ Q)
def zoy(g:TG)(tb:TS)(D:Ends)(σ:St)(J:It)(H1:Hp):Prop:=∃W:Nat->Nat->St->Hp->Prop,(∃m,W 0 m σ H1)/\∀i m σ H,W i m σ H->
 (J.stop i H/\D.nx σ H)\/(J.go i H/\∃N:St->Hp->Prop,(∀σ' H',N σ' H'->∃m',m'<m/\W (i+1) m' σ' H')/\∀x H',J.yld i H x H'->g x σ H' λσ2 H2=>tb {D with nx:=N,ct:=N,bk:=D.nx} σ2 H2)
noncomputable def zrO(wi:TI)(g:TG)(tb:TS):TS:=λD σ H=>wi σ H (zoy g tb D σ)
theorem zq3(hp:PassesOwn (model X.prog X.w) X.A X.env X.xe)(hc:X.calm=true)(hi:PI X tg iter wi)(hg:PG X tg g)(hb:PSs X body tb)
 (hs:autoParam (∀x,foldedSetIterable iter X.env x=pure x) u5):PS X (.For tg iter body [] pos) (zrO wi g tb):=zsZ hp hc hi hg hb hs
section
variable{src:List (Option Nat)}
theorem zrk(ok:CompOk X.N osc N' src scope)(hsc:X.env.scope=osc)(hc:X.calm=true)(hi:PI X tg iter wi)
 (hg:∀cl C s₀ H₀ fp,PG (zx X N' scope cl C s₀ H₀ fp) tg g) (ht:∀cl C s₀ H₀ fp,PIf (zx X N' scope cl C s₀ H₀ fp) ifs tc) (he:∀cl C s₀ H₀ fp,PE (zx X N' scope cl C s₀ H₀ fp) elt te)
 (hs:autoParam (∀x,foldedSetIterable iter X.env x=pure x) u5):PE X (.ListComp elt [⟨tg,iter,ifs,0⟩] scope pos) (ziA wi g tc te src):=by
 intro pins s σ H Q I h
 obtain⟨cl,hcl,c1,c2⟩:=zdv (scope:=scope) (env:=X.env) λy hy hyf=>I.ok.has y.1 (by
  have z:=ok.frees y hy hyf
  rw[←hsc] at z
  exact z)
 rw[eval_ListComp]
 refine wpAny_comprehension_free (use:=none) rfl hs hcl ok.kind ok.loc (thn (hi pins s σ H _ I h) λv s1 h1=>thn h1 λitv s2 h2=>?_)
 obtain⟨it,fp,tn,J,H2,e,I2,T,st2,f2,q2⟩:=h2
 subst e
 have hlt2:∀b∈fp,b<s2.heap.objs.size:=λb hb=>by
  obtain⟨o,e,_⟩:=T.obj _ _ st2 b hb
  exact P0 e
 refine wpAny_newObj_type ?_
 have hl:H2 s2.heap.objs.size=none:=I2.hok.fresh (K0 _)
 have I3:Inv X pins σ (upd H2 s2.heap.objs.size (.lst [])) {s2 with heap:=s2.heap.push {cls:= .type "list",dict:=none,data:= .seq ([]:List Value).toArray}}:=
  I2.laid (t':=s2.toks) (λb u e=>C0 _ e) (K0 _) ⟨X1 _,[],0, .nil,M0 _ rfl⟩
 obtain⟨W,⟨m0,w0⟩,turn⟩:=q2 _ hl
 generalize hl2:s2.heap.objs.size=l at *
 generalize hs3:({s2 with heap:=s2.heap.push {cls:= .type "list",dict:=none,data:= .seq ([]:List Value).toArray}}:Shared)=s3 at *
 have f3:∀b∈fp,zc4 X pins (upd H2 l (.lst [])) b:=λb hb=>⟨by rw[zn (R1 (hlt2 b hb))];exact(f2 b hb).1,(f2 b hb).2⟩
 have k3:∀b o,s2.heap.get? b=some o->s3.heap.get? b=some o:=λb o e=>by rw[←hs3];exact C0 _ e
 have hlt3:∀b∈fp,b<s3.heap.objs.size:=λb hb=>by
  obtain⟨o,e,_⟩:=T.obj _ _ st2 b hb
  exact P0 (k3 b o e)
 refine wpAny_newFunctionEnv ok.nocell (by intro y hy;simp at hy) (λh₁ hns₁ hsb₁=>?_) ok.kind
 have k4:∀b o,s3.heap.get? b=some o->h₁.get? b=some o:=λb o e=>(hsb₁.2 b (R1 (P0 e))).trans (C0 _ e)
 have J0:=zfc (tk:=s3.toks+([]:List (Str×Value)).length) I3 f3 hlt3 ok hsc c1 c2 hns₁ k4
 have st4:tn 0 h₁:=T.keep _ _ _ st2 λb hb o e=>k4 b o (k3 b o e)
 generalize hC:s3.heap.objs.size=C at *
 have stat:∀{H':Hp},(∀b∈fp,H' b=none)->∀b∈fp,zc4 `j3 [] H' b:=λ{H'} hn b hb=>
  ⟨hn b hb,(J0.ok.exf b hb).1,J0.ok.exfs b hb, .inl hb,(J0.ok.exf b hb).2,λp hp=>absurd (show p∈([]:List (Addr×Obj))from hp) `Z2⟩
 have loop:codeAny (model X.prog X.w) X.A (.compLoop (.ListComp elt [⟨tg,iter,ifs,0⟩] scope pos) 0 (.ref it) (.ref l) (compEnvC scope cl C X.env))
  (compPost (model X.prog X.w) X.A X.xe none (EP X pins σ Q) (.ref l) C) {s3 with heap:=h₁,toks:=s3.toks+([]:List (Str×Value)).length}:=by
  refine zdt (λn s'=>∃i ys σ' H',Inv `j3 [] σ' H' s'/\tn i s'.heap/\(∀b∈fp,H' b=none)/\H' l=some (.lst ys)/\W i n ys σ' H') ?_ m0
   ⟨0,[],_,_,J0,st4,λb hb=>(f3 b hb).1,upd_same,w0⟩
  rintro n s5 ⟨i,ys,σ5,H5,I5,st5,fr5,hl5,w5⟩
  rcases turn i n ys σ5 H5 w5 hl5 with⟨stop,qn⟩|⟨go,N,hN,step⟩
  ·refine thn (T.done `j3 rfl rfl rfl hc i [] s5 σ5 H5 (λ_ _=>False) I5 (stat fr5) st5 stop) λr s6 ⟨hr,I6⟩=>?_
   subst hr
   obtain⟨m,hn,_⟩:=I6.loc
   exact⟨m,hn,λh' hsb=>⟨.ref l,H5,ze8 I3 f3 (by rw[←hC];exact K0 _) I6 hsb,rfl,qn⟩⟩
  ·refine thn (T.item `j3 rfl rfl rfl hc i [] s5 σ5 H5 (λ_ _=>False) I5 (stat fr5) st5 go) λr s6 ⟨u,hr,h6⟩=>?_
   subst hr
   refine thn h6 λ_ s7 zq=>?_
   obtain⟨x,H7,I7,r7,y7,st7,fr7⟩:=zq
   have I7':=I7.pinned (stat fr7) (T.obj _ _ st7)
   refine thn (hg cl C s3 _ fp _ s7 σ5 H7 x u _ I7' r7 (step x H7 y7)) λ_ s8 zq=>?_
   obtain⟨σ8,H8,I8,q8⟩:=zq
   refine thn (ht cl C s3 _ fp _ s8 σ8 H8 _ I8 q8) λb s9 zq=>?_
   obtain⟨H9,I9,q9⟩:=zq
   have back:∀{s':Shared} {H':Hp},Inv `j3 ([]++zb7 fp s7.heap) σ8 H' s'->tn (i+1) s'.heap/\∀b∈fp,H' b=none:=λ{s' H'} I'=>by
    refine⟨T.keep _ _ _ st7 λb hb o e=>(I'.pin (b,o) (S0 _ (S0 _ (z6 hb e)))).1,λb hb=>?_⟩
    obtain⟨o,e,d⟩:=T.obj _ _ st7 b hb
    exact(I'.pin (b,o) (S0 _ (S0 _ (z6 hb e)))).2.1
   cases b with
   |false=>
    obtain⟨hl9,n9⟩:=q9
    obtain⟨m',hm,w9⟩:=hN _ _ _ n9
    obtain⟨t9,fr9⟩:=back I9
    exact⟨m',hm,i+1,ys,σ8,H9,I9.unpinned,t9,fr9,hl9,w9⟩
   |true=>
    refine thn (he cl C s3 _ fp _ s9 σ8 H9 _ I9 q9) λxv s10 zq=>?_
    obtain⟨y,H10,I10,r10,hl10,hz,n10⟩:=zq
    obtain⟨m',hm,w10⟩:=hN _ _ _ n10
    refine thn (zau (X:=zx X N' scope cl C s3 (upd H2 l (.lst [])) fp) _ s10 σ8 H10 (.ref l) [y] (.ref l) [xv] (λv H'=>H'=upd H10 l (.lst (ys ++ [y]))) I10 rfl (.cons r10 .nil) ⟨l,ys,y,rfl,rfl,hl10,hz,rfl⟩) λ_ s11 ⟨_,H11,I11,_,e11⟩=>?_
    subst e11
    obtain⟨t11,fr11⟩:=back I11
    exact⟨m',hm,i+1,ys ++ [y],σ8,_,I11.unpinned,t11,fr11,upd_same,w10⟩
 exact codeAny_compStart_list loop (T.self _ 0 _ _ _ st4 loop)
end
section
variable[DecidableEq κ]
noncomputable def zfL(kvs:List (κ×V))(k:κ):Option V:=(kvs.find? λkv=>decide (kv.1=k)).map (·.2)
noncomputable def zff(kvs:List (κ×V))(k:κ)(v:V):List (κ×V):=
 if(kvs.any λkv=>decide (kv.1=k))=true then kvs.map (λkv=>if kv.1=k then(kv.1,v)else kv)else kvs ++ [(k,v)]
theorem zkf{p:κ×V}{r:List (κ×V)}{k:κ}(e:p.1=k):zfL (p::r) k=some p.2:=by simp[zfL,List.find?_cons,e]
theorem zki{p:κ×V}{r:List (κ×V)}{k:κ}(e:¬p.1=k):zfL (p::r) k=zfL r k:=by simp[zfL,List.find?_cons,e]
theorem zkv(k:κ):∀kvs:List (κ×V),(kvs.any λkv=>decide (kv.1=k))=(zfL kvs k).isSome
 |[]=>rfl
 |p::r=>by
  rw[List.any_cons]
  by_cases e:p.1=k
  ·simp only[zkf e,D0 e,Bool.true_or,Option.isSome_some]
  ·rw[zki e,G0 e,Bool.false_or];exact zkv k r
theorem zgx(kvs:List (κ×V))(k:κ)(v:V):(zff kvs k v).length<=kvs.length+1:=by
 unfold zff
 split
 ·rw[B0];lia
 ·rw[O0,Z0,List.length_nil];lia
theorem RelO.isSome_eq{o:Option V}{u:Option Value}(r:RelO o u):o.isSome=u.isSome:=by
 cases o with
 |none=>cases u with
  |none=>rfl
  |some _=>exact (show False from r).elim
 |some _=>cases u with
  |none=>exact (show False from r).elim
  |some _=>rfl
theorem KV.any{kvs:List (κ×V)}{vs:List (κ×Value)}(r:KV kvs vs)(k:κ):(kvs.any λkv=>decide (kv.1=k))=vs.any λkv=>decide (kv.1=k):=by
 unfold KV at r
 induction r with
 |nil=>rfl
 |cons h t ih=>rw[List.any_cons,List.any_cons,ih,h.1]
theorem KV.repl{kvs:List (κ×V)}{vs:List (κ×Value)}(r:KV kvs vs)(k:κ){y:V}(ry:RelV y u):
 KV (kvs.map λkv=>if kv.1=k then(kv.1,y)else kv) (vs.map λkv=>if kv.1=k then(kv.1,u)else kv):=by
 unfold KV at r⊢
 induction r with
 |nil=>exact .nil
 | @cons p q ps qs h t ih=>
   rw[J1,J1]
   refine .cons ?_ ih
   obtain⟨h1,h2⟩:=h
   by_cases e:p.1=k
   ·rw[p0 e,p0 (h1.symm.trans e)];exact⟨h1,ry⟩
   ·rw[V0 e,V0 (λz=>e (h1.trans z))];exact⟨h1,h2⟩
theorem KV.put{kvs:List (κ×V)}{vs:List (κ×Value)}(r:KV kvs vs)(k:κ){y:V}(ry:RelV y u):KV (zff kvs k y) (stored vs k u):=by
 unfold zff stored
 rw[r.any k]
 by_cases e:(vs.any λkv=>decide (kv.1=k))=true
 ·rw[p0 e,p0 e];exact r.repl k ry
 ·rw[V0 e,V0 e];exact Paired.snoc r ⟨rfl,ry⟩
theorem KV.length{kvs:List (κ×V)}{vs:List (κ×Value)}(r:KV kvs vs):kvs.length=vs.length:=Paired.length r
end
theorem zrx{k:Key}(r:RelV (kV k) u):(zaU P w).is k u=true:=by
 cases k with
 |inl i=>obtain ⟨t,e⟩:=(show∃t,u=Value.int i t from r);subst e;exact zkT P w i t
 |inr x=>obtain ⟨t,e⟩:=(show∃t,u=Value.str x t from r);subst e;exact zkR P w x t
theorem ziH{P:Program}{w:World}:∀{ks:List Key} {us:List Value},Vals (ks.map kV) us->ItemsAre (zaU P w) ks us
 |[],_,r=>by rw[List.map_nil] at r;cases r;exact .nil
 |k::ks,_,r=>by
  rw[J1] at r
  cases r with
  |cons h t=>exact .cons (zrx h) (ziH t)
abbrev KT(H:Hp):List (List Key×V)->List (List Key×Addr×Value)->Prop:=Paired λp q=>p.1=q.1/\H q.2.1=some (.tup (p.1.map kV))/\RelV p.2 q.2.2
theorem KT.val{xs:List (List Key×Addr×Value)}(r:KT H kvs xs)(k:List Key):RelO (zfL kvs k) ((atKey xs k).map (·.2)):=by
 induction r with
 |nil=>exact True.intro
 | @cons p q ps qs h t ih=>
   obtain⟨h1,_,h2⟩:=h
   by_cases e:p.1=k
   ·have e':q.1=k:=h1.symm.trans e
    have b:atKey (q::qs) k=some q.2:=by simp[atKey,List.find?_cons,e']
    rw[zkf e,b];exact h2
   ·have e':¬q.1=k:=λz=>e (h1.trans z)
    have b:atKey (q::qs) k=atKey qs k:=by simp[atKey,List.find?_cons,e']
    rw[zki e,b];exact ih
theorem KT.repl{xs:List (List Key×Addr×Value)}(r:KT H kvs xs)(k:List Key){y:V}(ry:RelV y u):
 KT H (kvs.map λkv=>if kv.1=k then(kv.1,y)else kv) (xs.map (putAt k u)):=by
 induction r with
 |nil=>exact .nil
 | @cons p q ps qs h t ih=>
   rw[J1,J1]
   refine .cons ?_ ih
   obtain⟨h1,h2,h3⟩:=h
   unfold putAt
   by_cases e:p.1=k
   ·rw[p0 e,p0 (h1.symm.trans e)];exact⟨h1,h2,ry⟩
   ·rw[V0 e,V0 (λz=>e (h1.trans z))];exact⟨h1,h2,h3⟩
theorem KT.put{xs:List (List Key×Addr×Value)}(r:KT H kvs xs)(k:List Key){b:Addr}{y:V}(hb:H b=some (.tup (k.map kV)))(ry:RelV y u):
 KT H (zff kvs k y) (storedH xs k b u):=by
 have e:(kvs.any λkv=>decide (kv.1=k))=(atKey xs k).isSome:=by
  rw[zkv,(r.val k).isSome_eq,Option.isSome_map]
 unfold zff storedH
 rw[e]
 by_cases q:(atKey xs k).isSome=true
 ·rw[p0 q,p0 q];exact r.repl k ry
 ·rw[V0 q,V0 q];exact Paired.snoc r ⟨rfl,hb,ry⟩
theorem KT.keeps{xs:List (List Key×Addr×Value)}(r:KT H kvs xs)(ht:∀b ys,H b=some (.tup ys)->H' b=some (.tup ys)):KT H' kvs xs:=
 Paired.mapP r λ_ _ z=>⟨z.1,ht _ _ z.2.1,z.2.2⟩
theorem zry{u:HO}(ok:HOk P w H h)(e:Rd H a u):ObjOk P w H h a u:=e.ok ok
theorem ztu{kvs:List (Key×V)}(ok:HOk P w H h)(e:Rd H a (.dK kvs)):kvs.length<=sizeLine/\(a==sysModules)=false/\∃vs,KV kvs vs/\h.DictOf (zaU P w) a vs:=
 show ObjOk P w H h a (.dK kvs)from zry ok e
theorem ztJ{kvs:List (Key×V)}(ok:HOk P w H h)(e:H a=some (.dK kvs)):kvs.length<=sizeLine/\(a==sysModules)=false/\∃vs,KV kvs vs/\h.DictOf (zaU P w) a vs:=ztu ok (.inl e)
theorem zox{ks:List Key}(ok:HOk P w H h)(e:H a=some (.tup (ks.map kV))):(tupleKind (zaU P w)).is h ks a:=by
 obtain⟨_,its,r,⟨o,h1,h2,n,h3⟩,_⟩:=(show ObjOk P w H h a (.tup (ks.map kV))from ok a _ e)
 exact⟨o,its.toArray,n,h1,h2,h3,by simpa using ziH r⟩
theorem zto(ok:HOk P w H h)(e:Rd H a (.dT kvs)):kvs.length<=sizeLine/\(a==sysModules)=false/\
 ∃xs,KT H kvs xs/\h.DictOfH (tupleKind (zaU P w)) a xs:=by
 obtain⟨z,y,xs,r,o,es,ep,h1,h2,h3,h4,h5⟩:=(show ObjOk P w H h a (.dT kvs)from zry ok e)
 refine⟨z,y,xs,r,o,es,ep,h1,h2,h3,h4,λx hx=>?_,h5⟩
 have all:∀{l:List (List Key×V)} {m:List (List Key×Addr×Value)},KT H l m->∀x∈m,(tupleKind (zaU P w)).is h x.1 x.2.1:=by
  intro l m q
  induction q with
  |nil=>intro x hx;exact nomatch hx
  | @cons p q ps qs hq t ih=>
    intro x hx
    rcases I0.mp hx with e|hx
    ·subst e
     exact zox ok (by rw[←hq.1];exact hq.2.1)
    ·exact ih x hx
 exact all r x hx
theorem ztF(ok:HOk P w H h)(e:H a=some (.dT kvs)):kvs.length<=sizeLine/\(a==sysModules)=false/\
 ∃xs,KT H kvs xs/\h.DictOfH (tupleKind (zaU P w)) a xs:=zto ok (.inl e)
def DPut(H:Hp)(a:Addr)(y v:V)(H':Hp):Prop:=
 (∃kvs k,H a=some (.dK kvs)/\y=kV k/\kvs.length<sizeLine/\H'=upd H a (.dK (zff kvs k v)))\/
 ∃kvs k b,H a=some (.dT kvs)/\y= .ref b/\H b=some (.tup (k.map kV))/\kvs.length<sizeLine/\H'=upd H a (.dT (zff kvs k v))
theorem DPut.t{b:Addr}{k:List Key}(e:H a=some (.dT kvs))(eb:H b=some (.tup (k.map kV)))(hl:kvs.length<sizeLine):
 DPut H a (.ref b) v (upd H a (.dT (zff kvs k v))):= .inr ⟨kvs,k,b,e,rfl,eb,hl,rfl⟩
variable{t:SetTable}
section
variable{y:V}{r:Value}{o:Option V}
theorem Inv.big(I:Inv X pins σ H s):sysModules<s.heap.objs.size:=by
 have h:mainGlobals<s.heap.objs.size:=(I.mod.glob.keeps I.bk).lt
 exact Nat.lt_trans ⋯ h
theorem zmy{ob:HO}(I:Inv X pins σ H s)(mu:Mut (H a))(hs:Heap.SameBut a s.heap h')(he:∃q,h'.get? a=some q)(new:ObjOk X.prog X.w (upd H a ob) h' a ob):
 Inv X pins σ (upd H a ob) {s with heap:=h',toks:=t'}:=
 I.write (x:=a) (e:=a) mu (.inl rfl) (λb q hb z=>(hs.2 b hb).trans z) he new
theorem zsW{kvs:List (Key×V)}{vs:List (Key×Value)}(z:kvs.length<=sizeLine)(hd:(a==sysModules)=false)(rel:KV kvs vs)(dd:h'.DictOf (zaU P w) a vs):
 ObjOk P w H' h' a (.dK kvs):=⟨z,hd,vs,rel,dd⟩
theorem znn{Q:Unit->Shared->Prop}(hu:A.units+1<cLine)(I:Inv X pins σ H s)(g:DPut H a y v H')(ry:RelV y u)(rv:RelV v r)(h:∀s',Inv X pins σ H' s'->Q Unit.unit s'):
 wpAny (model X.prog X.w) A (setItem (.ref a) u r) Q E s:=by
 rcases g with⟨kvs,k,e,ey,l,eH⟩|⟨kvs,k,b,e,ey,eb,l,eH⟩
 ·subst ey eH
  obtain⟨z,hd,vs,rel,dd⟩:=ztJ I.hok e
  have hz:vs.length<=sizeLine:=by rw[←rel.length];exact z
  have hl:(zff kvs k v).length<=sizeLine:=by have:=zgx kvs k v;lia
  refine wpAny_setItem_pairs (hsz:=hz) (zrx ry) dd λh' dd' hs=>h _ ?_
  have he:∃q,h'.get? a=some q:=let⟨q,_,_,hq,_⟩:=dd';⟨q,hq⟩
  exact zmy I (by rw[e];exact True.intro) hs he (zsW hl hd (rel.put k rv) dd')
 ·subst ey eH
  cases(show u=Value.ref b from ry)
  obtain⟨z,hd,xs,rel,dd⟩:=ztF I.hok e
  have hz:xs.length<=sizeLine:=by rw[←Paired.length rel];exact z
  have hl:(zff kvs k v).length<=sizeLine:=by have:=zgx kvs k v;lia
  refine wpAny_setItem_heap (hsz:=hz) (tupleKind_room_in1 hu) (zox I.hok eb) dd λh' dd' hs=>h _ ?_
  obtain⟨q,es,ep,hq,h2,h3,h4,_,h5⟩:=dd'
  refine zmy I (by rw[e];exact True.intro) hs ⟨q,hq⟩ ⟨hl,hd,_,(rel.put k eb rv).keeps λc ys ec=>?_,q,es,ep,hq,h2,h3,h4,h5⟩
  rw[zn (zs9 ec e (λz=>nomatch z))]
  exact ec
end
section
variable{kvs:List (Key×V)}{k:Key}
end
noncomputable def zrU(td ty tv:TE):TS:=λD σ H=>tv σ H λv H1=>td σ H1 λx H2=>ty σ H2 λy H3=>∃a H4,x= .ref a/\DPut H3 a y v H4/\D.nx σ H4
section
variable{o i:Expr}{ty:TE}
theorem zqh(hu:X.A.units+1<cLine)(ho:PE X o td)(hi:PE X i ty)(hv:PE X value tv)(hs:swapsWith value (some (.Subscript o i pos')) pos.line X.env=pure false):
 PS X (.Assign [.Subscript o i pos'] value pos) (zrU td ty tv):=by
 intro pins s σ H D I h
 refine wpAny_Assign_Subscript (thn (hv pins s σ H _ I h) λr s1 zq=>?_) hs
 obtain⟨v,H1,I1,rv,q1⟩:=zq
 refine thn (ho pins s1 σ H1 _ I1 q1) λu s2 zq1=>?_
 obtain⟨x,H2,I2,rx,q2⟩:=zq1
 refine thn (hi pins s2 σ H2 _ I2 q2) λiv s3 zq2=>?_
 obtain⟨y,H3,I3,ry,a,H4,ex,g,q3⟩:=zq2
 subst ex
 obtain rfl:u=Value.ref a:=rx
 exact znn hu I3 g ry rv λs4 I4=>⟨σ,H4,I4,q3⟩
end
theorem zph(h:Heap)(hb:sysModules<h.objs.size):ObjOk P w H (h.push {cls:= .type "dict",data:= .dict #[]}) h.objs.size (.dT []):=
 ⟨X1 _,beq_eq_false_iff_ne.mpr (Ne.symm (R1 hb)),[], .nil,_, #[],0,M0 _ rfl,⟨rfl,rfl,rfl⟩,rfl,rfl,List.nodup_nil⟩
noncomputable def zop:TE:=λ_ H Q=>∀p,H p=none->Q (.ref p) (upd H p (.dT []))
theorem zpw:PE X (.Dict [] [] pos) zop:=λpins s σ H Q I h=>
 wpAny_Dict_empty ⟨.ref s.heap.objs.size,_,I.laid (a:=s.heap.objs.size) (o:= .dT []) (t':=s.toks) (λ_ _ q=>C0 _ q) (K0 _) (zph s.heap I.big),rfl,h _ (I.hok.fresh (K0 _))⟩
def zpd:List (TE×TE)->St->Hp->(List (V×V)->Hp->Prop)->Prop
 |[],_,H,Q=>Q [] H
 |(tk,tv)::r,σ,H,Q=>tk σ H λx H1=>tv σ H1 λy H2=>zpd r σ H2 λps H3=>Q ((x,y)::ps) H3
abbrev VV:List (V×V)->List (Value×Value)->Prop:=Paired λp q=>RelV p.1 q.1/\RelV p.2 q.2
def PPs(X:Cx)(pos:Pos)(keys:List (Option Expr))(values:List Expr)(trs:List (TE×TE)):Prop:=
 ∀(pins:List (Addr×Obj)) (s:Shared) (σ:St) (H:Hp) (Q:List (V×V)->Hp->Prop),Inv X pins σ H s->zpd trs σ H Q->
  wpAny (model X.prog X.w) X.A (evalPairs (pairTrees keys values X.env pos)) (λvs s'=>∃ps H',Inv X pins σ H' s'/\VV ps vs/\Q ps H') X.xe s
structure M1(X:Cx)(o:Expr)(m:Str)(apos:Pos)(e:Expr)(cpos:Pos):Prop where
 base:attributeBase o m X.env (eval o X.env)=eval o X.env
 few:((backTo cpos (starEach [e] X.env)).all (λx=>!x.1)&&(backToKw cpos (keywordEach [] X.env)).all (λx=>x.1.isSome)
  &&decide (([e]:List Expr).length+([]:List Keyword).length+(if([]:List Keyword).isEmpty then 0 else 1)<30))=true
 line:(apos.endLine==cpos.line)=true
 trees:backTo cpos (starEach [e] X.env)=[(false,eval e X.env)]
structure M2(X:Cx)(o:Expr)(m:Str)(apos:Pos)(e f:Expr)(cpos:Pos):Prop where
 base:attributeBase o m X.env (eval o X.env)=eval o X.env
 few:((backTo cpos (starEach [e,f] X.env)).all (λx=>!x.1)&&(backToKw cpos (keywordEach [] X.env)).all (λx=>x.1.isSome)
  &&decide (([e,f]:List Expr).length+([]:List Keyword).length+(if([]:List Keyword).isEmpty then 0 else 1)<30))=true
 line:(apos.endLine==cpos.line)=true
 trees:backTo cpos (starEach [e,f] X.env)=[(false,eval e X.env),(false,eval f X.env)]
variable{base:Heap}
section
variable{y d:V}{r:Value}{o:Option V}
end
section
variable{o f:Expr}{ty tx:TE}
end
section
variable{kvs:List (Key×V)}
end
section
variable{y:V}
end
theorem zeF:OpR X (compareOp .LtE) (λx y H Q=>∃i j,x= .str i/\y= .str j/\Q (.bl (!decide (j.cps.toList<i.cps.toList))) H):=by
 intro pins s σ H x y v u Q I rx ry h
 obtain⟨i,j,rfl,rfl,q⟩:=h
 obtain⟨t,rfl⟩:=rx
 obtain⟨t',rfl⟩:=ry
 exact P.le_str (zP I q rfl)
theorem zi0:∀{bs:List Bool} {us:List Value} {i:Nat} {v:Value},Vals (bs.map V.bl) us->us[i]?=some v->∃b,bs[i]?=some b/\v= .bool b
 |[],_,_,_, .nil,e=>by simp at e
 |b::bs,_,0,v, .cons r _,e=>by
  simp at e
  subst e
  exact⟨b,rfl,r⟩
 |b::bs,_,i+1,v, .cons _ t,e=>by
  obtain⟨c,h1,h2⟩:=zi0 (i:=i) t (by simpa using e)
  exact⟨c,by simpa using h1,h2⟩
noncomputable def atB(bs:List Bool)(j:Nat):Bool:=match bs[j]? with|some b=>b|none=>true
theorem zju(bs:List Bool):(List.range bs.length).all (atB bs)=bs.all id:=by
 refine Eq.trans ?_ (PyProof.Rows.all_rangeD bs (id:Bool->Bool))
 congr 1
 funext j
 unfold atB
 cases bs[j]?<;>rfl
theorem zav(hc:X.calm=true):CallR X (.builtin "all") (λxs H Q=>∃(p:Addr) (bs:List Bool),xs=[.ref p]/\SqL X.K H p (bs.map V.bl)/\Q (.bl (bs.all id)) H):=by
 intro pins s σ H xs us Q I r h
 obtain⟨p,bs,rfl,hq,q⟩:=h
 obtain⟨u,rfl,ru⟩:=zbq r
 cases ru
 obtain⟨its,rv,pl,hz⟩:=I.list hq
 have hp:p≠s.heap.objs.size:=R1 pl.lt
 refine call_all_walk (wpAny_pyIter_list pl.isList ?_)
 refine⟨s.heap.objs.size,_,_,_,_,_,atB bs,rfl,Walks.list (A:=X.A.in1) (show X.A.in1.handled=none from I.ok.hd hc) _ p hp its.toArray,⟨⟨_,M0 _ rfl,rfl,rfl⟩,?_⟩,?_,λh' tk hk=>?_⟩
 ·obtain ⟨o,n,e,c,_,d⟩:=pl
  exact⟨o,C0 _ e,c,n,d⟩
 ·intro i v s' Q' E' hP hQ
  obtain⟨b,h1,rfl⟩:=zi0 (i:=i) (v:=v) rv (by simpa using hP)
  refine wpAny_truthy_bool ?_
  have e:atB bs i=b:=by unfold atB;rw[h1]
  rw[e] at hQ
  exact hQ
 ·have hl:its.toArray.size=bs.length:=by
   have:=rv.length
   simp at this
   simp[this]
  rw[hl,zju]
  refine⟨.bl (bs.all id),H,I.kept λb o e=>hk b o ?_ (C0 _ e),rfl,q⟩
  intro z
  have:b=s.heap.objs.size:=by simpa using z
  exact absurd (P0 e) (by rw[this];exact Z1 _)
theorem zbk:∀{ys:List Str} {us:List Value},Vals (ys.map V.str) us->StrsAre us ys
 |[],_, .nil=>by first|exact .nil|trivial
 |y::ys,_, .cons r t=>by
  obtain⟨k,rfl⟩:=r
  first
   |exact .cons _ _ (zbk t)
   |exact .cons (zbk t)
   |exact⟨⟨k,rfl⟩,zbk t⟩
theorem zjd:MtR X "str.join" (λx vs H Q=>∃(sep:Str) (p:Addr) (ys:List Str),x= .str sep/\vs=[.ref p]/\SqL X.K H p (ys.map V.str)/\sep.length<=16/\(ys.map (·.length)).sum+ys.length<=1048576/\Q (.str (Txt.join sep ys)) H):=by
 intro pins s σ H x xs v us Q I rx rs h
 obtain⟨sep,p,ys,rfl,rfl,hq,h1,h2,q⟩:=h
 obtain⟨t,rfl⟩:=rx
 obtain⟨u,rfl,ru⟩:=zbq rs
 cases ru
 obtain⟨its,rv,pl,hz⟩:=I.list hq
 exact join_listW pl.isList (by simpa using zbk rv) h1 h2 λt' k=>⟨.str _,H,I.tok _,⟨_,rfl⟩,q⟩
noncomputable def zhq(z:Str)(n:Nat):Str:=⟨(List.replicate n z.cps).foldl (·++·) #[]⟩
theorem zlQ:OpR X (binaryOp .Mult) (λx y H Q=>∃z n,x= .str z/\y= .int n/\1<n/\n<=1000/\0<z.length/\z.length<=1000/\Q (.str (zhq z n.toNat)) H):=by
 intro pins s σ H x y v u Q I rx ry h
 obtain⟨z,n,rfl,rfl,h1,h2,h3,h4,q⟩:=h
 obtain⟨t,rfl⟩:=rx
 obtain⟨t',rfl⟩:=ry
 have e1:¬n<1:=()
 have e2:(n==1||z.length==0)=false:=by
  have a:(n==1)=false:=beq_eq_false_iff_ne.mpr ()
  have b:(z.length==0)=false:=beq_eq_false_iff_ne.mpr ()
  rw[a,b];rfl
 have hz:z.length*n.toNat<=1000*1000:=Nat.mul_le_mul h4 ()
 refine P.mul_str ?_ (λ_ _=>?_) (λ_ _=>?_) ?_
 ·have a:decide (n< -(2^63:Int))=false:=G0 ()
  have b:decide (n≥2^63)=false:=G0 ()
  rw[a,b];rfl
 ·have hd:(1000:Int)<=(2^63 -1)/n:=by
   apply Int.le_ediv_of_mul_le ()
   lia
  lia
 ·have hb:z.length*n.toNat<=sizeLine:=F1 hz ⋯
  unfold Builtin.Str.tooLong
  exact G0 ()
 ·rw[V0 e1,e2]
  simp only[G2,if_false]
  refine⟨?_,⟨.str _,H,I.tok _,⟨_,rfl⟩,q⟩⟩
  have key:∀(k:Nat) (acc:Array Nat),((List.replicate k z.cps).foldl (·++·) acc).size=acc.size+k*z.cps.size:=by
   intro k
   induction k with
   |zero=>intro acc;simp
   |succ k ih=>intro acc;rw[List.replicate_succ,List.foldl_cons,ih,Array.size_append,Nat.succ_mul];lia
  have hk:=key n.toNat #[]
  have hz':n.toNat *z.cps.size<=1000*1000:=Nat.mul_le_mul () h4
  have hsl:1000*1000<=sizeLine:=⋯
  show((List.replicate n.toNat z.cps).foldl (·++·) #[]).size<=sizeLine
  rw[hk]
  simp only[Array.size_empty]
  lia
theorem zaI:CallR X (.builtin "isinstance") (λxs H Q=>∃x T t b,xs=[x, .ty T]/\TyOf X.K H x t/\W.kitOne X.K t (.type T)=some b/\Q (.bl b) H):=by
 intro pins s σ H xs us Q I r h
 obtain⟨x,T,t,b,rfl,ht,hk,q⟩:=h
 obtain⟨u,w',rfl,ru,rw'⟩:=ziO r
 cases rw'
 exact zno I ru ht hk λtk=>⟨.bl b,H,I.tok _,rfl,q⟩
noncomputable def Its(x:Str):It:=⟨λi _=>i<x.length,λi H y H'=>H'=H/\∃c,x.cps[i]?=some c/\y= .str ⟨#[c]⟩,λi _=>x.length<=i⟩
theorem znM(x:Str)(t:Tok)(it:Addr):Turn P w K tg (Its x) [it] it (λi h=>h.IsStrIter it "str_ascii_iterator" x t i) where
 mem:=`Z2
 obj:=λi h st b hb=>by
  have e:b=it:=by simpa using hb
  subst e
  obtain⟨o,e,c,d⟩:=st
  exact⟨o,e,λv z=>by rw[d] at z;cases z⟩
 keep:=λi h h' st k=>by
  obtain⟨o,e,r⟩:=st
  exact⟨o,k it `Z2 o e,r⟩
 item:=by
  intro X hP hw hK hc i pins s σ H E I hf st hg
  subst hP hw hK
  have hi:i<x.cps.size:=hg
  obtain⟨f0,f1,f2,f3,f4,f5⟩:=hf it `Z2
  refine wpAny_pyNext_ascii_item st (c:=x.cps[i]) (by simp[hi]) λh' st' sb=>?_
  have I1:Inv X pins σ H {s with heap:=h',toks:=s.toks+1}:=I.turned (t':=s.toks+1) (λb o hb e=>(sb.2 b hb).trans e) f0 f1 f3 f4 f5
  obtain⟨o,e,c,d⟩:=id st'
  exact⟨_,rfl,zj0 (s:={s with heap:=h',toks:=s.toks+1}) e c d ⋯ ⟨.str ⟨#[x.cps[i]]⟩,H,I1,⟨_,rfl⟩,⟨rfl,x.cps[i],by simp[hi],rfl⟩,st',λb hb=>(hf b hb).1⟩⟩
 done:=by
   intro X hP hw hK hc i pins s σ H E I hf st hg
   subst hP hw hK
   have hi:x.cps.size<=i:=hg
   obtain⟨f0,f1,f2,f3,f4,f5⟩:=hf it `Z2
   exact wpAny_pyNext_ascii_end (I.ok.hd hc) st (by simp[hi]) λh' eb=>⟨rfl,I.turned (t':=s.toks) (λb o hb e=>eb b o hb e) f0 f1 f3 f4 f5⟩
 self:=λ_ _ _ _ _ st h=>wpAny_pyIter_striter_ascii st h
theorem znq(x:Str)(t:Tok)(it:Addr):Turn P w K tg (Its x) [it] it (λi h=>h.IsStrIter it "str_iterator" x t i) where
 mem:=`Z2
 obj:=λi h st b hb=>by
  have e:b=it:=by simpa using hb
  subst e
  obtain⟨o,e,c,d⟩:=st
  exact⟨o,e,λv z=>by rw[d] at z;cases z⟩
 keep:=λi h h' st k=>by
  obtain⟨o,e,r⟩:=st
  exact⟨o,k it `Z2 o e,r⟩
 item:=by
  intro X hP hw hK hc i pins s σ H E I hf st hg
  subst hP hw hK
  have hi:i<x.cps.size:=hg
  obtain⟨f0,f1,f2,f3,f4,f5⟩:=hf it `Z2
  refine wpAny_pyNext_wide_item st (c:=x.cps[i]) (by simp[hi]) λh' st' sb=>?_
  have I1:Inv X pins σ H {s with heap:=h',toks:=s.toks+1}:=I.turned (t':=s.toks+1) (λb o hb e=>(sb.2 b hb).trans e) f0 f1 f3 f4 f5
  obtain⟨o,e,c,d⟩:=id st'
  exact⟨_,rfl,zj0 (s:={s with heap:=h',toks:=s.toks+1}) e c d ⋯ ⟨.str ⟨#[x.cps[i]]⟩,H,I1,⟨_,rfl⟩,⟨rfl,x.cps[i],by simp[hi],rfl⟩,st',λb hb=>(hf b hb).1⟩⟩
 done:=by
   intro X hP hw hK hc i pins s σ H E I hf st hg
   subst hP hw hK
   have hi:x.cps.size<=i:=hg
   obtain⟨f0,f1,f2,f3,f4,f5⟩:=hf it `Z2
   exact wpAny_pyNext_wide_end (I.ok.hd hc) st (by simp[hi]) λh' eb=>⟨rfl,I.turned (t':=s.toks) (λb o hb e=>eb b o hb e) f0 f1 f3 f4 f5⟩
 self:=λ_ _ _ _ _ st h=>wpAny_pyIter_striter_wide st h
noncomputable def ztX(tl:TE):TI:=λσ H R=>tl σ H λy H1=>∃x,y= .str x/\R (Its x) H1
theorem zsa{l:Expr}(hl:PE X l tl):PI X tg l (ztX tl):=by
 intro pins s σ H R I h
 refine thn (hl pins s σ H _ I h) λv s1 zq=>?_
 obtain⟨y,H1,I1,r1,q1⟩:=zq
 obtain⟨x,rfl,q⟩:=q1
 obtain⟨t,rfl⟩:=r1
 cases ha:x.cps.all (·<128)
 ·refine wpAny_pyIter_wide ha ⟨s1.heap.objs.size,[s1.heap.objs.size],_,_,H1,rfl,I1.kept (t':=s1.toks) λb o e=>C0 _ e,znq x t _,⟨_,M0 _ rfl,rfl,rfl⟩,λb hb=>?_,q⟩
  have e:b=s1.heap.objs.size:=by simpa using hb
  subst e
  exact I1.fpOk (K0 _) (I1.hok.fresh (K0 _))
 ·refine wpAny_pyIter_ascii ha ⟨s1.heap.objs.size,[s1.heap.objs.size],_,_,H1,rfl,I1.kept (t':=s1.toks) λb o e=>C0 _ e,znM x t _,⟨_,M0 _ rfl,rfl,rfl⟩,λb hb=>?_,q⟩
  have e:b=s1.heap.objs.size:=by simpa using hb
  subst e
  exact I1.fpOk (K0 _) (I1.hok.fresh (K0 _))
theorem zaC:bootBuiltins "len"=some (.builtin "len"):=`Y2
theorem zca:bootBuiltins "all"=some (.builtin "all"):=`Y2
theorem zsS:bootBuiltins "any"=some (.builtin "any"):=`Y2
theorem zI:bootBuiltins "isinstance"=some (.builtin "isinstance"):=`Y2
theorem zl9:bootBuiltins "max"=some (.builtin "max"):=`Y2
theorem zi5:bootBuiltins "min"=some (.builtin "min"):=`Y2
theorem ziy:bootBuiltins "sorted"=some (.builtin "sorted"):=`Y2
theorem zdQ:bootBuiltins "int"=some (.type "int"):=`Y2
theorem zd2:bootBuiltins "str"=some (.type "str"):=`Y2
theorem zX:bootBuiltins "tuple"=some (.type "tuple"):=`Y2
theorem zmV:bootBuiltins "bool"=some (.type "bool"):=`Y2
theorem few{xs:List α}(h:Nat.ble xs.length 1000=true):xs.length<=sizeLine:=Nat.le_of_lt (zE (Nat.le_of_ble_eq_true h))
noncomputable def zgc:Expr->Option V
 | .Constant (.str x) _ _=>some (.str x)
 | .Constant (.int i) _ _=>some (.int i)
 | .Constant (.bool b) _ _=>some (.bl b)
 | .Constant .none _ _=>some .non
 |_=>none
theorem zpD(h:zgc e=some v):PE X e (tC v)/\∀es,starEach (e::es) X.env=(false,eval e X.env)::starEach es X.env:=by
 cases e with
 |Constant c j pos=>
  cases c with
  |str x=>cases h;exact⟨zo3,λ_=>rfl⟩
  |int x=>cases h;exact⟨zoI,λ_=>rfl⟩
  |bool x=>cases h;exact⟨zrI,λ_=>rfl⟩
  |none=>cases h;exact⟨zpC,λ_=>rfl⟩
  |_=>cases h
 |_=>cases h
noncomputable def zuh(vs:List V):TA:=λ_ H Q=>Q vs H
theorem zfI:∀{es:List Expr} {vs:List V},es.mapM zgc=some vs->PA X es (zuh vs)
 |[],vs,h=>by
  have e:vs=[]:=by simpa using h.symm
  subst e
  exact zo8
 |e::es,vs,h=>by
  rw[List.mapM_cons] at h
  cases h1:zgc e with
  |none=>rw[h1] at h;cases h
  |some v=>
   rw[h1] at h
   cases h2:es.mapM zgc with
   |none=>rw[h2] at h;cases h
   |some us=>
    rw[h2] at h
    have e1:v::us=vs:=A1 h
    subst e1
    obtain⟨p,st⟩:=zpD (X:=X) h1
    have q:=zmQ p (zfI (es:=es) h2) (st es)
    exact q
noncomputable def zrK(vs:List V):TE:=λ_ H Q=>vs.length<=sizeLine/\∀p,H p=none->Q (.ref p) (upd H p (.lst vs))
theorem zp8(vs:List V)(h:es.mapM zgc=some vs):PE X (.List es pos) (zrK vs):=zoR (zfI h)
structure Wk(J:It)(n:Nat)(P:Nat->V->Prop)(ok:Hp->Prop):Prop where
 stop:∀i H,ok H->n<=i->J.stop i H
 go:∀i H,ok H->i<n->J.go i H
 yld:∀i H x H',ok H->i<n->J.yld i H x H'->H'=H/\P i x
theorem zeA:Wk (Itl K a) xs.length (λi x=>xs[i]?=some x) (λH=>SqL K H a xs) where
 stop:=λi H h l=>⟨xs,h,l⟩
 go:=λi H h l=>⟨xs,xs[i],h,by simp[l]⟩
 yld:=λi H x H' h l y=>⟨y.1,y.2 xs h⟩
theorem zaT:Wk (Itt K a) xs.length (λi x=>xs[i]?=some x) (λH=>SqT K H a xs) where
 stop:=λi H h l=>⟨xs,h,l⟩
 go:=λi H h l=>⟨xs,xs[i],h,by simp[l]⟩
 yld:=λi H x H' h l y=>⟨y.1,y.2 xs h⟩
theorem zc9:Wk (Itr lo n) n (λi x=>x= .int (lo+i)) (λ_=>True) where
 stop:=λi H h l=>l
 go:=λi H h l=>l
 yld:=λi H x H' h l y=>y
theorem zoF:Wk (Its x) x.length (λi y=>∃c,x.cps[i]?=some c/\y= .str ⟨#[c]⟩) (λ_=>True) where
 stop:=λi H h l=>l
 go:=λi H h l=>l
 yld:=λi H x H' h l y=>y
theorem zaD{P:Nat->V->Prop}{ok:Hp->Prop}{src:List (Option Nat)}{Q:VK}(wk:Wk J n P ok)(Pv:Addr->Nat->List V->St->Hp->Prop)
 (h0:∀l,H1 l=none->Pv l 0 [] (zdy src σ) (upd H1 l (.lst []))) (hok:∀l i ys σ H,H1 l=none->Pv l i ys σ H->ok H)
 (hs:∀l i x ys σ H,H1 l=none->i<n->P i x->Pv l i ys σ H->H l=some (.lst ys)->g x σ H λσ2 H3=>tc σ2 H3 λb H4=>
   if b=true then te σ2 H4 λy H5=>H5 l=some (.lst ys)/\ys.length<sizeLine/\Pv l (i+1) (ys ++ [y]) σ2 (upd H5 l (.lst (ys ++ [y])))else H4 l=some (.lst ys)/\Pv l (i+1) ys σ2 H4)
 (hd:∀l ys σ H,H1 l=none->Pv l n ys σ H->H l=some (.lst ys)->Q (.ref l) H):
 zdx g tc te src σ Q J H1:=by
 intro l hl
 refine⟨λi m ys σ H=>m=n -i/\i<=n/\Pv l i ys σ H,⟨n,`Z2,X1 _,h0 l hl⟩,?_⟩
 rintro i m ys σ' H' ⟨rfl,hi,p⟩ hl'
 by_cases hlt:i<n
 ·refine .inr ⟨wk.go i H' (hok l i ys σ' H' hl p) hlt,Pv l (i+1),λzs σ2 H2 q=>⟨n -(i+1),(),rfl,hlt,q⟩,λx H2 y=>?_⟩
  obtain⟨rfl,px⟩:=wk.yld i H' x H2 (hok l i ys σ' H' hl p) hlt y
  exact hs l i x ys σ' _ hl hlt px p hl'
 ·have e:i=n:=()
  subst e
  exact .inl ⟨wk.stop _ _ (hok l _ ys σ' H' hl p) (K0 _),hd l ys σ' H' hl p hl'⟩
theorem zcE{P:Nat->V->Prop}{ok:Hp->Prop}{D:Ends}(wk:Wk J n P ok)(Pv:Nat->St->Hp->Prop)(h0:Pv 0 σ H)(hok:∀i σ H,Pv i σ H->ok H)
 (hs:∀i x σ H,i<n->P i x->Pv i σ H->g x σ H λσ2 H2=>tb {D with nx:=Pv (i+1),ct:=Pv (i+1),bk:=D.nx} σ2 H2) (hd:∀σ H,Pv n σ H->D.nx σ H):
 zoy g tb D σ J H:=by
 refine⟨λi m σ H=>m=n -i/\i<=n/\Pv i σ H,⟨n,`Z2,X1 _,h0⟩,?_⟩
 rintro i m σ H ⟨rfl,hi,p⟩
 by_cases hlt:i<n
 ·refine .inr ⟨wk.go i H (hok i σ H p) hlt,Pv (i+1),λσ' H' q=>⟨n -(i+1),(),rfl,hlt,q⟩,λx H' y=>?_⟩
  obtain⟨rfl,px⟩:=wk.yld i H x H' (hok i σ H p) hlt y
  exact hs i x σ _ hlt px p
 ·have e:i=n:=()
  subst e
  exact .inl ⟨wk.stop _ _ (hok _ σ H p) (K0 _),hd σ H p⟩
structure QE(X:Cx)(e:Expr)(t:TE):Prop where o:PE X e t
structure QT(X:Cx)(e:Expr)(t:TT):Prop where o:PT X e t
structure QW(X:Cx)(e:Expr)(t:TT):Prop where o:PW X e t
structure QA(X:Cx)(es:List Expr)(t:TA):Prop where o:PA X es t
structure QS(X:Cx)(s:Stmt)(t:TS):Prop where o:PS X s t
structure QB(X:Cx)(s:List Stmt)(t:TS):Prop where o:PSs X s t
structure QI(X:Cx)(tg iter:Expr)(t:TI):Prop where o:PI X tg iter t
structure QG(X:Cx)(tg:Expr)(t:TG):Prop where o:PG X tg t
structure QGs(X:Cx)(tg:List Expr)(t:TGs):Prop where o:PGs X tg t
structure QF(X:Cx)(ifs:List Expr)(t:TT):Prop where o:PIf X ifs t
structure QO(X:Cx)(e:Option Expr)(t:TO):Prop where o:PO X e t
structure QPs(X:Cx)(pos:Pos)(keys:List (Option Expr))(values:List Expr)(trs:List (TE×TE)):Prop where o:PPs X pos keys values trs
section
variable{a b c o i:Expr}{ta tb tc to:TE}{t u:TA}{p:Pos}{q q':TT}
theorem qv(i:Nat)(hN:autoParam (X.N[i]?=some x) y3)(hv:Vis X.env.scope x:=by exact Or.inl rfl)(hd:autoParam ((x==("__debug__":Str))=false) w4)
 (hcd:autoParam ((x==("__classdict__":Str))=false) w4):QE X (.Name x pos) (zsb i):=⟨zpT hN hv hd hcd⟩
theorem qc(i:Nat)(hN:autoParam (X.N[i]?=some x) y3)(hv:autoParam (X.env.scope.names.lookup x=some .cell) y3)(hd:autoParam ((x==("__debug__":Str))=false) w4)
 (hcd:autoParam ((x==("__classdict__":Str))=false) w4):QE X (.Name x pos) (zsb i):=⟨zpT hN (.inr (.inl hv)) hd hcd⟩
theorem ze{k:Int}:QE X (.Constant (.int k) j pos) (tC (.int k)):=⟨zoI⟩
theorem zy{k:Str}:QE X (.Constant (.str k) j pos) (tC (.str k)):=⟨zo3⟩
theorem zei{k:Bool}:QE X (.Constant (.bool k) j pos) (tC (.bl k)):=⟨zrI⟩
theorem za9:QE X (.Constant .none j pos) (tC .non):=⟨zpC⟩
theorem zbB{u:Value}(hm:X.mg x=some u)(r:RelV v u)(hg:autoParam (Gl X x) y3)(hd:autoParam ((x==("__debug__":Str))=false) w4):QE X (.Name x pos) (tC v):=⟨zrb hg hm r hd⟩
theorem zga(hm:X.mg x=none)(hv:bootBuiltins x=some (.type T))(hg:autoParam (Gl X x) y3)(hn:autoParam (x≠"__name__") w4)(hd:autoParam ((x==("__debug__":Str))=false) w4):QE X (.Name x pos) (tC (.ty T)):=⟨zqX hg hm hv rfl hn hd⟩
theorem zU{op:Operator}(ho:OpR X (binaryOp op) r)(ha:QE X a ta)(hb:QE X b tb):QE X (.BinOp a op b pos) (tOp r ta tb):=⟨ztf ho ha.o hb.o⟩
theorem zpG{op:UnaryOp}{r:V->Hp->VK->Prop}(ho:UnR X (unaryOp op) r)(ha:QE X a ta):QE X (.UnaryOp op a pos) (tUn r ta):=⟨zt1 ho ha.o⟩
theorem zbH(ho:OpR X (compareOp op) r)(ha:QE X a ta)(hb:QE X b tb)(hm:autoParam (behindInMarks op b=false) y3):QE X (.Compare a [op] [b] pos) (tOp r ta tb):=⟨zre ho ha.o hb.o hm⟩
theorem zM(ho:OpR X (compareOp op) r)(ha:QE X a ta)(hb:QE X b tb)(hm:autoParam (behindInMarks op b=false) y3):QT X (.Compare a [op] [b] pos) (zmN (tOp r ta tb)):=⟨zqV ho ha.o hb.o hm⟩
theorem zgT(ho:OpR X (compareOp op) r)(ho':OpR X (compareOp op') r')(ha:QE X a ta)(hb:QE X b tb)(hc:QE X c tc)
 (hm:autoParam (lastMarks [op,op'] [b,c]=false) u6):QE X (.Compare a [op,op'] [b,c] pos) (zi9 r r' ta tb tc):=⟨zoa ho ho' ha.o hb.o hc.o hm⟩
theorem zmY(ho:OpR X (compareOp op) r)(ho':OpR X (compareOp op') r')(ha:QE X a ta)(hb:QE X b tb)(hc:QE X c tc)
 (hm:autoParam (lastMarks [op,op'] [b,c]=false) u6):QT X (.Compare a [op,op'] [b,c] pos) (zmN (zi9 r r' ta tb tc)):=⟨zoV ho ho' ha.o hb.o hc.o hm⟩
theorem zbe{op:BoolOp}(h:QE X a ta):QE X (.BoolOp op [a] pos) ta:=⟨zs8 h.o⟩
theorem zaO(ha:QE X a ta)(hb:QE X (.BoolOp .And (b::rest) pos) tb):QE X (.BoolOp .And (a::b::rest) pos) (zrP ta tb):=⟨zs6 ha.o hb.o⟩
theorem ztk(ha:QE X a ta)(hb:QE X (.BoolOp .Or (b::rest) pos) tb):QE X (.BoolOp .Or (a::b::rest) pos) (zti ta tb):=⟨ztG ha.o hb.o⟩
theorem zol(ha:QE X a ta):QE X (.UnaryOp .Not a pos) (zrD ta):=⟨zs2 ha.o⟩
theorem zgK(hc:QT X c q)(ha:QE X a ta)(hb:QE X b tb):QE X (.IfExp c a b pos) (tIf q ta tb):=⟨zpx hc.o ha.o hb.o⟩
theorem zjV(ha:QT X a q):QW X (.BoolOp .And [a] pos) q:=⟨zqT ha.o⟩
theorem zdc(ha:QT X a q):QW X (.BoolOp .Or [a] pos) q:=⟨zss ha.o⟩
theorem zms(ha:QT X a q)(hb:QW X (.BoolOp .And (b::rest) pos) q'):QW X (.BoolOp .And (a::b::rest) pos) (zt0 q q'):=⟨zs7 ha.o hb.o⟩
theorem zdu(ha:QT X a q)(hb:QW X (.BoolOp .Or (b::rest) pos) q'):QW X (.BoolOp .Or (a::b::rest) pos) (tOr q q'):=⟨ztY ha.o hb.o⟩
theorem t_w(h:QW X a q):QT X a q:=⟨h.o.pt⟩
theorem zaW(ha:QT X a q):QT X (.UnaryOp .Not a pos) (ztl q):=⟨zs1 ha.o⟩
theorem zay(h:QE X e te)(he:autoParam (∀whole,isTrue e X.env whole=(do let v ←whole;standAt e.pos;holding [v] (truthy v))) u5):QT X e (tB te):=⟨zsp h.o he⟩
theorem zjv(h:QE X e te)(he:autoParam (∀whole,isTrue e X.env whole=(do let v ←whole;standAt e.pos;holding [v] (truthy v))) u5):QT X e (λσ H Q=>te σ H λx H'=>∃k,zs4 X.K x H' k/\Q k H'):=⟨zpP h.o he⟩
theorem zb:QA X [] zsI:=⟨zo8⟩
theorem za(ha:QE X e te)(hr:QA X es t)(hs:autoParam (starEach (e::es) X.env=(false,eval e X.env)::starEach es X.env) y3):QA X (e::es) (zmf te t):=⟨zmQ ha.o hr.o hs⟩
theorem zaf(h:QA X es t):QE X (.Tuple es k pos) (ztx t):=⟨zrX h.o⟩
theorem zbb(h:QA X es t):QE X (.List es pos) (zsD t):=⟨zoR h.o⟩
theorem zhc(vs:List V)(h:es.mapM zgc=some vs):QE X (.List es pos) (zrK vs):=⟨zp8 vs h⟩
theorem zf{ps:List Str}{ds:List Value}{E:XK}(F:FnOk X.prog X.w X.K X.mg X.base CX k f fd ps sp)(hr:Room k X.A)(hm:X.mg x=some (.ref f))(hk:W.keepIn X.K (.ref f)=true)(hb:Binds X.K fd ps ds)(hd:Vals dvs ds)(hx:zjR CX X E)
 (ha:QA X (e::es) t) (hg:autoParam (Gl X x) y3) (hdb:autoParam ((x==("__debug__":Str))=false) w4) (he:autoParam (starEach (e::es) X.env=(false,eval e X.env)::starEach es X.env) y3) (hpl:autoParam ((backTo pos (starEach es X.env)).any (·.1)=false) y3):
 QE X (.Call (.Name x p) (e::es) [] pos) (zrQ sp dvs E t):=⟨zqF F hr hg hm hk hb hd hx ha.o hdb he hpl⟩
theorem zp{id:String}{r:List V->Hp->VK->Prop}(hc:CallR X (.builtin id) r)(hm:X.mg x=none)(hv:bootBuiltins x=some (.builtin id))(ha:QA X (e::es) t)(hg:autoParam (Gl X x) y3)(hn:autoParam (x≠"__name__") w4)(hdb:autoParam ((x==("__debug__":Str))=false) w4)
 (he:autoParam (starEach (e::es) X.env=(false,eval e X.env)::starEach es X.env) y3) (hpl:autoParam ((backTo pos (starEach es X.env)).any (·.1)=false) y3):QE X (.Call (.Name x p) (e::es) [] pos) (tCB r t):=⟨zou hc hg hm hv ha.o hn hdb he hpl⟩
theorem zG{r:List V->Hp->VK->Prop}(hc:CallR X (.type T) r)(hm:X.mg x=none)(hv:bootBuiltins x=some (.type T))(ha:QA X (e::es) t)(hg:autoParam (Gl X x) y3)(hn:autoParam (x≠"__name__") w4)(hdb:autoParam ((x==("__debug__":Str))=false) w4)
 (he:autoParam (starEach (e::es) X.env=(false,eval e X.env)::starEach es X.env) y3) (hpl:autoParam ((backTo pos (starEach es X.env)).any (·.1)=false) y3):QE X (.Call (.Name x p) (e::es) [] pos) (tCB r t):=⟨znX hc hg hm hv ha.o hn hdb he hpl⟩
theorem zN(hr:IxR X r)(ha:QE X a ta)(hb:QE X b tb)(hs:zmK b:=by exact λ_ _=>rfl):QE X (.Subscript a b pos) (tOp r ta tb):=⟨ztn hr ha.o hb.o hs⟩
theorem zbM:QO X none zcl:=⟨zp6⟩
theorem za2(h:QE X e te):QO X (some e) (zrG te):=⟨zqJ h.o⟩
theorem zfd{r:V->Option Int->Option Int->Hp->VK->Prop}{lo:Option Expr}{tl:TO}(hr:SlR X r)(he:QE X e te)(hl:QO X lo tl)(hu:QO X hi th):QE X (.Subscript e (.Slice lo hi none p) pos) (tSl r te tl th):=⟨zoj hr he.o hl.o hu.o⟩
theorem zdm{id:String}{name:Str}{r:V->List V->Hp->VK->Prop}(pa:PlainAttrs T)(slot:Slot T name id)(hty:typeOf (.builtin id)=pure (.type "method_descriptor"))(hm:MtR X id r)(ho:QE X o to)(ha:QA X (e::es) t)
 (hbase:autoParam (attributeBase o name X.env (eval o X.env)=eval o X.env) y3)
 (hfew:autoParam (((backTo cpos (starEach (e::es) X.env)).all (λx=>!x.1)&&(backToKw cpos (keywordEach [] X.env)).all (λx=>x.1.isSome)
   &&decide ((e::es).length+([]:List Keyword).length+(if([]:List Keyword).isEmpty then 0 else 1)<30))=true) y3)
 (hline:autoParam ((apos.endLine==cpos.line)=true) y3) (hs:autoParam (starEach (e::es) X.env=(false,eval e X.env)::starEach es X.env) y3) (hplain:autoParam ((backTo cpos (starEach es X.env)).any (·.1)=false) y3):
 QE X (.Call (.Attribute o name apos) (e::es) [] cpos) (tBM X.K T r to t):=⟨ztQ pa slot hty hm ho.o ha.o hbase hfew hline hs hplain⟩
theorem zgi(h:QE X e te):QI X tg e (zoN X.K te):=⟨zqZ h.o⟩
theorem zb2(h:QE X e te):QI X tg e (zsu X.K te):=⟨zsr h.o⟩
theorem zrV(h:QE X e te):QI X tg e (ztX te):=⟨zsa h.o⟩
theorem zdF(hm:X.mg "range"=none)(ha:QA X [a] t)(hg:autoParam (Gl X "range") y3)(hs:autoParam (starEach [a] X.env=[(false,eval a X.env)]) y3):QI X tg (.Call (.Name "range" p) [a] [] pos) (zrC t):=⟨zns hg hm ha.o hs⟩
theorem zr2(hm:X.mg "range"=none)(ha:QA X [a,b] t)(hg:autoParam (Gl X "range") y3)(hs:autoParam (starEach [a,b] X.env=[(false,eval a X.env),(false,eval b X.env)]) y3)(hs2:autoParam (starEach [b] X.env=[(false,eval b X.env)]) y3):QI X tg (.Call (.Name "range" p) [a,b] [] pos) (zrJ t):=⟨zni hg hm ha.o hs hs2⟩
theorem zl(k:Nat)(hN:X.N.Nodup)(hi:autoParam (X.N[k]?=some x) y3)(hx:autoParam (X.env.scope.names.lookup x=some .local) y3):QG X (.Name x pos) (zb1 k):=⟨zmU hN hi (.inl hx) (.inr hx)⟩
theorem zaA:QGs X [] zta:=⟨zqo⟩
theorem zu{tg:TG}(h1:QG X e tg)(h2:QGs X es tgs)(hs:autoParam ((assignEach (e::es) X.env).map (·.2)=assign e X.env::(assignEach es X.env).map (·.2)) y3):QGs X (e::es) (zrN tg tgs):=⟨zpY h1.o h2.o hs⟩
theorem zdi(n:Nat)(hc:X.calm=true)(h:QGs X es tgs)(hn:autoParam ((assignEach es X.env).length=n) y3)(hst:autoParam ((assignEach es X.env).findIdx? (·.1)=none) y3):QG X (.Tuple es k pos) (zs3 X.K n tgs):=⟨zsE hc h.o hn hst⟩
theorem zaJ:QF X [] znO:=⟨zrf⟩
theorem zrw(h:QT X c q):QF X [c] q:=⟨zqM h.o⟩
theorem zS:QB X [] zrE:=⟨zqI⟩
theorem zh{st:Stmt}(h1:QS X st sa)(h2:QB X sts sb):QB X (st::sts) (zt5 sa sb):=⟨zkp h1.o h2.o⟩
theorem zj{st:Stmt}(h1:QS X st sa):QB X [st] sa:=⟨zqW h1.o⟩
theorem zar{A B:List Stmt}(hc:QT X c q)(ha:QB X A sa)(hb:QB X B sb):QS X (.If c A B pos) (ztC q sa sb):=⟨ztI hc.o ha.o hb.o⟩
theorem zw(h:QE X e te):QS X (.Return (some e) pos) (zt4 te):=⟨zsj h.o⟩
theorem zdY(he:QE X e te)(hs:autoParam (swapsWith e none pos.line X.env=pure false) y3):QS X (.Expr e pos) (zrB te):=⟨zrq he.o hs⟩
theorem zsR:QS X (.Continue pos) zrM:=⟨zkw⟩
theorem zL(k:Nat)(hN:X.N.Nodup)(he:QE X e te)(hi:autoParam (X.N[k]?=some x) y3)(hx:autoParam (X.env.scope.names.lookup x=some .local) y3)(hs:autoParam (swapsWith e (some (.Name x pos')) pos.line X.env=pure false) y3):
 QS X (.Assign [.Name x pos'] e pos) (zlp te (zb1 k)):=⟨zps hN hi (.inl hx) he.o hs (.inr hx)⟩
theorem ziZ(k:Nat)(hN:X.N.Nodup)(he:QE X e te)(hi:autoParam (X.N[k]?=some x) y3)(hx:autoParam (X.env.scope.names.lookup x=some .cell) y3)(hf:autoParam (X.fn x=true) y3)(hs:autoParam (swapsWith e (some (.Name x pos')) pos.line X.env=pure false) y3):
 QS X (.Assign [.Name x pos'] e pos) (zlp te (zb1 k)):=⟨zps hN hi (.inr hx) he.o hs (.inl hf)⟩
theorem zcz(hp:PassesOwn (model X.prog X.w) X.A X.env X.xe)(hc:X.calm=true)(hi:QI X tg iter wi)(hg:QG X tg g)(hb:QB X body sa)
 (hs:autoParam (∀x,foldedSetIterable iter X.env x=pure x) u5):QS X (.For tg iter body [] pos) (zrO wi g sa):=⟨zq3 hp hc hi.o hg.o hb.o hs⟩
end
section
variable{src:List (Option Nat)}
theorem zaB(ok:CompOk X.N osc N' src scope)(hsc:X.env.scope=osc)(hc:X.calm=true)(hi:QI X tg iter wi)
 (hg:∀cl C s₀ H₀ fp,QG (zx X N' scope cl C s₀ H₀ fp) tg g) (ht:∀cl C s₀ H₀ fp,QF (zx X N' scope cl C s₀ H₀ fp) ifs tc) (he:∀cl C s₀ H₀ fp,QE (zx X N' scope cl C s₀ H₀ fp) elt te)
 (hs:autoParam (∀x,foldedSetIterable iter X.env x=pure x) u5):QE X (.ListComp elt [⟨tg,iter,ifs,0⟩] scope pos) (ziA wi g tc te src):=
 ⟨zrk ok hsc hc hi.o (λcl C s₀ H₀ fp=>(hg cl C s₀ H₀ fp).o) (λcl C s₀ H₀ fp=>(ht cl C s₀ H₀ fp).o) (λcl C s₀ H₀ fp=>(he cl C s₀ H₀ fp).o) hs⟩
end
theorem Fun.okQ{mg:Str->Option Value}{st:Stmt}{ps:List Str}(F:Fun K x qual st f fd)(S:FnScope N ps (zc st))(len:∀vs H Q E,sp vs H Q E->vs.length=ps.length)
 (hbody:∀(cdv:Value) (A:Around) (outer:List Env) (s:Shared) (H:Hp) (vs:List V) (Q:VK) (E:XK),Room k (A.deeper (envOfC qual (zc st) s.heap.objs.size f cdv))->sp vs H Q E->
   ∃t,QB (zlV CX0 P w K mg base N qual (zc st) f cdv A outer s H E).nox (zbg st) t/\t {nx:=λ_ H'=>Q .non H',rt:=Q} (zfP N vs) H):FnOk P w K mg base CX0 (k+1) f fd ps sp:=
 F.ok S len λcdv A outer s H vs Q E hr h=>let ⟨t,a,b⟩:=hbody cdv A outer s H vs Q E hr h;⟨t,a.o,b⟩
theorem zsg{m:Str->Option Value}(hn:h.Ns a m):∃o,h.get? a=some o/\∀v,o.data≠ .cell v:=
 let⟨o,es,ep,e,d,_⟩:=hn;⟨o,e,λv z=>by rw[d] at z;cases z⟩
theorem zqQ{m:Str->Option Value}{o:Obj}(hn:h.Ns a m)(e:h.get? a=some o)(e':h'.get? a=some o):h'.Ns a m:=by
 obtain⟨o',es,ep,e1,r⟩:=hn
 rw[e] at e1
 cases e1
 exact⟨o,es,ep,e',r⟩
section
variable{src:List (Option Nat)}
theorem zly(ok:CompOk X.N osc N' src scope)(hsc:X.env.scope=osc)(hc:X.calm=true)(hi:PI X tg iter wi)
 (hg:∀cl C s₀ H₀ fp,PG (zx X N' scope cl C s₀ H₀ fp) tg g) (ht:∀cl C s₀ H₀ fp,PIf (zx X N' scope cl C s₀ H₀ fp) ifs tc) (he:∀cl C s₀ H₀ fp,PE (zx X N' scope cl C s₀ H₀ fp) elt te)
 (hN:X.N.Nodup) (hk:X.N[k]?=some y) (hx:X.env.scope.names.lookup y=some .local) (hsw:swapsWith (.ListComp elt [⟨tg,iter,ifs,0⟩] scope pos) (some (.Name y py)) spos.line X.env=pure true)
 (hs:autoParam (∀x,foldedSetIterable iter X.env x=pure x) u5):PS X (.Assign [.Name y py] (.ListComp elt [⟨tg,iter,ifs,0⟩] scope pos) spos) (zlp (ziA wi g tc te src) (zb1 k)):=by
 intro pins s σ H D I h
 obtain⟨cl,hcl,c1,c2⟩:=zdv (scope:=scope) (env:=X.env) λy hy hyf=>I.ok.has y.1 (by
  have z:=ok.frees y hy hyf
  rw[←hsc] at z
  exact z)
 rw[exec_Assign_Name_used _ _ _ _ hsw]
 refine A0 (wpAny_standAt (A0 ?_))
 show wpAny _ X.A (do let _ ←comprehension (.ListComp elt [⟨tg,iter,ifs,0⟩] scope pos) scope X.env _ (newList []) false (eval iter X.env) (some (assign (.Name y py) X.env))) _ _ s
 refine A0 (Y1 (wpAny_comprehension_free (use:=some (assign (.Name y py) X.env)) (Q:=λ_ s'=>∃σ' H',Inv X pins σ' H' s'/\D.nx σ' H') rfl hs hcl ok.kind ok.loc
  (thn (hi pins s σ H _ I h) λv s1 h1=>thn h1 λitv s2 h2=>?_)) (λ_ s' hq=>F0 (F0 hq)) λ_ _ e=>e)
 obtain⟨it,fp,tn,J,H2,e,I2,T,st2,f2,q2⟩:=h2
 subst e
 have hlt2:∀b∈fp,b<s2.heap.objs.size:=λb hb=>by
  obtain⟨o,e,_⟩:=T.obj _ _ st2 b hb
  exact P0 e
 refine wpAny_newObj_type ?_
 have hl:H2 s2.heap.objs.size=none:=I2.hok.fresh (K0 _)
 have I3:Inv X pins σ (upd H2 s2.heap.objs.size (.lst [])) {s2 with heap:=s2.heap.push {cls:= .type "list",dict:=none,data:= .seq ([]:List Value).toArray}}:=
  I2.laid (t':=s2.toks) (λb u e=>C0 _ e) (K0 _) ⟨X1 _,[],0, .nil,M0 _ rfl⟩
 obtain⟨W,⟨m0,w0⟩,turn⟩:=q2 _ hl
 generalize hl2:s2.heap.objs.size=l at *
 generalize hs3:({s2 with heap:=s2.heap.push {cls:= .type "list",dict:=none,data:= .seq ([]:List Value).toArray}}:Shared)=s3 at *
 have f3:∀b∈fp,zc4 X pins (upd H2 l (.lst [])) b:=λb hb=>⟨by rw[zn (R1 (hlt2 b hb))];exact(f2 b hb).1,(f2 b hb).2⟩
 have k3:∀b o,s2.heap.get? b=some o->s3.heap.get? b=some o:=λb o e=>by rw[←hs3];exact C0 _ e
 have hlt3:∀b∈fp,b<s3.heap.objs.size:=λb hb=>by
  obtain⟨o,e,_⟩:=T.obj _ _ st2 b hb
  exact P0 (k3 b o e)
 refine wpAny_newFunctionEnv ok.nocell (by intro y hy;simp at hy) (λh₁ hns₁ hsb₁=>?_) ok.kind
 have k4:∀b o,s3.heap.get? b=some o->h₁.get? b=some o:=λb o e=>(hsb₁.2 b (R1 (P0 e))).trans (C0 _ e)
 have J0:=zfc (tk:=s3.toks+([]:List (Str×Value)).length) I3 f3 hlt3 ok hsc c1 c2 hns₁ k4
 have st4:tn 0 h₁:=T.keep _ _ _ st2 λb hb o e=>k4 b o (k3 b o e)
 generalize hC:s3.heap.objs.size=C at *
 have stat:∀{H':Hp},(∀b∈fp,H' b=none)->∀b∈fp,zc4 `j3 [] H' b:=λ{H'} hn b hb=>
  ⟨hn b hb,(J0.ok.exf b hb).1,J0.ok.exfs b hb, .inl hb,(J0.ok.exf b hb).2,λp hp=>absurd (show p∈([]:List (Addr×Obj))from hp) `Z2⟩
 have loop:codeAny (model X.prog X.w) X.A (.compLoop (.ListComp elt [⟨tg,iter,ifs,0⟩] scope pos) 0 (.ref it) (.ref l) (compEnvC scope cl C X.env))
  (compPost (model X.prog X.w) X.A X.xe (some (assign (.Name y py) X.env)) (λ_ s'=>∃σ' H',Inv X pins σ' H' s'/\D.nx σ' H') (.ref l) C) {s3 with heap:=h₁,toks:=s3.toks+([]:List (Str×Value)).length}:=by
  refine zdt (λn s'=>∃i ys σ' H',Inv `j3 [] σ' H' s'/\tn i s'.heap/\(∀b∈fp,H' b=none)/\H' l=some (.lst ys)/\W i n ys σ' H') ?_ m0
   ⟨0,[],_,_,J0,st4,λb hb=>(f3 b hb).1,upd_same,w0⟩
  rintro n s5 ⟨i,ys,σ5,H5,I5,st5,fr5,hl5,w5⟩
  rcases turn i n ys σ5 H5 w5 hl5 with⟨stop,qn⟩|⟨go,N,hN,step⟩
  ·refine thn (T.done `j3 rfl rfl rfl hc i [] s5 σ5 H5 (λ_ _=>False) I5 (stat fr5) st5 stop) λr s6 ⟨hr,I6⟩=>?_
   subst hr
   obtain⟨m,hn,_⟩:=I6.loc
   have hCs:s3.heap.objs.size<=C:=by rw[←hC];exact K0 _
   have I7:Inv X pins σ H5 s6:=ze8 (h':=s6.heap) I3 f3 hCs I6 ⟨rfl,λ_ _=>rfl⟩
   have fC:zc4 X pins H5 C:=I3.fpOk hCs I6.free
   obtain⟨oC,eC,dC⟩:∃o,s6.heap.get? C=some o/\∀v,o.data≠ .cell v:=by
    obtain⟨o,e,d⟩:=zsg hn
    exact⟨o,e,d⟩
   have I8:=I7.pinned (fp:=[C]) (λb hb=>by rw[E1.mp hb];exact fC) (λb hb=>by rw[E1.mp hb];exact⟨oC,eC,dC⟩)
   refine wpAny_assign_Name (zdd (v:= .ref l) I8 hN hk (.inl hx) rfl (λs9 I9=>?_) (.inr hx))
   have p9:=(I9.pin (C,oC) (S0 _ (S0 _ (z6 (E1.mpr rfl) eC)))).1
   refine⟨m,zqQ hn eC p9,λh' hsb=>⟨_,H5,?_,qn⟩⟩
   obtain⟨f0,f1,f2,f3',f4,f5⟩:=fC
   exact I9.unpinned.turned (t':=s9.toks) (λb o hb e=>(hsb.2 b hb).trans e) f0 f1 f3' f4 f5
  ·refine thn (T.item `j3 rfl rfl rfl hc i [] s5 σ5 H5 (λ_ _=>False) I5 (stat fr5) st5 go) λr s6 ⟨u,hr,h6⟩=>?_
   subst hr
   refine thn h6 λ_ s7 zq=>?_
   obtain⟨x,H7,I7,r7,y7,st7,fr7⟩:=zq
   have I7':=I7.pinned (stat fr7) (T.obj _ _ st7)
   refine thn (hg cl C s3 _ fp _ s7 σ5 H7 x u _ I7' r7 (step x H7 y7)) λ_ s8 zq=>?_
   obtain⟨σ8,H8,I8,q8⟩:=zq
   refine thn (ht cl C s3 _ fp _ s8 σ8 H8 _ I8 q8) λb s9 zq=>?_
   obtain⟨H9,I9,q9⟩:=zq
   have back:∀{s':Shared} {H':Hp},Inv `j3 ([]++zb7 fp s7.heap) σ8 H' s'->tn (i+1) s'.heap/\∀b∈fp,H' b=none:=λ{s' H'} I'=>by
    refine⟨T.keep _ _ _ st7 λb hb o e=>(I'.pin (b,o) (S0 _ (S0 _ (z6 hb e)))).1,λb hb=>?_⟩
    obtain⟨o,e,d⟩:=T.obj _ _ st7 b hb
    exact(I'.pin (b,o) (S0 _ (S0 _ (z6 hb e)))).2.1
   cases b with
   |false=>
    obtain⟨hl9,n9⟩:=q9
    obtain⟨m',hm,w9⟩:=hN _ _ _ n9
    obtain⟨t9,fr9⟩:=back I9
    exact⟨m',hm,i+1,ys,σ8,H9,I9.unpinned,t9,fr9,hl9,w9⟩
   |true=>
    refine thn (he cl C s3 _ fp _ s9 σ8 H9 _ I9 q9) λxv s10 zq=>?_
    obtain⟨y,H10,I10,r10,hl10,hz,n10⟩:=zq
    obtain⟨m',hm,w10⟩:=hN _ _ _ n10
    refine thn (zau (X:=zx X N' scope cl C s3 (upd H2 l (.lst [])) fp) _ s10 σ8 H10 (.ref l) [y] (.ref l) [xv] (λv H'=>H'=upd H10 l (.lst (ys ++ [y]))) I10 rfl (.cons r10 .nil) ⟨l,ys,y,rfl,rfl,hl10,hz,rfl⟩) λ_ s11 ⟨_,H11,I11,_,e11⟩=>?_
    subst e11
    obtain⟨t11,fr11⟩:=back I11
    exact⟨m',hm,i+1,ys ++ [y],σ8,_,I11.unpinned,t11,fr11,upd_same,w10⟩
 exact codeAny_compStart_list loop (T.self _ 0 _ _ _ st4 loop)
theorem ziw(k:Nat)(ok:CompOk X.N osc N' src scope)(hsc:X.env.scope=osc)(hc:X.calm=true)(hN:X.N.Nodup)(hi:QI X tg iter wi)
 (hg:∀cl C s₀ H₀ fp,QG (zx X N' scope cl C s₀ H₀ fp) tg g) (ht:∀cl C s₀ H₀ fp,QF (zx X N' scope cl C s₀ H₀ fp) ifs tc) (he:∀cl C s₀ H₀ fp,QE (zx X N' scope cl C s₀ H₀ fp) elt te)
 (hk:autoParam (X.N[k]?=some y) y3) (hx:autoParam (X.env.scope.names.lookup y=some .local) y3) (hsw:autoParam (swapsWith (.ListComp elt [⟨tg,iter,ifs,0⟩] scope pos) (some (.Name y py)) spos.line X.env=pure true) y3)
 (hs:autoParam (∀x,foldedSetIterable iter X.env x=pure x) u5):QS X (.Assign [.Name y py] (.ListComp elt [⟨tg,iter,ifs,0⟩] scope pos) spos) (zlp (ziA wi g tc te src) (zb1 k)):=
 ⟨zly ok hsc hc hi.o (λcl C s₀ H₀ fp=>(hg cl C s₀ H₀ fp).o) (λcl C s₀ H₀ fp=>(ht cl C s₀ H₀ fp).o) (λcl C s₀ H₀ fp=>(he cl C s₀ H₀ fp).o) hN hk hx hsw hs⟩
end
section
variable{o i:Expr}{to:TE}{t:zqe}
theorem zeT(he:QE X e te)(hg:QG X tg g)(hs:autoParam (swapsWithSole [tg] e pos.line X.env=pure false) y3)(hw:autoParam (swappedStores [tg] e X.env=pure none) y3)
 (h1:autoParam ((assignEach [tg] X.env).map (·.2)=[assign tg X.env]) y3):QS X (.Assign [tg] e pos) (zlp te g):=⟨zsA he.o hg.o hs hw h1⟩
theorem zof(ho:QE X o to)(hi:QE X i ti)(hs:zr8 X t)(ha:autoParam (∀v,assign (.Subscript o i pos) X.env v=(do
 let ov ←holding [v] (eval o X.env)
 let iv ←holding [v,ov] (eval i X.env)
 standAt pos
 holding [v,ov,iv] (setItem ov iv v)
 release [v,ov,iv] [])) u5):QG X (.Subscript o i pos) (ztm to ti t):=⟨zsf ho.o hi.o hs ha⟩
theorem zmZ(k:Nat)(hN:X.N.Nodup)(hi:autoParam (X.N[k]?=some x) y3)(hx:autoParam (X.env.scope.names.lookup x=some .cell) y3)(hf:autoParam (X.fn x=true) y3):QG X (.Name x pos) (zb1 k):=⟨zmU hN hi (.inr hx) (.inl hf)⟩
end
theorem zjC(bs:List Bool):(List.range bs.length).any (λj=>match bs[j]? with|some b=>b|none=>false)=bs.any id:=by
 rw[Bool.eq_iff_iff,List.any_eq_true,List.any_eq_true]
 constructor
 ·rintro ⟨j,hj,h⟩
  have hj':j<bs.length:=C2.mp hj
  refine⟨bs[j],List.getElem_mem hj',?_⟩
  simpa[hj'] using h
 ·rintro ⟨b,hb,h⟩
  obtain⟨j,hj,e⟩:=List.getElem_of_mem hb
  exact⟨j,C2.mpr hj,by simp[hj,e];simpa using h⟩
noncomputable def atA(bs:List Bool)(j:Nat):Bool:=match bs[j]? with|some b=>b|none=>false
theorem znQ(hc:X.calm=true):CallR X (.builtin "any") (λxs H Q=>∃(p:Addr) (bs:List Bool),xs=[.ref p]/\SqL X.K H p (bs.map V.bl)/\Q (.bl (bs.any id)) H):=by
 intro pins s σ H xs us Q I r h
 obtain⟨p,bs,rfl,hq,q⟩:=h
 obtain⟨u,rfl,ru⟩:=zbq r
 cases ru
 obtain⟨its,rv,pl,hz⟩:=I.list hq
 have hp:p≠s.heap.objs.size:=R1 pl.lt
 refine call_any_walk (wpAny_pyIter_list pl.isList ?_)
 refine⟨s.heap.objs.size,_,_,_,_,_,atA bs,rfl,Walks.list (A:=X.A.in1) (show X.A.in1.handled=none from I.ok.hd hc) _ p hp its.toArray,⟨⟨_,M0 _ rfl,rfl,rfl⟩,?_⟩,?_,λh' tk hk=>?_⟩
 ·obtain ⟨o,n,e,c,_,d⟩:=pl
  exact⟨o,C0 _ e,c,n,d⟩
 ·intro i v s' Q' E' hP hQ
  obtain⟨b,h1,rfl⟩:=zi0 (i:=i) (v:=v) rv (by simpa using hP)
  refine wpAny_truthy_bool ?_
  have e:atA bs i=b:=by unfold atA;rw[h1]
  rw[e] at hQ
  exact hQ
 ·have hl:its.toArray.size=bs.length:=by
   have:=rv.length
   simp at this
   simp[this]
  have hq':(List.range its.toArray.size).any (atA bs)=bs.any id:=by rw[hl];exact zjC bs
  rw[hq']
  refine⟨.bl (bs.any id),H,I.kept λb o e=>hk b o ?_ (C0 _ e),rfl,q⟩
  intro z
  have:b=s.heap.objs.size:=by simpa using z
  exact absurd (P0 e) (by rw[this];exact Z1 _)
noncomputable def zt8(t u:TS):TS:=λD σ H=>∃R:St->Hp->Prop,t {D with nx:=R} σ H/\∀σ' H',R σ' H'->u D σ' H'
theorem zka{st:Stmt}(h1:QS X st sa)(h2:QB X sts sb):QB X (st::sts) (zt8 sa sb):=by
 refine⟨λpins s σ H D I h=>?_⟩
 obtain⟨R,ha,hb⟩:=h
 have h3:PSs X sts (λD' σ' H'=>D'=D/\R σ' H'):=λpins s σ' H' D' I h=>by
  obtain⟨rfl,hR⟩:=h
  exact h2.o pins s σ' H' D' I (hb σ' H' hR)
 have e:(λσ' H'=>D=D/\R σ' H')=R:=by
  funext σ' H'
  simp
 refine zkp h1.o h3 pins s σ H D I ?_
 show sa {D with nx:=λσ' H'=>D=D/\R σ' H'} σ H
 rw[e]
 exact ha
theorem zpO(z:Str):zhq z 1=z:=by
 unfold zhq
 simp
theorem zkG:OpR X (binaryOp .Mult) (λx y H Q=>∃z n,x= .str z/\y= .int n/\1<=n/\n<=1000/\0<z.length/\z.length<=1000/\Q (.str (zhq z n.toNat)) H):=by
 intro pins s σ H x y v u Q I rx ry h
 obtain⟨z,n,rfl,rfl,h1,h2,h3,h4,q⟩:=h
 by_cases h:1<n
 ·exact zlQ pins s σ H _ _ v u Q I rx ry ⟨z,n,rfl,rfl,h,h2,h3,h4,q⟩
 ·have e:n=1:=()
  subst e
  obtain⟨t,rfl⟩:=rx
  obtain⟨t',rfl⟩:=ry
  refine P.mul_str ⋯ (λ_ z=>by simp at z) (λ_ z=>by simp at z) ?_
  simp only[show¬(1:Int)<1 by decide,if_false,beq_self_eq_true,Bool.true_or,if_true]
  refine⟨.str _,H,I,⟨_,rfl⟩,?_⟩
  have e:zhq z (1:Int).toNat=z:=zpO z
  rw[e] at q
  exact q
theorem zmm(h:X.K=K):IxR X (zr5 K):=by subst h;exact zR
theorem zhN(h:X.K=K):CallR X (.type "tuple") (λxs H Q=>∃p ys,xs=[.ref p]/\((SqL K H p ys/\∀l,H l=none->Q (.ref l) (upd H l (.tup ys)))\/(SqT K H p ys/\Q (.ref p) H))):=by subst h;exact zC
theorem zH:CallR X (.builtin "len") (λxs H Q=>(∃p ys,xs=[.ref p]/\(SqL X.K H p ys\/SqT X.K H p ys)/\Q (.int ys.length) H)\/∃z,xs=[.str z]/\z.length<=sizeLine/\Q (.int z.length) H):=zjx.or zjB
theorem zd3(n:Nat)(hK:X.K=K)(hc:X.calm=true)(h:QGs X es tgs)(hn:autoParam ((assignEach es X.env).length=n) y3)(hst:autoParam ((assignEach es X.env).findIdx? (·.1)=none) y3):QG X (.Tuple es k pos) (zs3 K n tgs):=by subst hK;exact zdi n hc h hn hst
noncomputable def zaM(c:Nat):Bool:=decide (97<=c)&&decide (c<=122)
noncomputable def zoG:List Str:=["if","and","not","never"]
noncomputable def zm(x:Str):Bool:=decide (1<=x.length)&&decide (x.length<=8)&&x.cps.toList.all zaM&&!(zoG.any λy=>decide (y=x))
def Hand(H:Hp)(a:Addr)(n:Int):Prop:=∃x m t:Int,H a=some (.lst [.int x, .int m, .int t])/\0<=m/\m<2^63/\0<=t/\t<=n
def Keep(a:Addr)(H H':Hp):Prop:=∀b o,b≠a->H b=some o->H' b=some o
theorem Keep.trans(x:Keep a H H1)(y:Keep a H1 H2):Keep a H H2:=λb o n h=>y b o n (x b o n h)
theorem Keep.upd(a:Addr)(H:Hp)(o:HO):Keep a H (L2.upd H a o):=λb u n h=>by rw[zn n];exact h
theorem Keep.new{o:HO}(h:H p=none):Keep a H (L2.upd H p o):=λb u n e=>by rw[zn (zB e h)];exact e
theorem Keep.of(h:Same H H'):Keep a H H':=λb o _ e=>h b o e
theorem Hand.ne{n:Int}(h:Hand H a n)(e:H p=none):p≠a:=by
 obtain⟨x,m,t,h,_⟩:=h
 exact λz=>by rw[z,h] at e;cases e
theorem Hand.new{n:Int}{o:HO}(h:Hand H a n)(e:H p=none):Hand (upd H p o) a n:=by
 have ne:=h.ne e
 obtain⟨x,m,t,h,r⟩:=h
 exact⟨x,m,t,by rw[zn (Ne.symm ne)];exact h,r⟩
theorem Hand.same{n:Int}(h:Hand H a n)(s:Same H H'):Hand H' a n:=by
 obtain⟨x,m,t,h,r⟩:=h
 exact⟨x,m,t,s _ _ h,r⟩
theorem Hand.mono{n n':Int}(h:Hand H a n)(l:n<=n'):Hand H a n':=by
 obtain⟨x,m,t,h,h1,h2,h3,h4⟩:=h
 exact⟨x,m,t,h,h1,h2,h3,()⟩
theorem Keep.sqL{b:Addr}(k:Keep a H H')(n:b≠a)(h:SqL K H b xs):SqL K H' b xs:=by
 rcases h with(h|⟨o,h⟩)|h
 ·exact .inl (.inl (k _ _ n h))
 ·exact .inl (.inr ⟨o,k _ _ n h⟩)
 ·exact .inr h
theorem Hand.updNe{n:Int}{o:HO}(h:Hand H a n)(e:p≠a):Hand (upd H p o) a n:=by
 obtain⟨x,m,t,h,r⟩:=h
 exact⟨x,m,t,by rw[zn (Ne.symm e)];exact h,r⟩
theorem Keep.updNew{o:HO}(k:Keep a H H')(e:H p=none):Keep a H (L2.upd H' p o):=λb u n h=>by
 rw[zn (zB h e)]
 exact k b u n h
noncomputable def zbW:Str:="abcdefghijklmnopqrstuvwxyz"
noncomputable def one(c:Nat):Str:=⟨#[c]⟩
theorem Same.new{o:HO}(h:H p=none):Same H (upd H p o):=λb u e=>by rw[zn (zB e h)];exact e
structure At(K:W.Frag)(mg:Str->Option Value)(x:Str)(st:Stmt)(ps:List Str)(f:Addr)(fd:FuncData):Prop where
 fn:Fun K x x st f fd
 b:Binds K fd ps []
 mg:mg x=some (.ref f)
 kp:W.keepIn K (.ref f)=true
theorem zgS{xs:List α}{d:Int}(h0:0<=d)(h1:d<xs.length):∃v,atI xs d=some v/\v∈xs:=by
 obtain⟨k,rfl⟩:∃k:Nat,d=(k:Int):=⟨d.toNat,()⟩
 have hk:k<xs.length:=()
 exact⟨xs[k],zbi (by simp[hk]),List.getElem_mem hk⟩
theorem at0{x:α}{xs:List α}:atI (x::xs) 0=some x:=zbi (j:=0) rfl
theorem at1{x y:α}{xs:List α}:atI (x::y::xs) 1=some y:=zbi (j:=1) rfl
theorem tru{b:Bool}(h:¬b=true):b=false:=by simpa using h
inductive D where
 |non|bl (b:Bool)|int (i:Int)|str (x:Str)|tup (ds:List D)|oth
variable{ds lks hds cs:List D}{d:D}{Pd:Nat->D->Prop}{rs:List ((Int×Int)×D)}
inductive Rep(H:Hp):V->D->Prop where
 |non:Rep H .non .non
 |bl (b:Bool):Rep H (.bl b) (.bl b)
 |int (i:Int):Rep H (.int i) (.int i)
 |str (x:Str) (h:x.length<=1000):Rep H (.str x) (.str x)
 |tup {p:Addr} {vs:List V} {ds:List D} (h:H p=some (.tup vs)) (l:vs.length=ds.length) (b:ds.length<=1000) (r:∀(i:Nat) (v:V) (d:D),vs[i]?=some v->ds[i]?=some d->Rep H v d):Rep H (.ref p) (.tup ds)
 |lst {p:Addr} {vs:List V} (h:H p=some (.lst vs)):Rep H (.ref p) .oth
 |dK {p:Addr} {kvs:List (Key×V)} (h:H p=some (.dK kvs)):Rep H (.ref p) .oth
structure Mono(H H':Hp):Prop where
 tup:∀p xs,H p=some (.tup xs)->H' p=some (.tup xs)
 lst:∀p xs,H p=some (.lst xs)->∃ys,H' p=some (.lst ys)
 dK:∀p xs,H p=some (.dK xs)->∃ys,H' p=some (.dK ys)
theorem Mono.trans(a:Mono H H1)(b:Mono H1 H2):Mono H H2:=⟨λp xs h=>b.tup p xs (a.tup p xs h),λp xs h=>let ⟨ys,e⟩:=a.lst p xs h;b.lst p ys e,λp xs h=>let ⟨ys,e⟩:=a.dK p xs h;b.dK p ys e⟩
theorem Mono.of(s:Same H H'):Mono H H':=⟨λp xs h=>s _ _ h,λp xs h=>⟨xs,s _ _ h⟩,λp xs h=>⟨xs,s _ _ h⟩⟩
theorem Mono.new{o:HO}(h:H p=none):Mono H (upd H p o):= .of (Same.new h)
theorem Mono.lset(h:H p=some (.lst xs)):Mono H (upd H p (.lst ys)):=by
 refine⟨λq zs e=>?_,λq zs e=>?_,λq zs e=>?_⟩
 ·by_cases hq:q=p
  ·subst hq;rw[h] at e;cases e
  ·rw[zn hq];exact e
 ·by_cases hq:q=p
  ·subst hq;exact⟨ys,upd_same⟩
  ·rw[zn hq];exact⟨zs,e⟩
 ·by_cases hq:q=p
  ·subst hq;rw[h] at e;cases e
  ·rw[zn hq];exact⟨zs,e⟩
theorem Mono.keep{n m:Int}(k:Keep a H H')(h:Hand H a n)(h':Hand H' a m):Mono H H':=by
 obtain⟨x,y,z,h,_⟩:=h
 obtain⟨x',y',z',h',_⟩:=h'
 refine⟨λq zs e=>?_,λq zs e=>?_,λq zs e=>?_⟩
 ·exact k q _ (λhq=>by subst hq;rw[h] at e;cases e) e
 ·by_cases hq:q=a
  ·subst hq;exact⟨_,h'⟩
  ·exact ⟨zs,k q _ hq e⟩
 ·exact ⟨zs,k q _ (λhq=>by subst hq;rw[h] at e;cases e) e⟩
theorem Rep.mono(h:Rep H v d)(m:Mono H H'):Rep H' v d:=by
 induction h with
 |non=>exact .non
 |bl b=>exact .bl b
 |int i=>exact .int i
 |str x h=>exact .str x h
 |tup h l b _ ih=>exact .tup (m.tup _ _ h) l b ih
 |lst h=>obtain ⟨ys,e⟩:=m.lst _ _ h;exact .lst e
 |dK h=>obtain ⟨ys,e⟩:=m.dK _ _ h;exact .dK e
theorem Rep.same(h:Rep H v d)(s:Same H H'):Rep H' v d:=h.mono (.of s)
def RepL(H:Hp)(vs:List V)(ds:List D):Prop:=vs.length=ds.length/\∀(i:Nat) (v:V) (d:D),vs[i]?=some v->ds[i]?=some d->Rep H v d
theorem RepL.nil:RepL H [] []:=⟨rfl,λi v d e=>by simp at e⟩
theorem RepL.cons{H:Hp}{v:V}{d:D}{vs:List V}{ds:List D}(h:Rep H v d)(r:RepL H vs ds):RepL H (v::vs) (d::ds):=by
 refine⟨by simp[r.1],λi w e h1 h2=>?_⟩
 cases i with
 |zero=>simp at h1 h2;subst h1;subst h2;exact h
 |succ i=>exact r.2 i w e (by simpa using h1) (by simpa using h2)
theorem RepL.head(r:RepL H (v::vs) (d::ds)):Rep H v d/\RepL H vs ds:=
 ⟨r.2 0 v d rfl rfl,by have:=r.1;simp at this;exact this,λi w e h1 h2=>r.2 (i+1) w e (by simpa using h1) (by simpa using h2)⟩
theorem RepL.mono(r:RepL H vs ds)(m:Mono H H'):RepL H' vs ds:=⟨r.1,λi v d h1 h2=>(r.2 i v d h1 h2).mono m⟩
theorem RepL.append{us:List V}{es:List D}(r:RepL H vs ds)(q:RepL H us es):RepL H (vs ++us) (ds ++es):=by
 refine⟨by rw[O0,O0,r.1,q.1],λi v d h1 h2=>?_⟩
 by_cases hi:i<vs.length
 ·rw[K2 hi] at h1
  rw[K2 (by rw[←r.1];exact hi)] at h2
  exact r.2 i v d h1 h2
 ·rw[E2 ()] at h1
  rw[E2 (by rw[←r.1];lia),←r.1] at h2
  exact q.2 _ v d h1 h2
theorem RepL.drop(r:RepL H vs ds)(n:Nat):RepL H (vs.drop n) (ds.drop n):=by
 refine⟨by rw[List.length_drop,List.length_drop,r.1],λi v d h1 h2=>?_⟩
 rw[List.getElem?_drop] at h1 h2
 exact r.2 _ v d h1 h2
theorem RepL.get(r:RepL H vs ds)(h:vs[i]?=some v):∃d,ds[i]?=some d/\Rep H v d:=by
 have hi:i<vs.length:=by
  rcases A2 i vs.length with q|q
  ·exact q
  ·rw[X0 q] at h;cases h
 have hd:i<ds.length:=by rw[←r.1];exact hi
 exact⟨ds[i],by simp[hd],r.2 i v _ h (by simp[hd])⟩
theorem Rep.mkL(h:H p=some (.tup vs))(b:ds.length<=1000)(r:RepL H vs ds):Rep H (.ref p) (.tup ds):= .tup h r.1 b r.2
theorem Rep.ofT(h:Rep H v (.tup ds)):∃p vs,v= .ref p/\H p=some (.tup vs)/\RepL H vs ds/\ds.length<=1000:=by
 cases h with
 |tup h l b r=>exact ⟨_,_,rfl,h,⟨l,r⟩,b⟩
theorem Rep.of1(h:Rep H v (.tup [d])):∃p x,v= .ref p/\H p=some (.tup [x])/\Rep H x d:=by
 obtain⟨p,vs,rfl,hp,r,_⟩:=h.ofT
 match vs,r with
 |[x],r=>exact ⟨p,x,rfl,hp,r.head.1⟩
 |[],r=>exact absurd r.1 `Z2
 |_::_::_,r=>exact absurd r.1 `Z2
theorem Rep.of2{e:D}(h:Rep H v (.tup [d,e])):∃p x y,v= .ref p/\H p=some (.tup [x,y])/\Rep H x d/\Rep H y e:=by
 obtain⟨p,vs,rfl,hp,r,_⟩:=h.ofT
 match vs,r with
 |[x,y],r=>exact ⟨p,x,y,rfl,hp,r.head.1,r.head.2.head.1⟩
 |[],r=>exact absurd r.1 `Z2
 |[_],r=>exact absurd r.1 `Z2
 |_::_::_::_,r=>exact absurd r.1 `Z2
theorem Rep.mk1{x:V}(h:H p=some (.tup [x]))(a:Rep H x d):Rep H (.ref p) (.tup [d]):= .mkL h `Z2 (.cons a .nil)
theorem Rep.mk2{x y:V}{e:D}(h:H p=some (.tup [x,y]))(a:Rep H x d)(b:Rep H y e):Rep H (.ref p) (.tup [d,e]):= .mkL h `Z2 (.cons a (.cons b .nil))
noncomputable def zsO:D->Bool| .tup _=>true|_=>false
noncomputable def zsV:D->Bool| .int _=>true| .bl _=>true|_=>false
noncomputable def ztg:D->Bool| .bl _=>true|_=>false
noncomputable def zsy:D->Bool| .str _=>true|_=>false
theorem Rep.isi(h:Rep H v d):∃t,TyOf K H v t/\W.kitOne K t (.type "tuple")=some (zsO d)/\W.kitOne K t (.type "int")=some (zsV d)/\W.kitOne K t (.type "bool")=some (ztg d)/\W.kitOne K t (.type "str")=some (zsy d):=by
 cases h with
 |non=>exact ⟨_, .non,rfl,rfl,rfl,rfl⟩
 |bl b=>exact ⟨_, .bl b,rfl,rfl,rfl,rfl⟩
 |int i=>exact ⟨_, .int i,rfl,rfl,rfl,rfl⟩
 |str x _=>exact ⟨_, .str x,rfl,rfl,rfl,rfl⟩
 |tup h _ _ _=>exact ⟨_, .tup h,rfl,rfl,rfl,rfl⟩
 |lst h=>exact ⟨_, .lst h,rfl,rfl,rfl,rfl⟩
 |dK h=>exact ⟨_, .dK h,rfl,rfl,rfl,rfl⟩
noncomputable def zom:D->Bool| .int _=>true|_=>false
noncomputable def zcs(d:D)(lo hi:Int):Bool:=match d with| .int i=>decide (lo<=i)&&decide (i<=hi)|_=>false
noncomputable def zW(d:D)(lo hi:Int):Bool:=match d with| .tup ds=>decide (lo<=(ds.length:Int))&&decide ((ds.length:Int)<=hi)|_=>false
noncomputable def zcr:D->Bool| .tup (.str _::_)=>true|_=>false
noncomputable def z9(d:D)(n:Int):Bool:=zW d n n&&zcr d
noncomputable def zD:D->Bool| .str x=>zm x|_=>false
noncomputable def zbD:List Str:=["by","from","to","mark"]
noncomputable def zt:D->Bool
 | .tup [.str w,x]=>if w="long"then zcs x 0 99 else(zbD.any λy=>decide (y=w))&&zD x
 |_=>false
noncomputable def zo(d:D):Bool:=match d with
 | .tup [.str w,x]=>if w="not"then zt x else zt d
 |_=>false
noncomputable def zad:D->Bool| .tup ds=>decide (ds.length<=4)&&ds.all zo|_=>false
noncomputable def zem:D->Bool| .tup [.str w,_]=>decide (w="to")|_=>false
noncomputable def zcy:D->Bool| .tup [.str w,x]=>if w="not"then zem x else decide (w="to")|_=>false
noncomputable def zT:D->Bool| .non=>true|d=>zcs d (-999) 999
noncomputable def zfE:D->Bool| .tup ds=>ds.any zcy|_=>false
noncomputable def z7:D->Bool| .tup [c,x]=>zad c&&zT x&&!zfE c|_=>false
noncomputable def zZ:D->Bool
 | .tup [.str w]=>decide (w="keep")
 | .tup [.str w,x]=>(decide (w="put")||decide (w="strike"))&&zD x
 |_=>false
noncomputable def zaG:D->Bool| .tup [c,x]=>zad c&&zZ x|_=>false
theorem zuo(c:Nat):decide (({cps:= #[c]}:Str).cps.toList<(Str.ofString "a").cps.toList)=decide (c<97):=by
 have e:(Str.ofString "a").cps.toList=[97]:=`Y2
 rw[e]
 show decide ([c]< [97])=_
 by_cases h:c<97
 ·rw[D0 h]
  exact D0 (List.cons_lt_cons_iff.mpr (.inl h))
 ·rw[G0 h]
  refine G0 λz=>?_
  rcases List.cons_lt_cons_iff.mp z with q|⟨_,q⟩
  ·exact h q
  ·exact absurd q `Z2
theorem zur(c:Nat):decide ((Str.ofString "z").cps.toList<({cps:= #[c]}:Str).cps.toList)=decide (122<c):=by
 have e:(Str.ofString "z").cps.toList=[122]:=`Y2
 rw[e]
 show decide ([122]< [c])=_
 by_cases h:122<c
 ·rw[D0 h]
  exact D0 (List.cons_lt_cons_iff.mpr (.inl h))
 ·rw[G0 h]
  refine G0 λz=>?_
  rcases List.cons_lt_cons_iff.mp z with q|⟨_,q⟩
  ·exact h q
  ·exact absurd q `Z2
theorem zcB{w:Str}{x:D}:zt (.tup [.str w,x])=if w="long"then zcs x 0 99 else(zbD.any λy=>decide (y=w))&&zD x:=rfl
theorem zaE{w:Str}{x:D}:zo (.tup [.str w,x])=if w="not"then zt x else zt (.tup [.str w,x]):=rfl
theorem zep:zad (.tup ds)=(decide (ds.length<=4)&&ds.all zo):=rfl
theorem zes{c x:D}:z7 (.tup [c,x])=(zad c&&zT x&&!zfE c):=rfl
theorem zjt{c x:D}:zaG (.tup [c,x])=(zad c&&zZ x):=rfl
theorem zl8{w:Str}{x:D}:zZ (.tup [.str w,x])=((decide (w="put")||decide (w="strike"))&&zD x):=rfl
theorem zbx:zD (.str x)=zm x:=rfl
theorem zg8:decide (V.str x=V.str y)=decide (x=y):=by
 by_cases h:x=y
 ·subst h;rw[D0 rfl,D0 rfl]
 ·rw[G0 h,G0 λz=>h (V.str.inj z)]
theorem zq8(h:zW d 2 2=true):∃a b,d= .tup [a,b]:=by
 cases d with
 |tup ds=>
  have hl:ds.length=2:=by
   simp[zW] at h
   lia
  match ds,hl with
  |[a,b],_=>exact ⟨a,b,rfl⟩
 |_=>cases h
theorem zjz(h:z9 d 2=true):∃x e,d= .tup [.str x,e]:=by
 unfold z9 at h
 rw[R0] at h
 obtain⟨a,b,rfl⟩:=zq8 h.1
 cases a with
 |str x=>exact ⟨x,b,rfl⟩
 |_=>exact absurd h.2 (by simp[zcr])
theorem zrn(h:z9 d 1=true):∃x,d= .tup [.str x]:=by
 unfold z9 at h
 rw[R0] at h
 cases d with
 |tup ds=>
  have hl:ds.length=1:=by
   have:=h.1
   simp[zW] at this
   lia
  match ds,hl with
  |[.str x],_=>exact ⟨x,rfl⟩
  |[.non],_=>exact absurd h.2 (by simp[zcr])
  |[.bl _],_=>exact absurd h.2 (by simp[zcr])
  |[.int _],_=>exact absurd h.2 (by simp[zcr])
  |[.tup _],_=>exact absurd h.2 (by simp[zcr])
  |[.oth],_=>exact absurd h.2 (by simp[zcr])
 |_=>cases h.1
theorem zO(d:D)(h:zt d=true):∃x e,d= .tup [.str x,e]:=by
 unfold zt at h
 split at h
 ·exact ⟨_,_,rfl⟩
 ·cases h
theorem zai(d:D)(h:zo d=true):∃x e,d= .tup [.str x,e]:=by
 unfold zo at h
 split at h
 ·exact ⟨_,_,rfl⟩
 ·cases h
theorem ziU{e:D}:z9 (.tup [.str x,e]) 2=true:=rfl
theorem zj2(h:z9 d 2=false):zt d=false:=by
 cases hp:zt d with
 |false=>rfl
 |true=>
  obtain⟨x,e,rfl⟩:=zO d hp
  rw[ziU] at h;cases h
theorem zqN(h:z9 d 2=false):zo d=false:=by
 cases hp:zo d with
 |false=>rfl
 |true=>
  obtain⟨x,e,rfl⟩:=zai d hp
  rw[ziU] at h;cases h
theorem ziC:(zbD.any λy=>decide (y=x))=(if false=true then !inV (.str x) [.str "by", .str "from", .str "to", .str "mark"] else inV (.str x) [.str "by", .str "from", .str "to", .str "mark"]):=by
 show _=inV (.str x) (zbD.map V.str)
 unfold inV
 rw[List.any_map]
 rfl
theorem zr3:inV (V.str x) [V.str "put",V.str "strike"]=(decide (x="put")||decide (x="strike")):=by
 have:inV (V.str x) [V.str "put",V.str "strike"]=(decide (("put":Str)=x)||(decide (("strike":Str)=x)||false)):=rfl
 rw[this,Bool.or_false]
 congr 1<;>(rw[Bool.eq_iff_iff,decide_eq_true_iff,decide_eq_true_iff];exact eq_comm)
theorem zcp{e:D}:zt (.tup [.str "not",e])=false:=by
 have h1:¬("not":Str)="long":=`Y2
 have h2:(zbD.any λy=>decide (y=("not":Str)))=false:=`Y2
 rw[zcB,V0 h1,h2];rfl
theorem zm5(h:zW d 2 2=false):z7 d=false:=by
 unfold z7
 split
 ·simp[zW] at h
 ·rfl
theorem zqb(h:zW d 2 2=false):zaG d=false:=by
 unfold zaG
 split
 ·simp[zW] at h
 ·rfl
theorem zsw(h1:z9 d 1=false)(h2:z9 d 2=false):zZ d=false:=by
 unfold zZ
 split
 ·cases h1
 ·cases h2
 ·rfl
theorem za3{ds:List α}{g:α->Bool}:(ds.map g).all id=ds.all g:=by rw[List.all_map];rfl
noncomputable def zae(g:D->Bool):Sp:=λvs H Q _=>∃v d,vs=[v]/\Rep H v d/\∀H',Same H H'->Q (.bl (g d)) H'
theorem zhJ:za0 xs none (some (n:Int))=xs.take n:=by
 unfold za0
 have e1:sIx xs.length 0 none=0:=rfl
 have e2:sIx xs.length xs.length (some (n:Int))=min n xs.length:=by
  unfold sIx
  have h:¬(n:Int)<0:=()
  simp only[V0 h,Q2]
 rw[e1,e2,List.drop_zero,Nat.sub_zero,List.take_eq_take_iff]
 lia
theorem zrr{m:Nat}:za0 xs (some (m:Int)) (some (n:Int))=(xs.drop (min m xs.length)).take (min n xs.length -min m xs.length):=by
 unfold za0
 have e:∀d (n:Nat),sIx xs.length d (some (n:Int))=min n xs.length:=λd n=>by
  unfold sIx
  have h:¬(n:Int)<0:=()
  simp only[V0 h,Q2]
 rw[e,e]
theorem zmb{N:Nat}{m c:Int}{src:List (Option Nat)}{Q:VK}(hs:zdy src σ=none::σr)(hH:Hand H a m)(hN:N<=900)(hc:0<=c)
 (he:∀(i:Nat) (H1:Hp) (Q1:VK),i<N->Hand H1 a (m+c*i)->Keep a H H1->(∀v d H2,Rep H2 v d->Pd i d->Hand H2 a (m+c*i+c)->Keep a H1 H2->Q1 v H2)->te (some (.int (i:Int))::σr) H1 Q1)
 (q:∀l vs ds H',H l=none->H' l=some (.lst vs)->RepL H' vs ds->ds.length=N->(∀i d,ds[i]?=some d->Pd i d)->Hand H' a (m+c*N)->Keep a H H'->Q (.ref l) H'):zdx (zb1 0) znO te src σ Q (Itr 0 N) H:=by
 refine zaD zc9 (λl i ys σ' H'=>(∃o,σ'=o::σr)/\(∃ds:List D,RepL H' ys ds/\ds.length=i/\∀j d,ds[j]?=some d->Pd j d)/\Hand H' a (m+c*i)/\Keep a H H') ?_ (λ_ _ _ _ _ _ _=>trivial) ?_ ?_
 ·exact λl hl=>⟨⟨_,hs⟩,⟨[],RepL.nil,rfl,λj d z=>by simp at z⟩,(hH.new hl).mono `Z2,Keep.new hl⟩
 ·rintro l i y ys σ' H1 hl hi rfl ⟨⟨o,rfl⟩,⟨ds,hr,hl2,hp⟩,hH1,k1⟩ hl'
  have nl:=hH.ne hl
  rw[Int.zero_add]
  refine he i H1 _ hi hH1 k1 λv d H2 rv pd hH2 k2=>?_
  have hl2':H2 l=some (.lst ys):=k2 _ _ nl hl'
  have m2:Mono H1 H2:=Mono.keep k2 hH1 hH2
  have m3:Mono H2 (upd H2 l (.lst (ys ++ [v]))):=Mono.lset hl2'
  refine⟨hl2',?_,⟨_,rfl⟩,⟨ds ++ [d],((hr.mono m2).append (.cons rv .nil)).mono m3,?_,?_⟩,(hH2.updNe nl).mono ?_,(k1.trans k2).updNew hl⟩
  ·have:=hr.1
   exact zE ()
  ·rw[O0,hl2];rfl
  ·intro j e he
   by_cases hj:j<ds.length
   ·rw[K2 hj] at he
    exact hp j e he
   ·rw[E2 ()] at he
    have hj2:j=ds.length:=by
     rcases A2 ds.length j with z|z
     ·rw[X0 (by simp;lia)] at he;cases he
     ·lia
    subst hj2
    simp at he
    subst he
    rw[hl2];exact pd
  ·rw[show((i+1:Nat):Int)=(i:Int)+1 by lia,Int.mul_add,Int.mul_one]
   lia
 ·rintro l ys σ' H1 hl ⟨⟨o,rfl⟩,⟨ds,hr,hl2,hp⟩,hH1,k1⟩ hl'
  exact q l ys ds H1 hl hl' hr hl2 hp hH1 k1
theorem zaY{g:D->Bool}{ok:Hp->Prop}{src:List (Option Nat)}{Q:VK}(wk:Wk J vs.length (λi x=>vs[i]?=some x) ok)(hok:∀H',Same H H'->ok H')(r:RepL H vs ds)(hl:ds.length<=1000)(e:zdy src σ=[none])
 (he:∀(x:V) (d:D) (H1:Hp) (Q1:VK),Same H H1->Rep H1 x d->d∈ds->(∀H2,Same H1 H2->Q1 (.bl (g d)) H2)->te [some x] H1 Q1)
 (q:∀l H',Same H H'->H l=none->H' l=some (.lst ((ds.map g).map V.bl))->Q (.ref l) H'):zdx (zb1 0) znO te src σ Q J H:=by
 refine zaD wk (λl i ys σ' H'=>(∃o,σ'=[o])/\ys=((ds.take i).map g).map V.bl/\Same H H') ?_ ?_ ?_ ?_
 ·exact λl h'=>⟨⟨none,e⟩,rfl,Same.new h'⟩
 ·exact λl i ys σ' H' _ p=>hok H' p.2.2
 ·rintro l i y ys σ' H1 h' hi hy ⟨⟨o,rfl⟩,rfl,s1⟩ hl'
  obtain⟨d,hd,rd⟩:=r.get hy
  refine he y d H1 _ s1 (rd.same s1) (L0 hd) λH2 s2=>?_
  refine⟨s2 _ _ hl',?_,⟨_,rfl⟩,?_,?_⟩
  ·rw[B0,B0,K1]
   exact zE ()
  ·rw[N1,hd]
   simp
  ·exact λc o e=>by
    rw[zn (zB e h')]
    exact s2 _ _ (s1 _ _ e)
 ·rintro l ys σ' H1 h' ⟨⟨o,rfl⟩,rfl,s1⟩ hl'
  rw[r.1,B2] at hl'
  exact q l H1 s1 h' hl'
section
open Sem (wp)
open MeetsSeq MeetsSeq2 MeetsSeq3 Builtin
end
def Dsp(te:TE)(σ:St)(H:Hp)(d:D):Prop:=∀(H1:Hp) (Q:VK),Same H H1->(∀v H2,Same H1 H2->Rep H2 v d->Q v H2)->te σ H1 Q
def zqw(ta:TA)(σ:St)(H:Hp)(ds:List D):Prop:=∀(H1:Hp) (Q:List V->Hp->Prop),Same H H1->(∀vs H2,Same H1 H2->RepL H2 vs ds->Q vs H2)->ta σ H1 Q
def ztZ(te:TE)(σ:St)(H:Hp)(ds:List D):Prop:=∀(H1:Hp) (Q:VK),Same H H1->(∀l vs H2,Same H1 H2->H2 l=some (.lst vs)->RepL H2 vs ds->Q (.ref l) H2)->te σ H1 Q
section
variable{es:List D}
theorem zqa{i:Int}:Dsp (tC (.int i)) σ H (.int i):=λH1 Q s q=>q _ H1 (Same.refl _) (.int i)
theorem zqY:Dsp (tC .non) σ H .non:=λH1 Q s q=>q _ H1 (Same.refl _) .non
theorem zqB{i:Int}:Dsp (tUn (rU λi=> .int (-i)) (tC (.int i))) σ H (.int (-i)):=λH1 Q s q=>⟨i,rfl,q _ H1 (Same.refl _) (.int (-i))⟩
theorem zoU:zqw zsI σ H []:=λH1 Q s q=>q [] H1 (Same.refl _) RepL.nil
theorem zne(h:Dsp te σ H d)(r:zqw ta σ H ds):zqw (zmf te ta) σ H (d::ds):=λH1 Q s q=>
 h H1 _ s λv H2 s2 rv=>r H2 _ (s.trans s2) λvs H3 s3 rs=>q (v::vs) H3 (s2.trans s3) (.cons (rv.same s3) rs)
theorem zor(h:zqw ta σ H ds)(hl:ds.length<=1000):ztZ (zsD ta) σ H ds:=λH1 Q s q=>
 h H1 _ s λvs H2 s2 rs=>⟨Nat.le_of_lt (zE (by rw[rs.1];exact hl)),λp hp=>q p vs _ (s2.trans (Same.new hp)) upd_same (rs.mono (.new hp))⟩
end
section
variable{tr:TA}
theorem zsX{Q:List V->Hp->Prop}(h:ztZ te σ H ds)(q:∀l vs H2,Same H H2->H2 l=some (.lst vs)->RepL H2 vs ds->tr σ H2 λxs H3=>Q (.ref l::xs) H3):zmf te tr σ H Q:=h H _ (Same.refl H) q
end
theorem zlK{p:α->Prop}:∀d∈([]:List α),p d:=λ_ z=>nomatch z
theorem zlj{n:Int}(h:Hand H a n)(e:H l=some (.lst vs))(r:RepL H vs ds)(h3:ds.length≠3):l≠a:=λz=>by
 obtain⟨x,m,t,hh,_⟩:=h
 rw[z,hh] at e
 cases e
 exact h3 r.1.symm
section
open PySem.W
section
variable{N:Nat}{lt:Nat->Nat->Bool}
def OkT(N:Nat)(lt:Nat->Nat->Bool){α:Type}:KasT α->(α->Prop)->Prop
 | .ret a,P=>P a
 | .ask i j k,P=>i<N/\j<N/\OkT N lt (k (lt i j)) P
theorem OkT.mono{P Q:α->Prop}(h:∀a,P a->Q a):∀{t:KasT α},OkT N lt t P->OkT N lt t Q
 | .ret a,q=>h a q
 | .ask i j k,⟨h1,h2,q⟩=>⟨h1,h2,OkT.mono h q⟩
theorem OkT.bind{f:α->KasT β}{P:β->Prop}:∀{t:KasT α},OkT N lt t (λa=>OkT N lt (f a) P)->OkT N lt (t.bind f) P
 | .ret a,q=>q
 | .ask i j k,⟨h1,h2,q⟩=>⟨h1,h2,OkT.bind q⟩
theorem OkT.wp{cmp:Nat->Nat->(Bool->Shared->Prop)->Shared->Prop}{I:Shared->Prop}(hc:∀i j (C:Bool->Shared->Prop) s,i<N->j<N->I s->(∀s',I s'->C (lt i j) s')->cmp i j C s){P:α->Prop}{Q:α->Shared->Prop}(hq:∀a s,P a->I s->Q a s):
 ∀{t:KasT α} {s:Shared},I s->OkT N lt t P->t.kasWp cmp Q s
 | .ret a,s,hs,q=>hq a s q hs
 | .ask i j k,s,hs,⟨h1,h2,q⟩=>hc i j _ s h1 h2 hs λs' hs'=>OkT.wp hc hq hs' q
noncomputable abbrev gd(p:Array Nat)(i:Nat):Nat:=p.getD i 0
structure Strict(N:Nat)(lt:Nat->Nat->Bool):Prop where
 tot:∀i j,i<N->j<N->i≠j->lt i j=false->lt j i=true
 tr:∀i j k,i<N->j<N->k<N->lt i j=true->lt j k=true->lt i k=true
 asy:∀i j,i<N->j<N->lt i j=true->lt j i=false
def PermN(N:Nat)(p:Array Nat):Prop:=p.toList.Perm (List.range N)
theorem PermN.size{p:Array Nat}(h:PermN N p):p.size=N:=by
 have:=h.length_eq
 simpa using this
theorem gd_get{p:Array Nat}(h:i<p.size):gd p i=p[i]:=by simp[gd,Array.getD,h]
theorem zjg{p q:Array Nat}(h:p[i]?=q[j]?):gd p i=gd q j:=by
 simp only[gd,Array.getD_eq_getD_getElem?,h]
theorem PermN.bd{p:Array Nat}(h:PermN N p)(hi:i<N):gd p i<N:=by
 have hs:=h.size
 rw[gd_get ()]
 have:p[i]∈p.toList:=`Z2
 exact C2.mp (h.mem_iff.mp this)
theorem PermN.inj{p:Array Nat}(h:PermN N p)(hi:i<N)(hj:j<N)(hij:i≠j):gd p i≠gd p j:=by
 have hs:=h.size
 have nd:p.toList.Nodup:=h.nodup_iff.mpr List.nodup_range
 rw[gd_get (),gd_get ()]
 intro z
 exact hij ((List.getElem_inj (i:=i) (j:=j) (h₀:=by simp;lia) (h₁:=by simp;lia) nd).mp (by simpa using z))
def Sor(lt:Nat->Nat->Bool)(p:Array Nat)(m:Nat):Prop:=∀i j,i<j->j<m->lt (gd p i) (gd p j)=true
def Des(lt:Nat->Nat->Bool)(p:Array Nat)(m:Nat):Prop:=∀i j,i<j->j<m->lt (gd p j) (gd p i)=true
theorem Sor.snoc{p:Array Nat}(S:Strict N lt)(hp:PermN N p)(h:Sor lt p n)(h1:1<=n)(hn:n<N)(e:lt (gd p (n -1)) (gd p n)=true):Sor lt p (n+1):=by
 intro i j hij hj
 by_cases hjn:j<n
 ·exact h i j hij hjn
 ·have ej:j=n:=()
  subst ej
  by_cases hi:i=j -1
  ·subst hi;exact e
  ·exact S.tr _ _ _ (hp.bd ()) (hp.bd ()) (hp.bd hn) (h i (j -1) () ()) e
theorem Des.snoc{p:Array Nat}(S:Strict N lt)(hp:PermN N p)(h:Des lt p n)(h1:1<=n)(hn:n<N)(e:lt (gd p n) (gd p (n -1))=true):Des lt p (n+1):=by
 intro i j hij hj
 by_cases hjn:j<n
 ·exact h i j hij hjn
 ·have ej:j=n:=()
  subst ej
  by_cases hi:i=j -1
  ·subst hi;exact e
  ·exact S.tr _ _ _ (hp.bd hn) (hp.bd ()) (hp.bd ()) e (h i (j -1) () ())
theorem zlv{p:Array Nat}(S:Strict N lt)(hp:PermN N p):∀f n,1<=n->n+f<=N->Sor lt p n->OkT N lt (kas_asc p f n) (λm=>n<=m/\m<=n+f/\Sor lt p m/\(m<n+f->lt (gd p m) (gd p (m -1))=true))
 |0,n,_,_,hs=>⟨K0 _,K0 _,hs,λh=>()⟩
 |f+1,n,h1,hn,hs=>by
  refine⟨hp.bd (),hp.bd (),?_⟩
  cases hc:lt (gd p n) (gd p (n -1))with
  |true=>
   show OkT N lt (if true=true then _ else _) _
   rw[p0 rfl]
   exact⟨K0 _,(),hs,λ_=>hc⟩
  |false=>
   show OkT N lt (if false=true then _ else _) _
   rw[V0 ⋯]
   refine OkT.mono (λm hm=>⟨(),(),hm.2.2.1,λh=>hm.2.2.2 ()⟩) (zlv S hp f (n+1) () () (hs.snoc S hp h1 () (S.tot _ _ (hp.bd ()) (hp.bd ()) (hp.inj () () ()) hc)))
theorem zmD{p:Array Nat}(S:Strict N lt)(hp:PermN N p):∀f n,1<=n->n+f<=N->Des lt p n->OkT N lt (kas_desc f p n 0) (λr=>r.1=p/\n<=r.2.1/\r.2.1<=n+f/\Des lt p r.2.1/\r.2.2=0)
 |0,n,_,_,hs=>⟨rfl,K0 _,K0 _,hs,rfl⟩
 |f+1,n,h1,hn,hs=>by
  refine⟨hp.bd (),hp.bd (),?_⟩
  cases hc:lt (gd p n) (gd p (n -1))with
  |true=>
   show OkT N lt (if true=true then(if 0>0 then _ else _)else _) _
   rw[p0 rfl,V0 ⋯]
   exact OkT.mono (λm hm=>⟨hm.1,(),(),hm.2.2.2⟩) (zmD S hp f (n+1) () () (hs.snoc S hp h1 () hc))
  |false=>
   show OkT N lt (if false=true then _ else _) _
   rw[V0 ⋯]
   refine⟨hp.bd (),hp.bd (),?_⟩
   have hd:lt (gd p (n -1)) (gd p n)=true:=S.tot _ _ (hp.bd ()) (hp.bd ()) (hp.inj () () ()) hc
   show OkT N lt (if lt (gd p (n -1)) (gd p n)=true then _ else _) _
   rw[p0 hd]
   exact⟨rfl,K0 _,by show n<=n+(f+1);lia,hs,rfl⟩
theorem zks{p:Array Nat}(hp:PermN N p)(n:Nat):PermN N (kas_rev p 0 n):=(Array.perm_iff_toList_perm.mp (mirror_perm p 0 n _)).trans hp
theorem zqk{p:Array Nat}(hp:PermN N p)(hn:n<=N)(h:Des lt p n):Sor lt (kas_rev p 0 n) n:=by
 have hs:=hp.size
 have e:∀k,k<n->gd (kas_rev p 0 n) k=gd p (n -1 -k):=λk hk=>by
  refine zjg ?_
  show(mirror p 0 n ((n -0)/2))[k]?=_
  rw[getElem?_mirror_all (),p0 ⟨X1 _,hk⟩,Nat.zero_add]
 intro i j hij hj
 rw[e i (),e j hj]
 exact h (n -1 -j) (n -1 -i) () ()
def zo1(N:Nat)(lt:Nat->Nat->Bool)(r:Nat×Array Nat):Prop:=PermN N r.2/\Sor lt r.2 r.1/\1<=r.1/\r.1<=N
theorem zoq{p:Array Nat}(S:Strict N lt)(hp:PermN N p)(h1:1<=n)(hn:n<=N)(h:Des lt p n):OkT N lt (kas_tail3 n N p) (zo1 N lt):=by
 refine OkT.bind (OkT.mono (λm hm=>?_) (zlv S (zks hp n) (N -n) n h1 () (zqk hp hn h)))
 exact⟨zks hp n,hm.2.2.1,by have:=hm.1;lia,by have:=hm.2.1;lia⟩
theorem zp1{p:Array Nat}(S:Strict N lt)(hp:PermN N p)(h1:1<=N):OkT N lt (kas_count N p) (zo1 N lt):=by
 refine OkT.bind (OkT.mono (λn hn=>?_) (zlv S hp (N -1) 1 (K0 _) () (λi j hij hj=>())))
 obtain⟨n1,n2,hs,hl⟩:=hn
 by_cases hN:(n==N)=true
 ·rw[p0 hN]
  exact⟨hp,hs,n1,()⟩
 ·have hne:n≠N:=by simpa using hN
  rw[V0 hN]
  by_cases h2:n>1
  ·rw[p0 h2]
   refine⟨hp.bd (),hp.bd (),?_⟩
   show OkT N lt (if lt (gd p 0) (gd p (n -1))=true then _ else _) _
   rw[p0 (hs 0 (n -1) () ())]
   exact⟨hp,hs,n1,()⟩
  ·rw[V0 h2]
   have e1:n=1:=()
   subst e1
   have hd:Des lt p 2:=λi j hij hj=>by
    have ei:i=0:=()
    have ej:j=1:=()
    subst ei ej
    exact hl ()
   refine OkT.bind (OkT.mono (λr hr=>?_) (zmD S hp (N -(1+1)) (1+1) () () hd))
   obtain⟨e1,r1,r2,r3,r4⟩:=hr
   rw[V0 (),e1]
   exact zoq S hp () () r3
theorem zhI{p:Array Nat}{k:Nat}(S:Strict N lt)(hp:PermN N p)(hs:Sor lt p k)(hk:k<N):∀f l r,l<=r->r<=k->r -l<=f->(∀i,i<l->lt (gd p i) (gd p k)=true)->(∀i,r<=i->i<k->lt (gd p k) (gd p i)=true)->
 OkT N lt (kas_place p k f l r) (λm=>m<=k/\(∀i,i<m->lt (gd p i) (gd p k)=true)/\∀i,m<=i->i<k->lt (gd p k) (gd p i)=true)
 |0,l,r,h1,h2,h3,ha,hb=>⟨(),ha,λi hi=>hb i ()⟩
 |f+1,l,r,h1,h2,h3,ha,hb=>by
  by_cases hlr:l≥r
  ·show OkT N lt (if l≥r then _ else _) _
   rw[p0 hlr]
   exact⟨(),ha,λi hi=>hb i ()⟩
  ·show OkT N lt (if l≥r then _ else _) _
   rw[V0 hlr]
   refine⟨hp.bd hk,hp.bd (),?_⟩
   cases hc:lt (gd p k) (gd p ((l+r)/2))with
   |true=>
    show OkT N lt (if true=true then _ else _) _
    rw[p0 rfl]
    refine zhI S hp hs hk f l ((l+r)/2) () () () ha λi hi hik=>?_
    by_cases e:i=(l+r)/2
    ·subst e;exact hc
    ·exact S.tr _ _ _ (hp.bd hk) (hp.bd ()) (hp.bd ()) hc (hs ((l+r)/2) i () hik)
   |false=>
    show OkT N lt (if false=true then _ else _) _
    rw[V0 ⋯]
    have hm:lt (gd p ((l+r)/2)) (gd p k)=true:=S.tot _ _ (hp.bd hk) (hp.bd ()) (hp.inj hk () ()) hc
    refine zhI S hp hs hk f ((l+r)/2+1) r () h2 () (λi hi=>?_) hb
    by_cases e:i=(l+r)/2
    ·subst e;exact hm
    ·exact S.tr _ _ _ (hp.bd ()) (hp.bd ()) (hp.bd hk) (hs i ((l+r)/2) () ()) hm
theorem zlw{p:Array Nat}{l:Nat}(hp:PermN N p)(hk:k<N)(hl:l<=k)(hs:Sor lt p k)(ha:∀i,i<l->lt (gd p i) (gd p k)=true)(hb:∀i,l<=i->i<k->lt (gd p k) (gd p i)=true):Sor lt (bubble p k (k -l)) (k+1):=by
 have hz:=hp.size
 have g:∀i,(bubble p k (k -l))[i]?=if i=l then p[k]? else if l<i/\i<=k then p[i -1]? else p[i]?:=λi=>by
  rw[getElem?_bubble () (k -l) (),show k -(k -l)=l by lia]
 have g1:gd (bubble p k (k -l)) l=gd p k:=zjg (by rw[g,p0 rfl])
 have g2:∀i,l<i->i<=k->gd (bubble p k (k -l)) i=gd p (i -1):=λi h1 h2=>zjg (by rw[g,V0 (),p0 ⟨h1,h2⟩])
 have g3:∀i,i<l->gd (bubble p k (k -l)) i=gd p i:=λi h1=>zjg (by rw[g,V0 (),V0 ()])
 intro i j hij hj
 rcases Nat.lt_trichotomy i l with hi|hi|hi
 ·rw[g3 i hi]
  rcases Nat.lt_trichotomy j l with h|h|h
  ·rw[g3 j h];exact hs i j hij ()
  ·subst h;rw[g1];exact ha i hi
  ·rw[g2 j h ()];exact hs i (j -1) () ()
 ·subst hi
  rw[g1,g2 j hij ()]
  exact hb (j -1) () ()
 ·rw[g2 i hi (),g2 j () ()]
  exact hs (i -1) (j -1) () ()
theorem zpn(S:Strict N lt):∀f (p:Array Nat) k,PermN N p->Sor lt p k->k+f=N->OkT N lt (kas_bin f p k) (λp'=>PermN N p'/\Sor lt p' N)
 |0,p,k,hp,hs,hk=>⟨hp,by have:k=N:=()
                         rw[←this];exact hs⟩
 |f+1,p,k,hp,hs,hk=>by
  refine OkT.bind (OkT.mono (λl hl=>?_) (zhI S hp hs () k 0 k (X1 _) (K0 _) () (λi hi=>()) (λi hi hik=>())))
  exact zpn S f _ (k+1) ((Array.perm_iff_toList_perm.mp (bubble_perm p k _)).trans hp) (zlw hp () hl.1 hs hl.2.1 hl.2.2) ()
theorem sort_ok(S:Strict N lt)(h1:1<=N):OkT N lt (kas_sort N) (λp=>PermN N p/\Sor lt p N):=by
 have h0:PermN N (List.toArray (List.range N)):=by show(List.range N).Perm _;exact List.Perm.refl _
 refine OkT.bind (OkT.mono (λr hr=>?_) (zp1 S h0 h1))
 obtain⟨c1,c2,c3,c4⟩:=hr
 by_cases h:r.1<N
 ·rw[p0 h]
  have e:max r.1 1=r.1:=()
  rw[e]
  exact zpn S _ _ _ c1 c2 ()
 ·rw[V0 h]
  have e:r.1=N:=()
  rw[e] at c2
  exact⟨c1,c2⟩
end
def RawD(h:Heap)(d:Addr)(ks:List Value)(ep:Nat):Prop:=∃o es,h.get? d=some o/\o.ExactDict/\o.data= .dict es ep/\es.toList.map (·.key)=ks
theorem RawD.at{d:Addr}(x:RawD h d ks ep)(e:∀o,h.get? d=some o->h'.get? d=some o):RawD h' d ks ep:=let⟨o,es,ho,r⟩:=x;⟨o,es,e _ ho,r⟩
theorem RawD.ty{d:Addr}(x:RawD s.heap d ks ep):s.TypeIs (.ref d) "dict":=let⟨o,_,ho,hc,_⟩:=x;⟨o,ho,hc.1⟩
theorem RawD.lt{d:Addr}(x:RawD h d ks ep):d<h.objs.size:=let⟨_,_,ho,_⟩:=x;P0 ho
section
variable{d:Addr}
theorem zpm{R:Value->Shared->Prop}(nsys:(d==sysModules)=false)(x:RawD s.heap d ks ep)(q:R (.ref s.heap.objs.size) {s with heap:=s.heap.push {cls:= .type "dict_keyiterator",data:= .fields #[.ref d, .int 0 0, .int ks.length 0, .int ep 0]}}):
 wpAny (model prog w) A (pyIter (.ref d)) R E s:=by
 have ty:=x.ty
 obtain⟨o,es,ho,_,hdat,hks⟩:=x
 refine wpAny_pyIter_slot ty F.slot_dict_iter (wpAny_call_entry F.slot_dict_iter ty F.entry_dict_iter ?_ (F.args_dict_iter_1 _))
 unfold Builtin.«dict.__iter__»
 refine A0 (by unfold Builtin.Dict.dictSlotNone;refine A0 (wpAny_notOrdered_dict ty ?_);show wpAny _ _ (pure (Value.ref d)) _ _ s;exact F0 (by
  show wpAny _ _ (Builtin.Dict.showsAll d>>=_) _ _ s
  unfold Builtin.Dict.showsAll
  rw[V0 (λz=>by rw[nsys] at z;cases z)]
  refine A0 (F0 (A0 (wpAny_dictEntries ho hdat (A0 (wpAny_dictEpoch ho hdat ?_)))))
  have sz:es.size=ks.length:=by rw[←hks];simp
  refine A0 (wpAny_newObj_type (F0 ⟨_,rfl,"dict_keyiterator",_,⟨_,M0 _ rfl,rfl⟩,F.slot_dict_keyiterator_next.lookup,?_⟩))
  simpa[rawInt,sz] using q))
theorem zoS{R:Option Value->Shared->Prop}{key:Value}(y:s.heap.IsKeyIter it d i ks.length ep)(x:RawD s.heap d ks ep)(hx:ks[i]?=some key)
 (q:∀h',h'.IsKeyIter it d (i+1) ks.length ep->Heap.SameBut it s.heap h'->R (some key) {s with heap:=h'}):wpAny (model prog w) A (pyNext (.ref it)) R E s:=by
 obtain⟨o,ho,hc,hd⟩:=id y
 obtain⟨od,es,hod,_,hdd,hks⟩:=x
 have sz:es.size=ks.length:=by rw[←hks];simp
 have li:i<ks.length:=by
  rcases A2 i ks.length with h|h
  ·exact h
  ·rw[X0 h] at hx;cases hx
 have li':i<es.size:=()
 have ek:es[i].key=key:=by
  have e1:ks[i]?=some es[i].key:=by rw[←hks];simp[li']
  rw[e1] at hx;exact A1 hx
 unfold pyNext
 refine A0 (wpAny_attempt (wpAny_callSpecial?_slot (name:=Str.ofString "__next__") y.typeIs F.slot_dict_keyiterator_next (wpAny_call_entry F.slot_dict_keyiterator_next y.typeIs F.entry_dict_keyiterator_next ?_ (F.args_dict_keyiterator_next_1 _))))
 refine A0 (F0 (A0 (A0 ?_)))
 first|refine A0 (wpAny_typeNameOfWhole_keyiter y.typeIs (F0 ?_))|refine A0 (wpAny_typeNameOf_keyiter y.typeIs (F0 ?_))
 refine A0 (wpAny_fieldsOf ho hd ?_)
 simp only[(by decide:Builtin.Dict_items.ownsTuple "dict_keyiterator"=false),G2,if_false]
 show wpAny _ _ (if(Value.ref d==Value.none)=true then _ else _) _ _ s
 rw[V0 (λz=>nomatch z)]
 refine A0 (F0 (A0 (wpAny_dictEntries hod hdd ?_)))
 rw[V0 (λz=>by rw[sz] at z;simp at z)]
 refine A0 (F0 (A0 (wpAny_dictEpoch hod hdd ?_)))
 rw[V0 (λz=>by simp at z)]
 refine F0 ?_
 simp only[(by lia:¬((i:Int)<0)),if_false,Q2,Array.getElem?_eq_getElem li']
 refine A0 ?_
 first|refine A0 (wpAny_typeNameOfWhole_keyiter y.typeIs (F0 ?_))|refine A0 (wpAny_typeNameOf_keyiter y.typeIs (F0 ?_))
 refine A0 (wpAny_isOneOf_keyiter y.typeIs ?_)
 show wpAny _ _ (setField (.ref it) 1 (rawInt ((i:Int)+1))>>=_) _ _ s
 refine A0 (wpAny_setField ho hd `Z2 ?_)
 have y':(s.heap.update it (Obj.mapFields (·.setIfInBounds 1 (rawInt ((i:Int)+1))))).IsKeyIter it d (i+1) ks.length ep:=⟨_,Heap.get?_update_self _ ho (Obj.isFreed_of_fields (Obj.data_mapFields hd _)),(Obj.cls_mapFields ..).trans hc,by rw[Obj.data_mapFields hd];simp[rawInt]⟩
 refine A0 (wpAny_holding (A0 (wpAny_isOneOf_keyiter (s:={s with heap:=s.heap.update it (Obj.mapFields (·.setIfInBounds 1 (rawInt ((i:Int)+1))))}) y'.typeIs ?_)))
 show wpAny _ _ (pure es[i].key) _ _ _
 rw[ek]
 exact F0 (F0 ⟨_,rfl,F0 (q _ y' (Heap.SameBut.update ..))⟩)
theorem zqz{R:Option Value->Shared->Prop}(hh:A.handled=none)(y:s.heap.IsKeyIter it d ks.length ks.length ep)(x:RawD s.heap d ks ep)(q:∀h',Heap.ExtBut it s.heap h'->R none {s with heap:=h'}):wpAny (model prog w) A (pyNext (.ref it)) R E s:=by
 obtain⟨o,ho,hc,hd⟩:=id y
 obtain⟨od,es,hod,_,hdd,hks⟩:=x
 have sz:es.size=ks.length:=by rw[←hks];simp
 unfold pyNext
 refine A0 (wpAny_attempt (wpAny_callSpecial?_slot (name:=Str.ofString "__next__") y.typeIs F.slot_dict_keyiterator_next (wpAny_call_entry F.slot_dict_keyiterator_next y.typeIs F.entry_dict_keyiterator_next ?_ (F.args_dict_keyiterator_next_1 _))))
 refine A0 (F0 (A0 (A0 ?_)))
 first|refine A0 (wpAny_typeNameOfWhole_keyiter y.typeIs (F0 ?_))|refine A0 (wpAny_typeNameOf_keyiter y.typeIs (F0 ?_))
 refine A0 (wpAny_fieldsOf ho hd ?_)
 simp only[(by decide:Builtin.Dict_items.ownsTuple "dict_keyiterator"=false),G2,if_false]
 show wpAny _ _ (if(Value.ref d==Value.none)=true then _ else _) _ _ s
 rw[V0 (λz=>nomatch z)]
 refine A0 (F0 (A0 (wpAny_dictEntries hod hdd ?_)))
 rw[V0 (λz=>by rw[sz] at z;simp at z)]
 refine A0 (F0 (A0 (wpAny_dictEpoch hod hdd ?_)))
 rw[V0 (λz=>by simp at z)]
 refine F0 ?_
 simp only[(by lia:¬((ks.length:Int)<0)),if_false,Q2,Array.getElem?_eq_none (show es.size<=ks.length by lia)]
 refine A0 ?_
 first|refine A0 (wpAny_typeNameOfWhole_keyiter y.typeIs (F0 ?_))|refine A0 (wpAny_typeNameOf_keyiter y.typeIs (F0 ?_))
 show wpAny _ _ (setField (.ref it) 0 .none>>=_) _ _ s
 refine A0 (wpAny_setField ho hd `Z2 ?_)
 show wpAny _ _ (newExc (.type "StopIteration") []>>=_) _ _ _
 refine A0 (by
  simp only[newExc,newTuple]
  refine A0 (wpAny_newObj_type (A0 (m:=firstArgMember _ _) (wpAny_of_eq (a:=Value.none) (by first|rfl|(simp only[firstArgMember];rfl)) (wpAny_newObj_type ?_ (by size_fits)))) (by size_fits))
  simp only[raiseNew]
  refine A0 (wpAny_handled ?_)
  rw[show A.in1.handled=none from hh]
  refine A0 (F0 (wpAny_throw ?_));refine A0 (wpAny_isInstance (T:="StopIteration") (b:=true) ⟨_,M0 _ rfl,rfl⟩ isSubtype_stop ?_)
  exact F0 (q _ (((Heap.SameBut.update ..).extBut.push _).push _)))
theorem znH(hh:A.handled=none)(hne:d≠it):Walks prog w A it [it,d] [it] ks.length (λi v=>ks[i]?=some v) (λi h=>h.IsKeyIter it d i ks.length ep/\RawD h d ks ep) where
 sub:=λb hb=>by simp at hb;simp[hb]
 frame:=λ_ _ _ st hk=>⟨st.1.at λo e=>hk it `Z2 o e,st.2.at λo e=>hk d `Z2 o e⟩
 item:=λi s Q E hi st hQ=>zoS st.1 st.2 (show ks[i]?=some ks[i] by simp[hi]) λh' y' hs=>hQ _ h' s.toks (by simp[hi]) ⟨y',st.2.at λo e=>hs.extBut d o hne e⟩ λb o hb e=>hs.extBut b o (λh=>hb (by simp[h])) e
 done:=λs Q E st hQ=>zqz hh st.1 st.2 λh' he=>hQ h' s.toks λb o hb e=>he b o (λh=>hb (by simp[h])) e
 self:=λ_ _ _ _ st hQ=>wpAny_pyIter_keyiter st.1 hQ
theorem zqt(nsys:(d==sysModules)=false):KdlSrc prog w "dict" d d ks.length (λi v=>ks[i]?=some v) (λh=>RawD h d ks ep) where
 type:=λ_ hm=>hm.ty
 there:=λ_ hm=>⟨hm.lt,hm.lt⟩
 keep:=λ_ _ hm hk=>hm.at λo e=>hk d (.inl rfl) o e
 notList:=⋯
 notTuple:=⋯
 hint:=λ_ _ _ _ hm hq=>kdl_hint_dict hm.ty hq
 iter:=λ_ _ hh hm=>⟨_,_,(λ_ _ hq=>zpm nsys hm hq),znH hh (R1 hm.lt),⟨⟨_,M0 _ rfl,rfl,rfl⟩,hm.at λo e=>C0 _ e⟩⟩
end
def Kp(a:Addr)(s s1:Shared):Prop:=s1={s with heap:=s1.heap}/\∀b o,b≠a->s.heap.get? b=some o->s1.heap.get? b=some o
theorem znc{vs:List Value}{R:PySem.Fin->Shared->Prop}{κ:SortKind}(ho:s.heap.get? a=some (seqObj "list" vs.toArray n))(h64:vs.length<64)
 (hk:2<=vs.length->∀s1:Shared,Kp a s s1->(∀C:SortKind->Shared->Prop,C κ s1->wpAny (model prog w) A (keyKind' vs.toArray) C E s1)/\(kas_sort vs.length).kasWp (kas_ask prog w A κ vs) (λp s'=>s'=s1/\G p) s1)
 (q:∀(out:List Value) (h':Heap) (c:Nat),(vs.length<2/\out=vs\/∃p:Array Nat,p.size=vs.length/\G p/\out=p.toList.map λi=>vs.getD i Value.none)->(∀b o,b≠a->s.heap.get? b=some o->h'.get? b=some o)->
   h'.get? a=some (seqObj "list" out.toArray c)->R (.done (.ret .none)) {s with heap:=h'}):wpAny (model prog w) A (Builtin.«list.sort» ⟨[.ref a],[]⟩) R E s:=by
 have la:a<s.heap.objs.size:=P0 ho
 have lz:vs.toArray.size=vs.length:=b0 ..
 have u1:=Heap.SameBut.update s.heap a (Obj.mapSeq λ_=>(#[]:Array Value))
 obtain⟨e1,g1⟩:∃e1,(s.heap.update a (Obj.mapSeq λ_=>(#[]:Array Value))).get? a=some (seqObj "list" #[] e1):=⟨_,get?_update_seq ho λ_=> #[]⟩
 rw[list_sort_plain]
 refine A0 (listItems_at ho rfl (A0 (listUpdate_at ho rfl (A0 (seqEpoch_at g1 rfl (A0 (wpAny_newTuple (A0 (wpAny_newList (wpAny_holding ?_) (X1 _))) (by show vs.length<=_;rw[sizeLine_eq];lia))))) (by rw[lz,sizeLine_eq];lia) (X1 _))))
 generalize hs1:({s with heap:=((s.heap.update a (Obj.mapSeq λ_=>(#[]:Array Value))).push (seqObj "tuple" vs.toArray 0)).push (seqObj "list" #[] 0)}:Shared)=s1
 have kp:∀b o,(s.heap.update a (Obj.mapSeq λ_=>(#[]:Array Value))).get? b=some o->s1.heap.get? b=some o:=λb o e=>by rw[←hs1];exact C0 _ (C0 _ e)
 have k1:Kp a s s1:=⟨by rw[←hs1],λb o nb e=>kp b o ((u1.2 b nb).trans e)⟩
 have g2:s1.heap.get? a=some (seqObj "list" #[] e1):=kp a _ g1
 dsimp only
 have fin:∀(st:SortSt) (out:List Value),(arrOf st).map (·.2)=out.toArray->failedOf st=none->out.length<64->(vs.length<2/\out=vs\/∃p:Array Nat,p.size=vs.length/\G p/\out=p.toList.map λi=>vs.getD i Value.none)->
  wpAny (model prog w) A (do
   let touched:=(←seqEpoch a) !=e1
   Builtin.List.listUpdate (.ref a) λ_=>(arrOf st).map (·.2)
   if let some e:=failedOf st then rule "list.sort.comparison-raised";throw e
   if touched then rule "list.sort.modified";raiseError "ValueError" "list modified during sort"
   ret .none) R E s1:=by
  intro st out ho hf hl hc
  rw[ho]
  have u2:=Heap.SameBut.update s1.heap a (Obj.mapSeq λ_=>out.toArray)
  obtain⟨c2,g3⟩:∃c2,(s1.heap.update a (Obj.mapSeq λ_=>out.toArray)).get? a=some (seqObj "list" out.toArray c2):=⟨_,get?_update_seq g2 λ_=>out.toArray⟩
  refine A0 (seqEpoch_at g2 rfl (A0 (listUpdate_at g2 rfl ?_ (X1 _) (by show out.toArray.size<=_;rw[b0,sizeLine_eq];lia))))
  rw[hf]
  simp only[bne_self_eq_false,G2,if_false]
  have:=q out _ c2 hc (λb o nb e=>(u2.2 b nb).trans (k1.2 b o nb e)) g3
  rw[k1.1]
  exact F0 this
 by_cases h2:vs.toArray.size<2
 ·rw[p0 h2,p0 h2]
  refine A0 (F0 ?_)
  rw[StateT.run_pure]
  refine A0 (F0 ?_)
  refine fin _ vs ?_ rfl h64 (.inl ⟨(),rfl⟩)
  apply Array.toList_inj.mp
  show((vs.toArray.zip vs.toArray).map (·.2)).toList=_
  rw[Array.toList_map,Array.toList_zip]
  exact List.map_snd_zip (K0 _)
 ·rw[V0 h2,V0 h2]
  obtain⟨hkk,hw⟩:=hk () s1 k1
  refine A0 (hkk _ ?_)
  refine A0 (Y1 (kat_run (E:=E) (Q:=λst' s'=>s'=s1/\∃p:Array Nat,p.size=vs.length/\arrOf st'=p.map (kas_item (vs.toArray.zip vs.toArray))/\failedOf st'=none/\G p) rfl () h64 (λp st' s' x1 x2 x3 x4=>⟨x4.1,p,x1,x2,x3,x4.2⟩) hw) ?_ λ_ _ e=>e)
  rintro⟨⟨⟩,st'⟩ s' ⟨rfl,p,hp,har,hf,hG⟩
  refine fin st' (p.toList.map λi=>vs.getD i Value.none) (kat_snds rfl har) hf (by rw[B0,Array.length_toList,hp];exact h64) (.inr ⟨p,hp,hG,rfl⟩)
theorem zl5{r d:Addr}{Pn:Nat->Value->Prop}{R:List Value->Shared->Prop}(K:KdlSrc prog w T r d n Pn OK)(hh:A.handled=none)(hok:OK s.heap)(hn:n<=sizeLine)
 (q:∀(h':Heap) (tk:Nat) (acc:Array Value),(∀b o,s.heap.get? b=some o->h'.get? b=some o)->s.heap.objs.size<h'.objs.size->ItemsOf Pn acc n->R acc.toList {s with heap:=h',toks:=tk}):wpAny (model prog w) A (collect (.ref r)) R E s:=by
 have lt:=K.there _ hok
 have g0:(s.heap.push {cls:= .type "list",data:= .seq ([]:List Value).toArray}).get? s.heap.objs.size=some {cls:= .type "list",data:= .seq #[]}:=M0 _ rfl
 have key:=kdl_extend (A:=A) (s:={s with heap:=s.heap.push {cls:= .type "list",data:= .seq ([]:List Value).toArray}}) (R:=λ(f:Result) (s':Shared)=>∃(h':Heap) (tk:Nat) (acc':Array Value) (c':Nat),f= .ok (.ret (.ref s.heap.objs.size))/\s'={s with heap:=h',toks:=tk}/\(∀b o,s.heap.get? b=some o->h'.get? b=some o)/\h'.get? s.heap.objs.size=some {cls:= .type "list",dict:=none,data:= .seq acc' c',slots:= #[]}/\ItemsOf Pn acc' n)
  K hh (K.keep _ _ hok λb _ o e=>C0 _ e) s.heap.objs.size (Nat.ne_of_gt lt.1) (Nat.ne_of_gt lt.2) (.ref s.heap.objs.size) 0 g0 (λh' tk acc' c' kp gS ia=>⟨h',tk,acc',c',rfl,rfl,λb o e=>kp b o (R1 (P0 e)) (C0 _ e),gS,ia⟩) hn
 unfold collect
 refine A0 (wpAny_runValue (codeAny_builtin entry_proto_collect' (by
  rw[Around.under_plainId F.plain_proto_collect _]
  show wpAny _ A.in1 (newList []>>=λl=>again (.builtin "list.__iadd__" ⟨[l, .ref r],[]⟩)) _ _ s
  refine A0 (wpAny_newObj_type (F0 ⟨plainId_quiet F.plain_list_iadd _,codeAny_builtin entry_list_iadd' (by
   rw[Around.under_plainId F.plain_list_iadd _]
   show wpAny _ A.in1 (Builtin.List.listExtendWith (.ref s.heap.objs.size) (.ref r) (.ref s.heap.objs.size)) _ _ _
   refine Y1 key (λfin s' x=>?_) λe s' x=>?_
   ·cases fin with
    |done f=>
     obtain⟨h',tk,acc',c',e,rfl,kp,gS,ia⟩:=x;cases e
     show wpAny _ A (load s.heap.objs.size>>=_) _ _ _
     exact A0 (wpAny_load gS (F0 (q h' tk acc' kp (P0 gS) ia)))
    |again c₁=>
     refine⟨x.1,codeAny_mono x.2 λf s₂ y=>?_⟩
     obtain⟨h',tk,acc',c',rfl,rfl,kp,gS,ia⟩:=y
     show wpAny _ A (load s.heap.objs.size>>=_) _ _ _
     exact A0 (wpAny_load gS (F0 (q h' tk acc' kp (P0 gS) ia)))
   ·obtain ⟨_,_,_,_,e',_⟩:=x
    cases e')⟩)))))
theorem zlJ{r d:Addr}{R:Value->Shared->Prop}{κ:SortKind}(K:KdlSrc prog w T r d ks.length (λi v=>ks[i]?=some v) OK)(hh:A.handled=none)(hok:OK s.heap)(h64:ks.length<64)
 (hk:2<=ks.length->∀s1:Shared,(∀b o,s.heap.get? b=some o->s1.heap.get? b=some o)->(∀C:SortKind->Shared->Prop,C κ s1->wpAny (model prog w) A.in1.in1 (keyKind' ks.toArray) C (λ_ _=>False) s1)/\(kas_sort ks.length).kasWp (kas_ask prog w A.in1.in1 κ ks) (λp s'=>s'=s1/\G p) s1)
 (q:∀(D:Addr) (out:List Value) (h':Heap) (tk c:Nat),(ks.length<2/\out=ks\/∃p:Array Nat,p.size=ks.length/\G p/\out=p.toList.map λi=>ks.getD i Value.none)->(∀b o,s.heap.get? b=some o->h'.get? b=some o)->
   s.heap.objs.size<=D->h'.get? D=some (seqObj "list" out.toArray c)->R (.ref D) {s with heap:=h',toks:=tk}):wpAny (model prog w) A (call (.builtin "sorted") [.ref r]) R E s:=by
 refine Calls.call_function_entry kind_sorted plain_sorted entry_sorted (args_sorted1 _) ?_
 unfold Builtin.«sorted»
 refine A0 (m:=checkCount "sorted" 1 1 _) (F0 (A0 (zl5 (A:=A.in1) K hh hok (by rw[sizeLine_eq];lia) λh1 tk acc kp gr0 hacc=>?_)))
 have ea:acc.toList=ks:=by
  apply List.ext_getElem?
  intro i
  rcases A2 i ks.length with h|h
  ·have hi:i<acc.size:=by rw[hacc.1];exact h
   rw[Array.getElem?_toList,Array.getElem?_eq_getElem hi]
   exact(hacc.2 i acc[i] (by rw[Array.getElem?_eq_getElem hi])).symm
  ·rw[X0 h,X0 (by rw[Array.length_toList,hacc.1];exact h)]
 rw[ea]
 refine A0 (wpAny_newList ?_ (by rw[sizeLine_eq];lia))
 have hD:(h1.push (seqObj "list" ks.toArray 0)).get? h1.objs.size=some (seqObj "list" ks.toArray 0):=M0 _ rfl
 have k2:∀b o,s.heap.get? b=some o->(h1.push (seqObj "list" ks.toArray 0)).get? b=some o:=λb o e=>C0 _ (kp b o e)
 have gr:s.heap.objs.size<=h1.objs.size:=Nat.le_of_lt gr0
 show wpAny _ _ _ _ _ {s with heap:=h1.push (seqObj "list" ks.toArray 0),toks:=tk}
 refine A0 (wpAny_holding (wpAny_call_entry slot_list_sort ⟨_,hD,rfl⟩ entry_list_sort (znc (G:=G) (κ:=κ) (s:={s with heap:=h1.push (seqObj "list" ks.toArray 0),toks:=tk}) hD h64 (λh2 s1 k1=>?_) λout h' c hc hkp hg=>?_) (args_list_sort _)))
 ·obtain ⟨x1,x2⟩:=hk h2 s1 λb o e=>k1.2 b o (R1 (C1 (P0 e) gr)) (k2 b o e)
  exact⟨λC hC=>Y1 (x1 C hC) (λ_ _ z=>z) λ_ _ z=>z.elim,x2⟩
 ·exact ⟨_,rfl,F0 ⟨_,rfl,q h1.objs.size out h' tk c hc (λb o e=>hkp b o (R1 (C1 (P0 e) gr)) (k2 b o e)) gr hg⟩⟩
noncomputable abbrev ltS(x y:Str):Bool:=decide (x.cps.toList<y.cps.toList)
noncomputable def ltP(p q:Str×Str):Bool:=if p.1=q.1 then(if p.2=q.2 then false else ltS p.2 q.2)else ltS p.1 q.1
theorem zmX:∀(a b:List Nat),a≠b->¬a<b->b<a
 |[],[],h,_=>absurd rfl h
 |[],b::bs,_,h=>absurd (List.nil_lt_cons b bs) h
 |a::as,[],_,_=>List.nil_lt_cons a as
 |a::as,b::bs,h,hn=>by
  rw[List.cons_lt_cons_iff] at hn⊢
  rcases Nat.lt_trichotomy a b with q|q|q
  ·exact absurd (.inl q) hn
  ·subst q
   exact .inr ⟨rfl,zmX as bs (λz=>h (by rw[z])) (λz=>hn (.inr ⟨rfl,z⟩))⟩
  ·exact .inl q
theorem zlI:∀{a b c:List Nat},a<b->b<c->a<c
 |_,[],_,h,_=>absurd h `Z2
 |_,_::_,[],_,h=>absurd h `Z2
 |[],_::_,c::cs,_,_=>List.nil_lt_cons c cs
 |a::as,b::bs,c::cs,h1,h2=>by
  rw[List.cons_lt_cons_iff] at h1 h2⊢
  rcases h1 with h1|⟨rfl,h1⟩
  ·rcases h2 with h2|⟨rfl,h2⟩
   ·exact .inl ()
   ·exact .inl h1
  ·rcases h2 with h2|⟨rfl,h2⟩
   ·exact .inl h2
   ·exact .inr ⟨rfl,zlI h1 h2⟩
theorem zjj:∀(a:List Nat),¬a<a
 |[],h=>absurd h `Z2
 |a::as,h=>by
  rw[List.cons_lt_cons_iff] at h
  rcases h with h|⟨_,h⟩
  ·lia
  ·exact zjj as h
theorem zjJ(h:x.cps.toList=y.cps.toList):x=y:=by
 cases x;cases y
 simp only[Str.mk.injEq]
 exact Array.toList_inj.mp h
theorem zgP(h:x≠y)(e:ltS x y=false):ltS y x=true:=D0 (zmX _ _ (λz=>h (zjJ z)) (of_decide_eq_false e))
theorem zlh{z:Str}(h1:ltS x y=true)(h2:ltS y z=true):ltS x z=true:=D0 (zlI (B1 h1) (B1 h2))
theorem zmS(x:Str):ltS x x=false:=G0 (zjj _)
theorem zrt(h:ltS x y=true):ltS y x=false:=G0 λz=>zjj _ (zlI (B1 h) z)
theorem zp0(h:ltS x y=true):x≠y:=λz=>by rw[z,zmS] at h;cases h
theorem zq5{p:Str×Str}(h:p≠q)(e:ltP p q=false):ltP q p=true:=by
 unfold ltP at e⊢
 by_cases h1:p.1=q.1
 ·rw[p0 h1] at e
  rw[p0 h1.symm]
  have h2:p.2≠q.2:=λz=>h (Prod.ext h1 z)
  rw[V0 h2] at e
  rw[V0 (Ne.symm h2)]
  exact zgP h2 e
 ·rw[V0 h1] at e
  rw[V0 (Ne.symm h1)]
  exact zgP h1 e
theorem zn9{p r:Str×Str}(h1:ltP p q=true)(h2:ltP q r=true):ltP p r=true:=by
 unfold ltP at h1 h2⊢
 by_cases e1:p.1=q.1
 ·rw[p0 e1] at h1
  by_cases e2:q.1=r.1
  ·rw[p0 e2] at h2
   rw[p0 (e1.trans e2)]
   by_cases f1:p.2=q.2
   ·rw[p0 f1] at h1;cases h1
   ·by_cases f2:q.2=r.2
    ·rw[p0 f2] at h2;cases h2
    ·rw[V0 f1] at h1
     rw[V0 f2] at h2
     have:=zlh h1 h2
     rw[V0 (zp0 this)];exact this
  ·rw[V0 e2] at h2
   rw[V0 (by rw[e1];exact e2),e1];exact h2
 ·rw[V0 e1] at h1
  by_cases e2:q.1=r.1
  ·rw[V0 (by rw[←e2];exact e1),←e2];exact h1
  ·rw[V0 e2] at h2
   have:=zlh h1 h2
   rw[V0 (zp0 this)];exact this
theorem zro(p:Str×Str):ltP p p=false:=by unfold ltP;rw[p0 rfl,p0 rfl]
theorem zrs{p:Str×Str}(h:ltP p q=true):ltP q p=false:=by
 cases e:ltP q p with
 |false=>rfl
 |true=>have:=zn9 h e;rw[zro] at this;cases this
theorem zmL:∀(l:List Str),sortedS l=true->l.Nodup->l.Pairwise (λa b=>ltS a b=true)
 |[],_,_=> .nil
 |[x],_,_=>`Z2
 |x::y::r,h,hn=>by
  have h':(!ltCps y.cps.toList x.cps.toList&&risingS y r)=true:=h
  rw[R0] at h'
  have hr:sortedS (y::r)=true:=h'.2
  have ih:=zmL (y::r) hr (List.nodup_cons.mp hn).2
  have hxy:ltS x y=true:=by
   have h1:ltS y x=false:=by
    have:=h'.1
    rw[ltCps_eq] at this
    simpa using this
   exact zgP (λz=>(List.nodup_cons.mp hn).1 (by rw[z];exact Q0)) h1
  refine List.pairwise_cons.mpr ⟨λz hz=>?_,ih⟩
  rcases I0.mp hz with rfl|hz
  ·exact hxy
  ·exact zlh hxy ((List.pairwise_cons.mp ih).1 z hz)
theorem ziX:CallR X (.builtin "sorted") (λxs H Q=>∃(p:Addr) (ss:List Str),xs=[.ref p]/\SqL X.K H p (ss.map V.str)/\ss.length<64/\ss.Nodup/\∀(ss':List Str) l,ss'.Perm ss->ss'.Pairwise (λa b=>ltS a b=true)->H l=none->Q (.ref l) (upd H l (.lst (ss'.map V.str)))):=by
 intro pins s σ H xs us Q I r h
 obtain⟨p,ss,rfl,hq,h64,hnd,q⟩:=h
 obtain⟨u,rfl,ru⟩:=zbq r
 cases ru
 obtain⟨its,rv,pl,hz⟩:=I.list hq
 have hS:=zbk rv
 have hl:=rv.length
 rw[B0] at hl
 refine sorted_strs pl.isList hS () λout ss' a1 a2 a3=>?_
 have nl:H (s.heap.objs.size+1)=none:=I.hok.fresh (Nat.le_succ _)
 obtain⟨e,he⟩:=sortedAll_at s.heap its out
 have hn':ss'.Nodup:=a2.nodup_iff.mpr hnd
 refine⟨.ref _,_,I.laid (a:=s.heap.objs.size+1) (o:= .lst (ss'.map V.str)) (t':=s.toks) (λb o hb=>sortedAll_old hb) (Nat.le_succ _) ⟨?_,out.toList,e,?_,?_⟩,rfl,q ss' _ a2 (zmL ss' a3 hn') nl⟩
 ·rw[B0,a2.length_eq];exact Nat.le_of_lt (zE ())
 ·have mk:∀{vs:List Value} {zs:List Str},StrsAre vs zs->Vals (zs.map V.str) vs:=by
   intro vs zs h
   induction h with
   |nil=>exact .nil
   |cons x t _ ih=>exact .cons ⟨t,rfl⟩ ih
  exact mk a1
 ·rw[Array.toArray_toList];exact he
def zqC(H:Hp)(vs:List V)(ps:List (Str×Str)):Prop:=vs.length=ps.length/\∀(i:Nat) (v:V) (p:Str×Str),vs[i]?=some v->ps[i]?=some p->∃b,v= .ref b/\H b=some (.tup [.str p.1, .str p.2])
noncomputable def zh4(p:Str×Str):List Key:=[.inr p.1, .inr p.2]
def TupAt(h:Heap)(u:Value)(p:Str×Str):Prop:=∃b o n t1 t2,u= .ref b/\h.get? b=some o/\o.cls= .type "tuple"/\o.data= .seq #[.str p.1 t1, .str p.2 t2] n
theorem TupAt.keeps{p:Str×Str}(x:TupAt h u p)(k:∀b o,h.get? b=some o->h'.get? b=some o):TupAt h' u p:=let⟨b,o,n,t1,t2,e,g,r⟩:=x;⟨b,o,n,t1,t2,e,k _ _ g,r⟩
theorem zo2{v:Value}{p:Str×Str}{C:Bool->Shared->Prop}(x:TupAt s.heap u p)(y:TupAt s.heap v q)(h:C (ltP p q) s):wpAny (model prog w) A (keyLt' (tuples' true) u v) C E s:=by
 obtain⟨b,o,n,t1,t2,rfl,g,_,d⟩:=x
 obtain⟨b',o',n',t3,t4,rfl,g',_,d'⟩:=y
 refine kat_lt g d g' d' ?_
 show KatLex prog w A true (decide (2<2)) C [(.str p.1 t1, .str q.1 t3),(.str p.2 t2, .str q.2 t4)] 0 s
 unfold ltP at h
 refine kat_cons (wpAny_eqBool_str ?_)
 by_cases e1:p.1=q.1
 ·rw[p0 e1] at h
  rw[D0 e1]
  refine kat_yes (kat_cons (wpAny_eqBool_str ?_))
  by_cases e2:p.2=q.2
  ·rw[p0 e2] at h
   rw[D0 e2]
   exact kat_yes (kat_nil h)
  ·rw[V0 e2] at h
   rw[G0 e2]
   refine kat_no ?_
   show wpAny (model prog w) A (oneLt' false (.str p.2 t2) (.str q.2 t4)) C _ s
   exact kat_one _ _ (lt_str h)
 ·rw[V0 e1] at h
  rw[G0 e1]
  refine kat_no ?_
  show wpAny (model prog w) A (oneLt' true (.str p.1 t1) (.str q.1 t3)) C _ s
  exact oneLt_str h
theorem zfz{h:Heap}:∀{us:List Value} {ps:List (Str×Str)},us.length=ps.length->(∀(i:Nat) (u:Value) (p:Str×Str),us[i]?=some u->ps[i]?=some p->TupAt h u p)->∃fs,KatTups h us fs/\fs.length=us.length/\∀f∈fs,∃x t,f=Value.str x t
 |[],[],_,_=>⟨[],trivial,rfl,λ_ z=>nomatch z⟩
 |[],_::_,z,_=>by simp at z
 |_::_,[],z,_=>by simp at z
 |u::us,p::ps,hl,hx=>by
  obtain⟨fs,h1,h2,h3⟩:=zfz (us:=us) (ps:=ps) (by simpa using hl) λi u p e1 e2=>hx (i+1) u p (by simpa using e1) (by simpa using e2)
  obtain⟨b,o,n,t1,t2,rfl,g,c,d⟩:=hx 0 u p rfl rfl
  refine⟨.str p.1 t1::fs,KatTups.cons g c d rfl h1,by simp[h2],λf hf=>?_⟩
  rcases I0.mp hf with rfl|hf
  ·exact ⟨_,_,rfl⟩
  ·exact h3 f hf
noncomputable def pAt(ps:List (Str×Str))(i:Nat):Str×Str:=ps.getD i (⟨#[]⟩,⟨#[]⟩)
theorem zjw(hn:ps.Nodup):Strict ps.length (λi j=>ltP (pAt ps i) (pAt ps j)) where
 tot:=λi j hi hj hij e=>zq5 (λz=>hij ((List.getElem_inj hn (h₀:=hi) (h₁:=hj)).mp (by unfold pAt at z;simpa[hi,hj] using z))) e
 tr:=λi j k _ _ _ h1 h2=>zn9 h1 h2
 asy:=λi j _ _ h=>zrs h
theorem zm8{p:Array Nat}(hp:PermN ps.length p)(hs:Sor (λi j=>ltP (pAt ps i) (pAt ps j)) p ps.length):(p.toList.map (pAt ps)).Perm ps/\(p.toList.map (pAt ps)).Pairwise (λa b=>ltP a b=true):=by
 constructor
 ·have h1:=hp.map (pAt ps)
  have h2:(List.range ps.length).map (pAt ps)=ps:=by
   apply List.ext_getElem?
   intro i
   rw[W0]
   rcases A2 i ps.length with h|h
   ·rw[List.getElem?_range h]
    show some (pAt ps i)=_
    unfold pAt
    simp[h]
   ·rw[X0 (by simpa using h),X0 h];rfl
  rwa[h2] at h1
 ·have hz:=hp.size
  rw[List.pairwise_iff_getElem]
  intro i j hi hj hij
  have hi':i<p.size:=by simpa using hi
  have hj':j<p.size:=by simpa using hj
  have h:=hs i j hij ()
  rw[gd_get hi',gd_get hj'] at h
  simpa using h
theorem zg1{α β:Type}{R:α->β->Prop}:∀{as:List α} {bs:List β},Paired R as bs->as.length=bs.length/\∀(i:Nat) (a:α) (b:β),as[i]?=some a->bs[i]?=some b->R a b
 |_,_, .nil=>⟨rfl,λi a b e=>by simp at e⟩
 |_,_, .cons h t=>by
  obtain⟨h1,h2⟩:=zg1 t
  refine⟨by simp[h1],λi a b e1 e2=>?_⟩
  cases i with
  |zero=>simp at e1 e2;subst e1;subst e2;exact h
  |succ i=>exact h2 i a b (by simpa using e1) (by simpa using e2)
theorem zjH(hc:X.calm=true):CallR X (.builtin "sorted") (λxs H Q=>∃(d:Addr) (kvs:List (List Key×V)) (ps:List (Str×Str)),xs=[.ref d]/\H d=some (.dT kvs)/\kvs.map (·.1)=ps.map zh4/\ps.length<64/\
 ∀(ps':List (Str×Str)) (vs:List V) l,ps'.Perm ps->ps'.Pairwise (λa b=>ltP a b=true)->zqC H vs ps'->H l=none->Q (.ref l) (upd H l (.lst vs))):=by
 intro pins s σ H xs us Q I r h
 obtain⟨d,kvs,ps,rfl,hd,hk,h64,q⟩:=h
 obtain⟨u,rfl,ru⟩:=zbq r
 cases ru
 obtain⟨_,nsys,zs,hp,o,es,ep,g,ex,dat,hes,hnd⟩:=(show ObjOk X.prog X.w H s.heap d (.dT kvs)from I.hok d _ hd)
 obtain⟨hl,hget⟩:=zg1 hp
 have hlk:kvs.length=ps.length:=by have:=congrArg List.length hk;simpa using this
 have hnp:ps.Nodup:=by
  have e:zs.map (·.1)=kvs.map (·.1):=by
   apply List.ext_getElem?
   intro i
   rw[W0,W0]
   rcases A2 i kvs.length with h|h
   ·have h':i<zs.length:=()
    have:=(hget i kvs[i] zs[i] (by simp[h]) (by simp[h'])).1
    simp[h,h',this]
   ·rw[X0 h,X0 ()];rfl
  rw[e,hk] at hnd
  exact(List.pairwise_map.mp hnd).imp λh z=>h (by rw[z])
 have kz:(zs.map λq=>Value.ref q.2.1).length=ps.length:=by rw[B0];lia
 have raw:RawD s.heap d (zs.map λq=>Value.ref q.2.1) ep:=⟨o,es,g,ex,dat,by rw[hes,List.map_map];rfl⟩
 have keyA:∀i (h:i<ps.length),∃b,(zs.map λq=>Value.ref q.2.1)[i]?=some (.ref b)/\H b=some (.tup [.str ps[i].1, .str ps[i].2]):=λi h=>by
  have h1:i<kvs.length:=()
  have h2:i<zs.length:=()
  have hr:=hget i kvs[i] zs[i] (by simp[h1]) (by simp[h2])
  refine⟨zs[i].2.1,by simp[h2],?_⟩
  have ek:kvs[i].1=zh4 ps[i]:=by
   have e1:(kvs.map (·.1))[i]?=some kvs[i].1:=by simp[h1]
   rw[hk] at e1
   have e2:(ps.map zh4)[i]?=some (zh4 ps[i]):=by simp[h]
   rw[e1] at e2
   exact A1 e2
  rw[hr.2.1,ek]
  rfl
 have keyT:∀(i:Nat) (u:Value) (p:Str×Str),(zs.map λq=>Value.ref q.2.1)[i]?=some u->ps[i]?=some p->TupAt s.heap u p:=λi u p e1 e2=>by
  have hi:i<ps.length:=by
   rcases A2 i ps.length with z|z
   ·exact z
   ·rw[X0 z] at e2;cases e2
  obtain⟨b,f1,f2⟩:=keyA i hi
  rw[f1] at e1
  cases e1
  have ep':ps[i]=p:=by simpa[hi] using e2
  rw[ep'] at f2
  obtain⟨_,its,rv,⟨o',g',c',n',d'⟩,_⟩:=(show ObjOk X.prog X.w H s.heap b (.tup [.str p.1, .str p.2])from I.hok b _ f2)
  cases rv with
  |cons r1 rv=>cases rv with
   |cons r2 rv=>cases rv with
    |nil=>
     obtain⟨t1,rfl⟩:=r1
     obtain⟨t2,rfl⟩:=r2
     exact⟨b,o',n',t1,t2,rfl,g',c',d'⟩
 generalize hks:(zs.map λq=>Value.ref q.2.1)=ks at *
 refine zlJ (A:=X.A) (G:=λp=>PermN ps.length p/\Sor (λi j=>ltP (pAt ps i) (pAt ps j)) p ps.length) (κ:=tuples' true) (zqt (ks:=ks) (ep:=ep) nsys) (I.ok.hd hc) raw () (λh2 s1 k1=>?_) (λD out h' tk c ho kp hD gD=>?_)
 ·have keyT1:∀(i:Nat) (u:Value) (p:Str×Str),ks[i]?=some u->ps[i]?=some p->TupAt s1.heap u p:=λi u p e1 e2=>(keyT i u p e1 e2).keeps k1
  obtain⟨fs,ft,fl,fa⟩:=zfz kz keyT1
  refine⟨λC hC=>kat_kind (T:= .type "str") ft () (λf hf=>?_) rfl hC,?_⟩
  ·obtain ⟨x,t,rfl⟩:=fa f hf
   exact Looks.of_pure rfl
  ·rw[kz]
   refine OkT.wp (N:=ps.length) (lt:=λi j=>ltP (pAt ps i) (pAt ps j)) (I:=λs'=>s'=s1) (λi j C s' hi hj e hC=>?_) (λp s' hp e=>⟨e,hp⟩) rfl (sort_ok (zjw hnp) ())
   subst e
   have gi:∀i,i<ps.length->TupAt s'.heap (ks.getD i Value.none) (pAt ps i):=λi hi=>by
    have hi':i<ks.length:=()
    refine keyT1 i _ _ ?_ ?_
    ·simp[hi']
    ·unfold pAt;simp[hi]
   exact zo2 (gi i hi) (gi j hj) (hC s' rfl)
 ·
  have nD:H D=none:=I.hok.fresh hD
  obtain⟨ps',hperm,hpw,hout⟩:∃ps':List (Str×Str),ps'.Perm ps/\ps'.Pairwise (λa b=>ltP a b=true)/\out.length=ps'.length/\∀(i:Nat) (u:Value) (p:Str×Str),out[i]?=some u->ps'[i]?=some p->∃b,u= .ref b/\H b=some (.tup [.str p.1, .str p.2]):=by
   rcases ho with⟨hlt,rfl⟩|⟨p,hp,⟨hP,hS⟩,rfl⟩
   ·refine ⟨ps, .refl _,?_,kz,λi u p e1 e2=>?_⟩
    ·match ps,(show ps.length<2 by lia)with
     |[],_=>exact .nil
     |[x],_=>exact List.pairwise_singleton _ _
    ·have hi:i<ps.length:=by
      rcases A2 i ps.length with z|z
      ·exact z
      ·rw[X0 z] at e2;cases e2
     obtain⟨b,f1,f2⟩:=keyA i hi
     rw[f1] at e1;cases e1
     have ep':ps[i]=p:=by simpa[hi] using e2
     rw[ep'] at f2
     exact⟨b,rfl,f2⟩
   ·obtain ⟨o1,o2⟩:=zm8 hP hS
    refine⟨p.toList.map (pAt ps),o1,o2,by rw[B0,B0],λi u q e1 e2=>?_⟩
    rw[W0] at e1 e2
    cases hpi:p.toList[i]? with
    |none=>rw[hpi] at e1;cases e1
    |some j=>
     rw[hpi] at e1 e2
     have hj:j<ps.length:=C2.mp (hP.mem_iff.mp (L0 hpi))
     obtain⟨b,f1,f2⟩:=keyA j hj
     have hj':j<ks.length:=()
     have eu:ks.getD j Value.none= .ref b:=by
      rw[List.getD_eq_getElem?_getD,f1];rfl
     have e1':some (ks.getD j Value.none)=some u:=e1
     rw[eu] at e1'
     have e2':some (pAt ps j)=some q:=e2
     have eq:pAt ps j=ps[j]:=by unfold pAt;simp[hj]
     rw[eq] at e2'
     cases e1'
     cases e2'
     exact⟨b,rfl,f2⟩
  obtain⟨hol,hog⟩:=hout
  have hall:∀u∈out,∃b,u=Value.ref b:=λu hu=>by
   obtain⟨i,hi,rfl⟩:=List.getElem_of_mem hu
   obtain⟨b,e,_⟩:=hog i out[i] (ps'[i]'()) (by simp[hi]) (by simp[show i<ps'.length by lia])
   exact⟨b,e⟩
  obtain⟨vs,rvs⟩:∃vs:List V,Vals vs out/\∀(i:Nat) (b:Addr),out[i]?=some (.ref b)->vs[i]?=some (.ref b):=by
   clear hog hol gD ho
   induction out with
   |nil=>exact ⟨[], .nil,λi b e=>by simp at e⟩
   |cons u out ih=>
    obtain⟨vs,h1,h2⟩:=ih λu hu=>hall u (N0 _ hu)
    obtain⟨b,rfl⟩:=hall u Q0
    refine⟨.ref b::vs, .cons rfl h1,λi b' e=>?_⟩
    cases i with
    |zero=>simpa using e
    |succ i=>exact h2 i b' (by simpa using e)
  have lv:vs.length=out.length:=rvs.1.length
  refine⟨.ref D,_,I.laid (a:=D) (o:= .lst vs) (t':=tk) kp hD ⟨by rw[lv,hol,hperm.length_eq];exact Nat.le_of_lt (zE ()),out,c,rvs.1,gD⟩,rfl,q ps' vs D hperm hpw ⟨(),λi v p e1 e2=>?_⟩ nD⟩
  have hi:i<out.length:=by
   rcases A2 i out.length with z|z
   ·exact z
   ·rw[X0 ()] at e1;cases e1
  obtain⟨b,f1,f2⟩:=hog i out[i] p (by simp[hi]) e2
  have:=rvs.2 i b (by rw[←f1];simp[hi])
  rw[this] at e1
  cases e1
  exact⟨b,rfl,f2⟩
noncomputable def zkb(a c:Str)(t u:Tok)(i:Nat):Value:=if i=0 then .str a t else .str c u
theorem zjT{a c:Str}{t u:Tok}{v:Value}(h:(#[Value.str a t,Value.str c u])[i]?=some v):(i=0/\v= .str a t)\/(i=1/\v= .str c u):=by
 match i,h with
 |0,h=>exact .inl ⟨rfl,by simpa using h.symm⟩
 |1,h=>exact .inr ⟨rfl,by simpa using h.symm⟩
 |i+2,h=>simp at h
theorem zjD{a c:Str}{t u:Tok}{R:Value->Shared->Prop}(hh:A.handled=none)(q:∀h' tk,(∀b o,s.heap.get? b=some o->h'.get? b=some o)->R (if ltS a c=true then .str c u else .str a t) {s with heap:=h',toks:=tk}):
 wpAny (model prog w) A (call (.builtin "max") [.str a t, .str c u]) R E s:=by
 have hT:(s.heap.push {cls:= .type "tuple",data:= .seq #[.str a t, .str c u]}).IsTuple s.heap.objs.size #[.str a t, .str c u]:=⟨_,M0 _ rfl,rfl,0,rfl⟩
 have z:(s.heap.push {cls:= .type "tuple",data:= .seq #[.str a t, .str c u]}).objs.size=s.heap.objs.size+1:=Heap.size_push ..
 refine call_max_two (wpAny_pyIter_tuple hT ?_)
 refine⟨_,[_,s.heap.objs.size],[_],_,_,_,λi j=>ltS (strOf (zkb a c t u j)) (strOf (zkb a c t u i)),rfl,Walks.tuple (A:=A.in1) hh _ s.heap.objs.size (by rw[z];exact R1 (Nat.lt_succ_self _)) #[.str a t, .str c u],⟨⟨_,M0 _ rfl,rfl,rfl⟩,hT.push _⟩,λb hb=>?_,(by decide:0<2),?_,λv h' tk hP hk=>?_⟩
 ·show b<((s.heap.push _).push _).objs.size
  rw[Heap.size_push,z]
  rcases I0.mp hb with rfl|hb
  ·rw[z];exact Nat.lt_succ_self _
  ·rcases I0.mp hb with rfl|hb
   ·exact Nat.lt_succ_of_lt (Nat.lt_succ_self _)
   ·cases hb
 ·intro i j vi vj s' R' E' hi hj hq
  rcases zjT hi with⟨rfl,rfl⟩|⟨rfl,rfl⟩<;>rcases zjT hj with⟨rfl,rfl⟩|⟨rfl,rfl⟩<;>exact (P.gt_str hq:wpAny (model prog w) A.in1 (compareOp .Gt _ _) R' E' s')
 ·have keep:∀b o,s.heap.get? b=some o->h'.get? b=some o:=λb o e=>hk b o (λhm=>by
   rcases I0.mp hm with e1|hm
   ·have lb:=P0 e
    rw[e1,z] at lb
    exact absurd lb (Nat.not_lt.mpr (Nat.le_succ _))
   ·cases hm) (C0 _ (C0 _ e))
  have fin:=q h' tk keep
  have eb:argBest (λi j=>ltS (strOf (zkb a c t u j)) (strOf (zkb a c t u i))) (2 -1)=if ltS a c=true then 1 else 0:=rfl
  have hP':(#[Value.str a t,Value.str c u])[if ltS a c=true then 1 else 0]?=some v:=hP
  by_cases hc:ltS a c=true
  ·rw[p0 hc] at hP' fin
   have ev:Value.str c u=v:=by simpa using hP'
   rw[←ev];exact fin
  ·rw[V0 hc] at hP' fin
   have ev:Value.str a t=v:=by simpa using hP'
   rw[←ev];exact fin
theorem zjA{a c:Str}{t u:Tok}{R:Value->Shared->Prop}(hh:A.handled=none)(q:∀h' tk,(∀b o,s.heap.get? b=some o->h'.get? b=some o)->R (if ltS c a=true then .str c u else .str a t) {s with heap:=h',toks:=tk}):
 wpAny (model prog w) A (call (.builtin "min") [.str a t, .str c u]) R E s:=by
 have hT:(s.heap.push {cls:= .type "tuple",data:= .seq #[.str a t, .str c u]}).IsTuple s.heap.objs.size #[.str a t, .str c u]:=⟨_,M0 _ rfl,rfl,0,rfl⟩
 have z:(s.heap.push {cls:= .type "tuple",data:= .seq #[.str a t, .str c u]}).objs.size=s.heap.objs.size+1:=Heap.size_push ..
 refine call_min_two (wpAny_pyIter_tuple hT ?_)
 refine⟨_,[_,s.heap.objs.size],[_],_,_,_,λi j=>ltS (strOf (zkb a c t u i)) (strOf (zkb a c t u j)),rfl,Walks.tuple (A:=A.in1) hh _ s.heap.objs.size (by rw[z];exact R1 (Nat.lt_succ_self _)) #[.str a t, .str c u],⟨⟨_,M0 _ rfl,rfl,rfl⟩,hT.push _⟩,λb hb=>?_,(by decide:0<2),?_,λv h' tk hP hk=>?_⟩
 ·show b<((s.heap.push _).push _).objs.size
  rw[Heap.size_push,z]
  rcases I0.mp hb with rfl|hb
  ·rw[z];exact Nat.lt_succ_self _
  ·rcases I0.mp hb with rfl|hb
   ·exact Nat.lt_succ_of_lt (Nat.lt_succ_self _)
   ·cases hb
 ·intro i j vi vj s' R' E' hi hj hq
  rcases zjT hi with⟨rfl,rfl⟩|⟨rfl,rfl⟩<;>rcases zjT hj with⟨rfl,rfl⟩|⟨rfl,rfl⟩<;>exact (lt_str hq:wpAny (model prog w) A.in1 (compareOp .Lt _ _) R' E' s')
 ·have keep:∀b o,s.heap.get? b=some o->h'.get? b=some o:=λb o e=>hk b o (λhm=>by
   rcases I0.mp hm with e1|hm
   ·have lb:=P0 e
    rw[e1,z] at lb
    exact absurd lb (Nat.not_lt.mpr (Nat.le_succ _))
   ·cases hm) (C0 _ (C0 _ e))
  have fin:=q h' tk keep
  have eb:argBest (λi j=>ltS (strOf (zkb a c t u i)) (strOf (zkb a c t u j))) (2 -1)=if ltS c a=true then 1 else 0:=rfl
  have hP':(#[Value.str a t,Value.str c u])[if ltS c a=true then 1 else 0]?=some v:=hP
  by_cases hc:ltS c a=true
  ·rw[p0 hc] at hP' fin
   have ev:Value.str c u=v:=by simpa using hP'
   rw[←ev];exact fin
  ·rw[V0 hc] at hP' fin
   have ev:Value.str a t=v:=by simpa using hP'
   rw[←ev];exact fin
theorem zg7(hc:X.calm=true):CallR X (.builtin "max") (λxs H Q=>∃a c,xs=[.str a, .str c]/\Q (.str (if ltS a c=true then c else a)) H):=by
 intro pins s σ H xs us Q I r h
 obtain⟨i,j,rfl,q⟩:=h
 obtain⟨u,w',rfl,⟨t,rfl⟩,⟨t',rfl⟩⟩:=ziO r
 refine zjD (I.ok.hd hc) λh' tk k=>⟨_,H,I.kept k,?_,q⟩
 by_cases hj:ltS i j=true
 ·rw[p0 hj,p0 hj];exact⟨_,rfl⟩
 ·rw[V0 hj,V0 hj];exact⟨_,rfl⟩
theorem zg6(hc:X.calm=true):CallR X (.builtin "min") (λxs H Q=>∃a c,xs=[.str a, .str c]/\Q (.str (if ltS c a=true then c else a)) H):=by
 intro pins s σ H xs us Q I r h
 obtain⟨i,j,rfl,q⟩:=h
 obtain⟨u,w',rfl,⟨t,rfl⟩,⟨t',rfl⟩⟩:=ziO r
 refine zjA (I.ok.hd hc) λh' tk k=>⟨_,H,I.kept k,?_,q⟩
 by_cases hj:ltS j i=true
 ·rw[p0 hj,p0 hj];exact⟨_,rfl⟩
 ·rw[V0 hj,V0 hj];exact⟨_,rfl⟩
section
open PySem.SeqAt
open PySem.AutoSeq1 (wpAny_loadPart')
open PySem.MeetsSeq PySem.MeetsSeq2 PySem.MeetsSeq3
theorem zil(l b:Addr)(n n2:Nat)(dd dd2:Option Addr)(sl sl2:Array (Option Value))(x y z v:Str)(t1 t2 t3 t4:Tok):
 Meets (Builtin.«tuple.__lt__» ⟨[.ref l, .ref b],[]⟩) (λ_ R s=>s.heap.get? l=some {cls:= .type "tuple",dict:=dd,data:= .seq #[.str x t1, .str y t2] n,slots:=sl}/\s.heap.get? b=some {cls:= .type "tuple",dict:=dd2,data:= .seq #[.str z t3, .str v t4] n2,slots:=sl2}/\R (.ok (.ret (.bool (ltP (x,y) (z,v))))) s):=
 .of_wp λprog w A R s h=>by
  obtain⟨hp,g,d,tk,os⟩:=s;obtain⟨hl,hb,h⟩:=h
  have f2:=AutoSeq1.sub_tuple_tuple
  have cmp:∀(a c:Str) (t u:Tok) (E:Value->Shared->Prop) (Q:Value->Shared->Prop),Q (.bool (ltS a c)) ⟨hp,g,d,tk,os⟩->wpAny (model prog w) A.in1 (richCompare .Lt (.str a t) (.str c u)) Q E ⟨hp,g,d,tk,os⟩:=λa c t u E Q hq=>(PyProof.Rows.lt_str hq:wpAny (model prog w) A.in1 (compareOp .Lt (.str a t) (.str c u)) Q E ⟨hp,g,d,tk,os⟩)
  wp_walk using wpAny_loadPart' hl,wpAny_loadPart' hb,wpAny_forIn_list _ (λrest b s'=>b.1=none/\s'=⟨hp,g,d,tk,os⟩/\((rest=[(Value.str x t1,Value.str z t3),(Value.str y t2,Value.str v t4)])\/(rest=[(Value.str y t2,Value.str v t4)]/\x=z)\/(rest=[]/\x=z/\y=v))) _
  case turn=>
   rintro⟨p,q⟩ rest b s' ⟨hb',rfl,hr⟩
   rcases hr with hr|⟨hr,ex⟩|⟨hr,_⟩
   ·injection hr with h1 h2
    injection h1 with h3 h4
    subst h3 h4
    refine A0 (wpAny_eqBool_str ?_)
    by_cases ex:x=z
    ·rw[D0 ex]
     wp_walk
     exact⟨rfl,rfl, .inr (.inl ⟨h2,ex⟩)⟩
    ·rw[G0 ex]
     have c1:=cmp x z t1 t3
     wp_walk using c1
     unfold ltP at h
     rw[V0 ex] at h
     exact⟨_,rfl,h⟩
   ·injection hr with h1 h2
    injection h1 with h3 h4
    subst h3 h4
    refine A0 (wpAny_eqBool_str ?_)
    by_cases ey:y=v
    ·rw[D0 ey]
     wp_walk
     exact⟨rfl,rfl, .inr (.inr ⟨h2,ex,ey⟩)⟩
    ·rw[G0 ey]
     have c1:=cmp y v t2 t4
     wp_walk using c1
     unfold ltP at h
     rw[p0 ex,V0 ey] at h
     exact⟨_,rfl,h⟩
   ·cases hr
  case fin=>
   rintro⟨b1,b2⟩ s' ⟨hb',rfl,hr⟩
   simp only at hb'
   subst hb'
   rcases hr with hr|⟨hr,_⟩|⟨_,ex,ey⟩
   ·cases hr
   ·cases hr
   ·unfold ltP at h
    rw[p0 ex,p0 ey] at h
    wp_walk
    exact⟨_,rfl,h⟩
  case h=>
   exact⟨rfl,rfl, .inl rfl⟩
end
noncomputable def zts:R2:=λx y H Q=>∃a b p q,x= .ref a/\y= .ref b/\H a=some (.tup [.str p.1, .str p.2])/\H b=some (.tup [.str q.1, .str q.2])/\Q (.bl (ltP p q)) H
theorem zmO{p:Str×Str}(I:Inv X pins σ H s)(h:H a=some (.tup [.str p.1, .str p.2])):∃t1 t2 n dd sl,s.heap.get? a=some {cls:= .type "tuple",dict:=dd,data:= .seq #[.str p.1 t1, .str p.2 t2] n,slots:=sl}:=by
 obtain⟨_,its,rv,⟨o',g',c',n',d'⟩,_⟩:=(show ObjOk X.prog X.w H s.heap a (.tup [.str p.1, .str p.2])from I.hok a _ h)
 cases rv with
 |cons r1 rv=>cases rv with
  |cons r2 rv=>cases rv with
   |nil=>
    obtain⟨t1,rfl⟩:=r1
    obtain⟨t2,rfl⟩:=r2
    obtain⟨cls,dd,data,sl⟩:=o'
    simp only at c' d'
    subst c' d'
    exact⟨t1,t2,n',dd,sl,g'⟩
theorem zsC(hu:X.A.units<cLine):OpR X (compareOp .Lt) zts:=by
 intro pins s σ H x y v u Q I rx ry h
 obtain⟨a,b,p,q,rfl,rfl,ha,hb,fin⟩:=h
 cases rx
 cases ry
 obtain⟨t1,t2,n,dd,sl,g1⟩:=zmO I ha
 obtain⟨t3,t4,n2,dd2,sl2,g2⟩:=zmO I hb
 exact richCompare_meets_room (op:= .Lt) ⟨_,g1,rfl⟩ ⟨_,g2,rfl⟩ F.slot_tuple_lt F.entry_tuple_lt (F.args_tuple_lt_2 _ _) (zil a b n n2 dd dd2 sl sl2 p.1 p.2 q.1 q.2 t1 t2 t3 t4)
  ⟨g1,g2,show Value.bool (ltP p q)≠Value.notImplemented/\EP X pins σ Q (.bool (ltP p q)) s from⟨(λx=>nomatch x),⟨.bl (ltP p q),H,I,rfl,fin⟩⟩⟩ hu
noncomputable def zub:R2:=λx y H Q=>(∃i j,x= .str i/\y= .str j/\Q (.bl (ltS i j)) H)\/zts x y H Q
theorem zsx(hu:X.A.units<cLine):OpR X (compareOp .Lt) zub:=zir.or (zsC hu)
noncomputable def zte(K:W.Frag):R2:=λx y H Q=>∃a b xs ys,x= .ref a/\y= .ref b/\SqT K H a xs/\SqT K H b ys/\xs.length+ys.length<=sizeLine/\
 (xs=[]->Q (.ref b) H)/\(xs≠ []->ys=[]->Q (.ref a) H)/\(xs≠ []->ys≠ []->∀p,H p=none->Q (.ref p) (upd H p (.tup (xs ++ys))))
theorem zqS:OpR X (binaryOp .Add) (zte X.K):=by
 intro pins s σ H x y v u Q I rx ry h
 obtain⟨a,b,xs,ys,rfl,rfl,ha,hb,hz,q0,q1,q2⟩:=h
 by_cases hx:xs=[]
 ·cases rx
  cases ry
  obtain⟨its,r1,p1,_⟩:=I.tuple ha
  obtain⟨its2,r2,p2,_⟩:=I.tuple hb
  have e1:its=[]:=r1.nil_iff.mpr hx
  obtain⟨⟨cls,dd,data,sl⟩,ho,hc,n,hd⟩:=id p1
  obtain⟨⟨cls2,dd2,data2,sl2⟩,ho2,hc2,n2,hd2⟩:=id p2
  simp only at hc hd hc2 hd2
  subst hc hd hc2 hd2
  exact concat_meets ⟨_,ho,rfl⟩ ⟨_,ho2,rfl⟩ noFill_tuple_add seq_tuple_add F.slot_tuple_add F.entry_tuple_add (F.args_tuple_add_2 _ _) (tuple_addW0 a b its.toArray its2.toArray n n2 dd dd2 sl sl2 (by simp[e1])) ⟨ho,ho2,⟨.ref b,H,I,rfl,q0 hx⟩⟩
 ·exact zqE pins s σ H _ _ v u Q I rx ry ⟨a,b,xs,ys,rfl,rfl,ha,hb,hx,hz,q1 hx,q2 hx⟩
section
open PySem.AutoSeq1 (wpAny_loadPart')
end
theorem hu1(r:Room k A):A.units+1<cLine:=by have:=r.units;lia
section
variable{a b o i:Expr}{pt2:Pos}{kt k2:Nat}{ty:TE}
theorem zoB(m n:Nat)(hN:X.N.Nodup)(ha:QA X [a,b] ta)(hc:autoParam (X.calm=true) y3)(hi:autoParam (X.N[m]?=some x) y3)(hj:autoParam (X.N[n]?=some y) y3)(hij:autoParam (m≠n) w4)
 (hx:autoParam (X.env.scope.names.lookup x=some .local) y3) (hy:autoParam (X.env.scope.names.lookup y=some .local) y3)
 (hw:autoParam (swappedStores [.Tuple [.Name x px, .Name y py] kt pt] (.Tuple [a,b] k2 pt2) X.env=pure (some [x,y])) y3)
 (hs:autoParam (swapsWithSole [.Tuple [.Name x px, .Name y py] kt pt] (.Tuple [a,b] k2 pt2) pos.line X.env=pure false) y3):
 QS X (.Assign [.Tuple [.Name x px, .Name y py] kt pt] (.Tuple [a,b] k2 pt2) pos) (ztN m n ta):=⟨zrY hc hN hi hj hij hx hy ha.o hw hs⟩
theorem zpl(hu:X.A.units+1<cLine)(ho:QE X o td)(hi:QE X i ty)(hv:QE X value tv)(hs:autoParam (swapsWith value (some (.Subscript o i pos')) pos.line X.env=pure false) y3):
 QS X (.Assign [.Subscript o i pos'] value pos) (zrU td ty tv):=⟨zqh hu ho.o hi.o hv.o hs⟩
theorem zqp:QE X (.Dict [] [] pos) zop:=⟨zpw⟩
end
end
variable{ty:TE}
noncomputable def ltD:D->D->Bool
 | .str x, .str y=>ltS x y
 | .tup [.str a, .str b], .tup [.str c, .str d]=>ltP (a,b) (c,d)
 |_,_=>false
noncomputable def zpI:D->Bool| .str _=>true|_=>false
noncomputable def zgX:D->Bool| .tup [.str _, .str _]=>true|_=>false
noncomputable def zaF(ds:List D):Bool:=(List.range (ds.length -1)).all λk=>ltD (ds.getD k .non) (ds.getD (k+1) .non)
noncomputable def zap:D->Bool| .tup ds=>decide (1<=ds.length)&&decide (ds.length<=10)&&ds.all zD&&zaF ds|_=>false
noncomputable def inD(hs:List Str):D->Bool| .str x=>hs.any λy=>decide (y=x)|_=>false
noncomputable def zaj(hs:List Str)(d:D):Bool:=zD d&&inD hs d
noncomputable def zcq(hs:List Str):D->Bool
 | .tup [a,b]=>zaj hs a&&zaj hs b&&ltD a b
 |_=>false
noncomputable def zbX(hs:List Str):D->Bool| .tup ds=>ds.all (zcq hs)&&zaF ds|_=>false
noncomputable def zK:D->Bool| .tup ds=>decide (ds.length<=90)&&ds.all z7|_=>false
noncomputable def zah:D->Bool| .tup ds=>decide (ds.length<=90)&&ds.all zaG|_=>false
noncomputable def zbl:D->List Str| .tup ds=>ds.filterMap (λd=>match d with| .str x=>some x|_=>none)|_=> []
noncomputable def zdS(d:D)(n:Nat):Bool:=match d with| .tup ds=>decide (ds.length=n)|_=>false
noncomputable def zhW(g:D->Bool):D->Bool| .tup ds=>ds.all g|_=>false
noncomputable def zer:D->Bool
 | .tup [goal,houses,ties,likings,hands]=>zap houses&&zaj (zbl houses) goal&&zbX (zbl houses) ties&&zdS likings (zbl houses).length&&zdS hands (zbl houses).length&&zhW zK likings&&zhW zah hands
 |_=>false
theorem strs_map(xs:List Str):zbl (.tup (xs.map D.str))=xs:=by
 show(xs.map D.str).filterMap _=xs
 rw[List.filterMap_map]
 exact List.filterMap_some
theorem zhs:∀{ds:List D},ds.all zD=true->∃xs:List Str,ds=xs.map D.str/\∀x∈xs,zm x=true
 |[],_=>⟨[],rfl,λ_ z=>nomatch z⟩
 |d::ds,h=>by
  rw[List.all_cons,R0] at h
  obtain⟨xs,rfl,hx⟩:=zhs h.2
  cases d with
  |str x=>exact ⟨x::xs,rfl,λy hy=>by
    rcases I0.mp hy with rfl|hy
    ·exact h.1
    ·exact hx y hy⟩
  |_=>exact absurd h.1 (by simp[zD])
theorem zn4{xs:List Str}(h:xs.Pairwise (λa b=>ltS a b=true)):zaF (xs.map D.str)=true:=by
 unfold zaF
 rw[T0]
 intro k hk
 have hk':k+1<xs.length:=by have:=C2.mp hk;rw[B0] at this;lia
 have e:∀i,i<xs.length->(xs.map D.str).getD i .non=D.str (xs.getD i ⟨#[]⟩):=λi hi=>by simp[List.getD,hi]
 rw[e k (),e (k+1) hk']
 show ltS _ _=true
 have:=List.pairwise_iff_getElem.mp h k (k+1) () hk' ()
 simpa[List.getD,hk',show k<xs.length by lia] using this
theorem zlC(h:ps.Pairwise (λa b=>ltP a b=true)):zaF (ps.map λp=>D.tup [.str p.1, .str p.2])=true:=by
 unfold zaF
 rw[T0]
 intro k hk
 have hk':k+1<ps.length:=by have:=C2.mp hk;rw[B0] at this;lia
 have e:∀i (hi:i<ps.length),(ps.map λp=>D.tup [.str p.1, .str p.2]).getD i .non=D.tup [.str ps[i].1, .str ps[i].2]:=λi hi=>by simp[List.getD,hi]
 rw[e k (),e (k+1) hk']
 exact List.pairwise_iff_getElem.mp h k (k+1) () hk' ()
theorem zmP(r:RepL H vs ds)(hi:i<ds.length):∃v,vs[i]?=some v/\Rep H v (ds.getD i .non):=by
 have hv:i<vs.length:=by rw[r.1];exact hi
 refine⟨vs[i],by simp[hv],?_⟩
 have:=r.2 i vs[i] ds[i] (by simp[hv]) (by simp[hi])
 simpa[List.getD,hi] using this
theorem znG(z:Str)(n:Nat):(zhq z n).cps.toList=(List.replicate n z.cps.toList).flatten:=by
 unfold zhq
 have key:∀(k:Nat) (acc:Array Nat),((List.replicate k z.cps).foldl (·++·) acc).toList=acc.toList ++(List.replicate k z.cps.toList).flatten:=by
  intro k
  induction k with
  |zero=>intro acc;simp
  |succ k ih=>intro acc;rw[List.replicate_succ,List.foldl_cons,ih,List.replicate_succ,List.flatten_cons,Array.toList_append,V1]
 have:=key n #[]
 simpa using this
theorem zc6(c n:Nat):(zhq (one c) n).cps.toList=List.replicate n c:=by
 rw[znG]
 show(List.replicate n [c]).flatten=_
 induction n with
 |zero=>rfl
 |succ n ih=>rw[List.replicate_succ,List.flatten_cons,ih,List.replicate_succ];rfl
noncomputable def zmw(x:Str):Bool:=x.cps.toList.all λc=>some c==x.cps.toList.head?
theorem zj9(c n:Nat):zmw (zhq (one c) n)=true:=by
 unfold zmw
 rw[zc6]
 cases n with
 |zero=>rfl
 |succ n=>
  rw[T0]
  intro d hd
  rw[List.eq_of_mem_replicate hd]
  simp[List.replicate_succ]
noncomputable def zeW:List Str:=["goal","to","by","houses","tie","like","hand","keep","put","mark","long","from","strike"]
theorem zp7:∀x∈zeW,zm x=true:=`Y2
theorem znb:∀x∈zeW,zmw x=false:=`Y2
theorem zq4:∀c∈zbW.cps.toList,∀k∈List.range 8,zm (zhq (one c) (k+1))=true:=`Y2
theorem zkx:zbW.length=26:=`Y2
theorem zhb:∀k∈List.range 26,zbW.cps.toList[k]?=some (97+k):=`Y2
theorem zmr(c:Nat):(one c).length=1:=rfl
noncomputable def zoJ:List Nat:=[1,3,5,7,9,11]
theorem zoM:∀f∈List.range 26,∀st∈zoJ,((List.range 13).map λk=>(f+st*k)%26).Nodup:=`Y2
noncomputable def nmS(f st k:Nat):Str:=zhq (one (97+(f+st*k)%26)) (1+(k*k+f)%8)
noncomputable def kwS(sp k:Nat):Str:=zeW.getD ((sp+3*k)%13) ""
noncomputable def zbz(f st sp j k:Nat):Str:=if k<j then kwS sp k else nmS f st k
theorem zrW:∀sp∈List.range 13,((List.range 4).map λk=>kwS sp k).Nodup:=`Y2
theorem zlD(sp k:Nat):kwS sp k∈zeW:=by
 unfold kwS
 have h:(sp+3*k)%13<zeW.length:=Nat.mod_lt _ ⋯
 simp[List.getD,h]
theorem zo4{l:List α}(h:l.Nodup)(hi:i<l.length)(hj:j<l.length)(hij:i≠j):l[i]≠l[j]:=λz=>hij ((List.getElem_inj h).mp z)
theorem zj6{f st sp m:Nat}(hf:f<26)(hst:st∈zoJ)(hsp:sp<13)(hj:j<=4)(hm:m<=13):((List.range m).map (zbz f st sp j)).Nodup:=by
 have key:∀a b,a<b->b<13->zbz f st sp j a≠zbz f st sp j b:=by
  intro a b hab hb
  unfold zbz
  by_cases h1:a<j
  ·rw[p0 h1]
   by_cases h2:b<j
   ·rw[p0 h2]
    have:=zo4 (zrW sp (C2.mpr hsp)) (i:=a) (j:=b) (by simp;lia) (by simp;lia) ()
    simpa using this
   ·rw[V0 h2]
    intro z
    have e1:=znb _ (zlD sp a)
    rw[z] at e1
    unfold nmS at e1
    rw[zj9] at e1
    cases e1
  ·rw[V0 h1,V0 ()]
   intro z
   have hh:(nmS f st a).cps.toList.head?=(nmS f st b).cps.toList.head?:=by rw[z]
   unfold nmS at hh
   rw[zc6,zc6,Nat.add_comm 1,Nat.add_comm 1,List.replicate_succ,List.replicate_succ] at hh
   simp only[List.head?_cons,Option.some.injEq] at hh
   have:=zo4 (zoM f (C2.mpr hf) st hst) (i:=a) (j:=b) (by simp;lia) (by simp;lia) ()
   simp at this
   lia
 rw[List.nodup_iff_pairwise_ne,List.pairwise_map]
 refine List.Pairwise.imp_of_mem (λ{a b} ha hb hab=>?_) (List.pairwise_lt_range (n:=m))
 exact key a b hab (by have:=C2.mp hb;lia)
theorem ztq(f st k:Nat):zm (nmS f st k)=true:=by
 unfold nmS
 rw[Nat.add_comm 1]
 have hr:(f+st*k)%26<26:=Nat.mod_lt _ ⋯
 exact zq4 _ (L0 (zhb _ (C2.mpr hr))) _ (C2.mpr (Nat.mod_lt _ ⋯))
theorem zrc(f st sp j k:Nat):zm (zbz f st sp j k)=true:=by
 unfold zbz
 split
 ·exact zp7 _ (zlD sp k)
 ·exact ztq f st k
theorem zpu{f st sp m:Nat}(hj:j<m):((List.range m).map (zbz f st sp j)).set j (kwS sp j)=(List.range m).map (zbz f st sp (j+1)):=by
 apply List.ext_getElem?
 intro i
 rw[List.getElem?_set]
 by_cases e:j=i
 ·subst e
  rw[p0 rfl,p0 (by simp;exact hj)]
  simp[hj,zbz]
 ·rw[V0 e]
  rcases A2 i m with h|h
  ·rw[W0,W0,List.getElem?_range h]
   show some _=some _
   congr 1
   unfold zbz
   by_cases h1:i<j
   ·rw[p0 h1,p0 ()]
   ·rw[V0 h1,V0 ()]
  ·rw[X0 (by simpa using h),X0 (by simpa using h)]
theorem zqn{sp:Nat}:zeW[(sp+3*k)%13]?=some (kwS sp k):=by
 unfold kwS
 have h:(sp+3*k)%13<zeW.length:=Nat.mod_lt _ ⋯
 simp[List.getD,h]
theorem zd4{m:Nat}:za0 xs (some (m:Int)) none=xs.drop m:=by
 unfold za0
 have e1:sIx xs.length xs.length none=xs.length:=rfl
 have e2:sIx xs.length 0 (some (m:Int))=min m xs.length:=by
  unfold sIx
  have h:¬(m:Int)<0:=()
  simp only[V0 h,Q2]
 rw[e1,e2]
 rcases A2 m xs.length with h|h
 ·rw[Nat.min_eq_left (),List.take_of_length_le (by rw[List.length_drop];lia)]
 ·rw[Nat.min_eq_right h,List.drop_of_length_le (K0 _),List.drop_of_length_le h];simp
theorem zgt{N:Nat}{Pw:Nat->V->Prop}{ok:Hp->Prop}{m c:Int}{src:List (Option Nat)}{Q:VK}(wk:Wk J N Pw ok)(hok:∀H',Keep a H H'->ok H')(hs:zdy src σ=none::σr)(hH:Hand H a m)(hN:N<=900)(hc:0<=c)
 (he:∀(i:Nat) (x:V) (H1:Hp) (Q1:VK),i<N->Hand H1 a (m+c*i)->Keep a H H1->(∀v d H2,Rep H2 v d->Pd i d->Hand H2 a (m+c*i+c)->Keep a H1 H2->Q1 v H2)->te (some x::σr) H1 Q1)
 (q:∀l vs ds H',H l=none->H' l=some (.lst vs)->RepL H' vs ds->ds.length=N->(∀i d,ds[i]?=some d->Pd i d)->Hand H' a (m+c*N)->Keep a H H'->Q (.ref l) H'):zdx (zb1 0) znO te src σ Q J H:=by
 refine zaD wk (λl i ys σ' H'=>(∃o,σ'=o::σr)/\(∃ds:List D,RepL H' ys ds/\ds.length=i/\∀j d,ds[j]?=some d->Pd j d)/\Hand H' a (m+c*i)/\Keep a H H') ?_ (λ_ _ _ _ _ _ p=>hok _ p.2.2.2) ?_ ?_
 ·exact λl hl=>⟨⟨_,hs⟩,⟨[],RepL.nil,rfl,λj d z=>by simp at z⟩,(hH.new hl).mono `Z2,Keep.new hl⟩
 ·rintro l i y ys σ' H1 hl hi hy ⟨⟨o,rfl⟩,⟨ds,hr,hl2,hp⟩,hH1,k1⟩ hl'
  have nl:=hH.ne hl
  refine he i y H1 _ hi hH1 k1 λv d H2 rv pd hH2 k2=>?_
  have hl2':H2 l=some (.lst ys):=k2 _ _ nl hl'
  have m2:Mono H1 H2:=Mono.keep k2 hH1 hH2
  have m3:Mono H2 (upd H2 l (.lst (ys ++ [v]))):=Mono.lset hl2'
  refine⟨hl2',?_,⟨_,rfl⟩,⟨ds ++ [d],((hr.mono m2).append (.cons rv .nil)).mono m3,?_,?_⟩,(hH2.updNe nl).mono ?_,(k1.trans k2).updNew hl⟩
  ·have:=hr.1
   exact zE ()
  ·rw[O0,hl2];rfl
  ·intro j e he
   by_cases hj:j<ds.length
   ·rw[K2 hj] at he
    exact hp j e he
   ·rw[E2 ()] at he
    have hj2:j=ds.length:=by
     rcases A2 ds.length j with z|z
     ·rw[X0 (by simp;lia)] at he;cases he
     ·lia
    subst hj2
    simp at he
    subst he
    rw[hl2];exact pd
  ·rw[show((i+1:Nat):Int)=(i:Int)+1 by lia,Int.mul_add,Int.mul_one]
   lia
 ·rintro l ys σ' H1 hl ⟨⟨o,rfl⟩,⟨ds,hr,hl2,hp⟩,hH1,k1⟩ hl'
  exact q l ys ds H1 hl hl' hr hl2 hp hH1 k1
noncomputable def pairD(p:Str×Str):D:= .tup [.str p.1, .str p.2]
structure TownOk(g:Str)(hs:List Str)(ps:List (Str×Str))(lks hds:List D):Prop where
 rise:hs.Pairwise (λa b=>ltS a b=true)
 one:1<=hs.length
 ten:hs.length<=10
 names:∀x∈hs,zm x=true
 goal:g∈hs
 riseP:ps.Pairwise (λa b=>ltP a b=true)
 ties:∀p∈ps,p.1∈hs/\p.2∈hs/\ltS p.1 p.2=true
 ll:lks.length=hs.length
 lh:hds.length=hs.length
 likes:∀d∈lks,zK d=true
 hands:∀d∈hds,zah d=true
noncomputable def ze0(g:Str)(hs:List Str)(ps:List (Str×Str))(lks hds:List D):D:= .tup [.str g, .tup (hs.map D.str), .tup (ps.map pairD), .tup lks, .tup hds]
theorem zhf{hs:List Str}(h:x∈hs)(hn:zm x=true):zaj hs (.str x)=true:=by
 show(zm x&&hs.any λy=>decide (y=x))=true
 rw[hn,List.any_eq_true.mpr ⟨x,h,D0 rfl⟩];rfl
theorem znm{hs:List Str}(h1:hs.Pairwise (λa b=>ltS a b=true))(h2:1<=hs.length)(h3:hs.length<=10)(h4:∀x∈hs,zm x=true):zap (.tup (hs.map D.str))=true:=by
 show(decide (1<=(hs.map D.str).length)&&decide ((hs.map D.str).length<=10)&&(hs.map D.str).all zD&&zaF (hs.map D.str))=true
 have e:(hs.map D.str).all zD=true:=by
  rw[List.all_map,T0]
  exact λx hx=>h4 x hx
 rw[B0,D0 h2,D0 h3,e,zn4 h1];rfl
theorem zrl{hs:List Str}(h1:ps.Pairwise (λa b=>ltP a b=true))(h2:∀p∈ps,p.1∈hs/\p.2∈hs/\ltS p.1 p.2=true)(h4:∀x∈hs,zm x=true):zbX hs (.tup (ps.map pairD))=true:=by
 show((ps.map pairD).all (zcq hs)&&zaF (ps.map pairD))=true
 have e:(ps.map pairD).all (zcq hs)=true:=by
  rw[List.all_map,T0]
  intro p hp
  obtain⟨q1,q2,q3⟩:=h2 p hp
  show(zaj hs (.str p.1)&&zaj hs (.str p.2)&&ltS p.1 p.2)=true
  rw[zhf q1 (h4 _ q1),zhf q2 (h4 _ q2),q3];rfl
 have e2:zaF (ps.map pairD)=true:=zlC h1
 rw[e,e2];rfl
theorem TownOk.ok{g:Str}{hs:List Str}(T:TownOk g hs ps lks hds):zer (ze0 g hs ps lks hds)=true:=by
 show(zap (.tup (hs.map D.str))&&zaj (zbl (.tup (hs.map D.str))) (.str g)&&zbX (zbl (.tup (hs.map D.str))) (.tup (ps.map pairD))&&zdS (.tup lks) (zbl (.tup (hs.map D.str))).length&&zdS (.tup hds) (zbl (.tup (hs.map D.str))).length&&zhW zK (.tup lks)&&zhW zah (.tup hds))=true
 rw[strs_map,znm T.rise T.one T.ten T.names,zhf T.goal (T.names _ T.goal),zrl T.riseP T.ties T.names]
 have e1:zdS (.tup lks) hs.length=true:=D0 T.ll
 have e2:zdS (.tup hds) hs.length=true:=D0 T.lh
 have e3:zhW zK (.tup lks)=true:=T0.mpr T.likes
 have e4:zhW zah (.tup hds)=true:=T0.mpr T.hands
 rw[e1,e2,e3,e4];rfl
section
variable{es:List D}
end
section
variable{es:List D}
end
theorem zhL{hs:List Str}(h:∀x∈hs,x.length<=1000):RepL H (hs.map V.str) (hs.map D.str):=by
 refine⟨by rw[B0,B0],λi v d hv hd=>?_⟩
 rw[W0] at hv hd
 cases e:hs[i]? with
 |none=>rw[e] at hv;cases hv
 |some x=>
  rw[e] at hv hd
  cases hv
  cases hd
  exact .str x (h x (L0 e))
inductive Tr(H:Hp):V->PyData->Prop
 |non:Tr H .non .none
 |bl (b:Bool):Tr H (.bl b) (.bool b)
 |int (i:Int):Tr H (.int i) (.int i)
 |str (x:Str) (h:PyData.strOk x=true):Tr H (.str x) (.str x)
 |tup {p:Addr} {vs:List V} {ds:List PyData} (e:H p=some (.tup vs)) (hl:vs.length=ds.length) (h:∀(i:Nat) (v:V) (d:PyData),vs[i]?=some v->ds[i]?=some d->Tr H v d):Tr H (.ref p) (.tuple ds)
 |lst {p:Addr} {vs:List V} {ds:List PyData} (e:H p=some (.lst vs)) (hl:vs.length=ds.length) (h:∀(i:Nat) (v:V) (d:PyData),vs[i]?=some v->ds[i]?=some d->Tr H v d):Tr H (.ref p) (.list ds)
theorem zbY{h:Heap}:∀{vs:List V} {us:List Value} {ds:List PyData},Vals vs us->vs.length=ds.length->(∀(i:Nat) (v:V) (d:PyData),vs[i]?=some v->ds[i]?=some d->∀u,RelV v u->∃as,Reads h u d as)->∃bs,ReadsAll h us ds bs
 |_,_,[], .nil,_,_=>⟨_, .nil⟩
 |v::vs,u::us,d::ds, .cons r t,hl,hh=>by
  obtain⟨as,ha⟩:=hh 0 v d rfl rfl u r
  obtain⟨bs,hb⟩:=zbY t (by simpa using hl) λi v' d' h1 h2=>hh (i+1) v' d' h1 h2
  exact⟨_, .cons ha hb⟩
 |[],_,d::ds, .nil,hl,_=>by simp at hl
 |v::vs,u::us,[], .cons r t,hl,_=>by simp at hl
theorem Tr.reads(I:Inv X pins σ H s){x:V}{d:PyData}(t:Tr H x d):∀v,RelV x v->∃as,Reads s.heap v d as:=by
 induction t with
 |non=>intro v r;cases r;exact⟨_, .none⟩
 |bl b=>intro v r;cases r;exact⟨_, .bool b⟩
 |int i=>intro v r;obtain⟨t,rfl⟩:=r;exact⟨_, .int i t⟩
 |str x h=>intro v r;obtain⟨t,rfl⟩:=r;exact⟨_, .str x t⟩
 |tup e hl h ih=>
  intro v r
  cases r
  obtain⟨its,rv,⟨o,ho,hc,n,hd⟩,_⟩:=I.tuple (SqT.of e)
  obtain⟨bs,hb⟩:=zbY (h:=s.heap) rv hl ih
  exact⟨_, .tuple ho hc hd (by simpa using hb)⟩
 |lst e hl h ih=>
  intro v r
  cases r
  obtain⟨its,n,rv,ho,_⟩:=I.lst e
  obtain⟨bs,hb⟩:=zbY (h:=s.heap) rv hl ih
  exact⟨_, .list ho rfl rfl (by simpa using hb)⟩
theorem zdf:∀{vs:List V} {ds:List PyData},vs.length=ds.length->(∀(i:Nat) (v:V) (d:PyData),vs[i]?=some v->ds[i]?=some d->d.canLay0=true)->PyData.canLayAll0 ds=true
 |_,[],_,_=>rfl
 |v::vs,d::ds,hl,hh=>by
  rw[PyData.canLayAll0,hh 0 v d rfl rfl,zdf (vs:=vs) (ds:=ds) (by simpa using hl) λi v' d' h1 h2=>hh (i+1) v' d' h1 h2];rfl
 |[],d::ds,hl,_=>by simp at hl
theorem Tr.can{x:V}{d:PyData}(t:Tr H x d):d.canLay0=true:=by
 induction t with
 |non=>rfl
 |bl b=>rfl
 |int i=>rfl
 |str x h=>simp only[PyData.canLay0];exact h
 |tup e hl h ih=>rw[PyData.canLay0];exact zdf hl ih
 |lst e hl h ih=>rw[PyData.canLay0];exact zdf hl ih
noncomputable def zuu:R2:=λx y H Q=>∃d e,Tr H x d/\Tr H y e/\min d.depth e.depth<=60/\Q (.bl (d.eqv e)) H
theorem zpL(hu:X.A.units+64<cLine):OpR X (compareOp .Eq) zuu:=by
 intro pins s σ H x y v u Q I rx ry h
 obtain⟨d,e,t1,t2,hd,q⟩:=h
 obtain⟨as,r1⟩:=t1.reads I v rx
 obtain⟨bs,r2⟩:=t2.reads I u ry
 exact SeqAt.compareEq_reads r1 r2 t1.can t2.can () ⟨.bl _,H,I,rfl,q⟩
noncomputable def zuq:R2:=λx y H Q=>∃d es,Tr H x d/\(Tr H y (.list es)\/Tr H y (.tuple es))/\d.depth<=60/\Q (.bl (es.any λy=>y.eqv d)) H
theorem zsl(hu:X.A.units+64<cLine):OpR X (compareOp .In) zuq:=by
 intro pins s σ H x y v u Q I rx ry h
 obtain⟨d,es,t1,t2,hd,q⟩:=h
 obtain⟨as,r1⟩:=t1.reads I v rx
 rcases t2 with t2|t2
 ·obtain ⟨bs,r2⟩:=t2.reads I u ry
  have c:=t2.can
  rw[PyData.canLay0] at c
  exact SeqAt.in_list_reads r2 r1 c t1.can () ⟨.bl _,H,I,rfl,q⟩
 ·obtain ⟨bs,r2⟩:=t2.reads I u ry
  have c:=t2.can
  rw[PyData.canLay0] at c
  exact SeqAt.in_tuple_reads r2 r1 c t1.can () ⟨.bl _,H,I,rfl,q⟩
theorem zn2(r:Room k A):A.units+64<cLine:=by have:=r.un;lia
section
variable{p1 p2:Pos}
end
section
variable{es:List D}
end
theorem znT:∀x∈zeW,x≠"nowhere":=`Y2
theorem zn1:zmw "nowhere"=false:=`Y2
theorem znC(f st sp j k:Nat):zbz f st sp j k≠"nowhere":=by
 unfold zbz
 split
 ·exact znT _ (zlD sp k)
 ·intro z
  have e:=zn1
  rw[←z] at e
  unfold nmS at e
  rw[zj9] at e
  cases e
section
variable{es:List D}{g:D->Bool}{lf:Addr}{m:Nat}
end
section
variable{x h t l a:D}
end
section
variable{es:List D}{g:D->Bool}{m:Nat}
end
theorem zl7(h:zm x=true):PyData.strOk x=true:=by
 unfold zm at h
 simp only[R0] at h
 have h2:=h.1.2
 unfold PyData.strOk
 rw[Array.all_eq_true']
 intro c hc
 have:=T0.mp h2 c (by simpa using hc)
 unfold zaM at this
 simp only[R0,decide_eq_true_eq] at this
 exact D0 ()
theorem zcx{b:Bool}{X:Prop}(h:b=true)(x:X):if b=true then X else Y:=by rw[p0 h];exact x
theorem zas{b:Bool}{X:Prop}(h:b=false)(y:Y):if b=true then X else Y:=by rw[V0 (by rw[h];decide)];exact y
section
open PySem.W
end
theorem zq9{hs:List Str}:inV (.str x) (hs.map V.str)=hs.any λy=>decide (y=x):=by
 unfold inV
 rw[List.any_map]
 congr 1
theorem zfU{hs:List Str}:(hs.map V.str).all zfT=true:=by
 rw[List.all_map,T0]
 exact λ_ _=>rfl
theorem zfq{xs:List Str}(h:Rep H v (.tup (xs.map D.str))):∃p,v= .ref p/\H p=some (.tup (xs.map V.str)):=by
 obtain⟨p,vs,rfl,hp,r,_⟩:=h.ofT
 refine⟨p,rfl,?_⟩
 have e:vs=xs.map V.str:=by
  apply List.ext_getElem?
  intro i
  rcases A2 i xs.length with hi|hi
  ·have hv:i<vs.length:=by rw[r.1,B0];exact hi
   have:=r.2 i vs[i] (.str xs[i]) (by simp[hv]) (by simp[hi])
   rw[l0 hv,W0,l0 hi]
   generalize vs[i]=z at this
   cases this
   rfl
  ·rw[X0 (by rw[r.1,B0];exact hi),X0 (by rw[B0];exact hi)]
 rw[←e];exact hp
theorem zsc{d1 d2 d3 d4 d5:D}(h:Rep H v (.tup [d1,d2,d3,d4,d5])):∃p x1 x2 x3 x4 x5,v= .ref p/\H p=some (.tup [x1,x2,x3,x4,x5])/\Rep H x1 d1/\Rep H x2 d2/\Rep H x3 d3/\Rep H x4 d4/\Rep H x5 d5:=by
 obtain⟨p,vs,rfl,hp,r,_⟩:=h.ofT
 match vs,r with
 |[x1,x2,x3,x4,x5],r=>exact ⟨p,x1,x2,x3,x4,x5,rfl,hp,r.head.1,r.head.2.head.1,r.head.2.head.2.head.1,r.head.2.head.2.head.2.head.1,r.head.2.head.2.head.2.head.2.head.1⟩
 |[],r=>exact absurd r.1 `Z2
 |[_],r=>exact absurd r.1 `Z2
 |[_,_],r=>exact absurd r.1 `Z2
 |[_,_,_],r=>exact absurd r.1 `Z2
 |[_,_,_,_],r=>exact absurd r.1 `Z2
 |_::_::_::_::_::_::_,r=>exact absurd r.1 `Z2
def zrZ(H:Hp)(v:V)(g:Str)(hs:List Str)(ps:List (Str×Str))(lks hds:List D):Prop:=∃p pr pt pl pa vt vl va,v= .ref p/\H p=some (.tup [.str g, .ref pr, .ref pt, .ref pl, .ref pa])/\H pr=some (.tup (hs.map V.str))/\H pt=some (.tup vt)/\RepL H vt (ps.map pairD)/\H pl=some (.tup vl)/\RepL H vl lks/\H pa=some (.tup va)/\RepL H va hds
theorem zmG{g:Str}{hs:List Str}(h:Rep H v (ze0 g hs ps lks hds)):zrZ H v g hs ps lks hds:=by
 obtain⟨p,x1,x2,x3,x4,x5,rfl,hp,r1,r2,r3,r4,r5⟩:=zsc h
 cases r1 with|str _ _=>
 obtain⟨pr,rfl,hpr⟩:=zfq r2
 obtain⟨pt,vt,rfl,hpt,rt,_⟩:=r3.ofT
 obtain⟨pl,vl,rfl,hpl,rl,_⟩:=r4.ofT
 obtain⟨pa,va,rfl,hpa,ra,_⟩:=r5.ofT
 exact⟨p,pr,pt,pl,pa,vt,vl,va,rfl,hp,hpr,hpt,rt,hpl,rl,hpa,ra⟩
noncomputable def ztS(ps:List (Str×Str))(x:Str):List Str:=(ps.filter λp=>decide (p.2=x)).map (·.1)++(ps.filter λp=>decide (p.1=x)).map (·.2)
theorem TownOk.hs_nd{g:Str}{hs:List Str}(T:TownOk g hs ps lks hds):hs.Nodup:=T.rise.imp λ{a b} h z=>by rw[z,zmS] at h;cases h
structure WayOk(g:Str)(hs:List Str)(ps:List (Str×Str))(ws:List Str):Prop where
 nd:ws.Nodup
 mem:∀x∈ws,x∈hs
 last:∃w0,ws=w0 ++ [g]
 tied:∀(i:Nat) (a b:Str),ws[i]?=some a->ws[i+1]?=some b->b∈ztS ps a
noncomputable def zl1(xs:List Str):List PyData:=xs.map PyData.str
def zoC(K:W.Frag):V->List V->Hp->VK->Prop:=λx vs H Q=>∃(sep:Str) (p:Addr) (ys:List Str),x= .str sep/\vs=[.ref p]/\SqT K H p (ys.map V.str)/\sep.length<=16/\(ys.map (·.length)).sum+ys.length<=1048576/\Q (.str (Txt.join sep ys)) H
theorem zfC:MtR X "str.join" (zoC X.K):=by
 intro pins s σ H x xs v us Q I rx rs h
 obtain⟨sep,p,ys,rfl,rfl,hq,h1,h2,q⟩:=h
 obtain⟨t,rfl⟩:=rx
 obtain⟨u,rfl,ru⟩:=zbq rs
 cases ru
 obtain⟨its,rv,pl,hz⟩:=I.tuple hq
 exact join_tupleW pl (by simpa using zbk rv) h1 h2 λt' k=>⟨.str _,H,I.tok _,⟨_,rfl⟩,q⟩
section
variable{es:List D}
end
section
variable{es:List D}
end
structure FunD(K:W.Frag)(x qual:Str)(st:Stmt)(f:Addr)(fd:FuncData):Prop where
 ex:∃(oc:Value) (od:Option Addr) (dt:Addr) (kV doc pm:Value) (an:Option Addr) (cdv ct:Value) (osl:Array (Option Value)) (od2:Option Addr) (n2:Nat) (sl2:Array (Option Value)),
  fd=W.fnOf x qual (zbP st) (zbg st) (zc st) (.ref dt) kV doc pm an cdv ct/\K.lookup f=some ⟨oc,od, .func fd,osl⟩/\W.codeIn K cdv qual=true/\K.lookup dt=some ⟨.type "tuple",od2, .seq #[.none] n2,sl2⟩
 kp:W.keepIn K (.ref f)=true
section
variable{mg:Str->Option Value}
end
structure AtD(K:W.Frag)(mg:Str->Option Value)(x:Str)(st:Stmt)(ps:List Str)(f:Addr)(fd:FuncData):Prop where
 fn:FunD K x x st f fd
 b:Binds K fd ps []
 bd:Binds K fd ps [.none]
 mg:mg x=some (.ref f)
 kp:W.keepIn K (.ref f)=true
variable{mg:Str->Option Value}
noncomputable def zaq(O:List Str):D->Bool| .tup [_, .str x]=>decide (x∈O)|_=>true
noncomputable def zcA(O:List Str):D->Bool| .tup [.str w,e]=>if w="not"then zaq O e else zaq O (.tup [.str w,e])|_=>true
noncomputable def zqK(O:List Str):D->Bool| .tup ds=>ds.all (zcA O)|_=>true
noncomputable def zjf(O:List Str):D->Bool| .tup [c,t]=>zqK O c&&zaq O t|_=>true
noncomputable def zcO(O:List Str):D->Bool| .tup ds=>ds.all (zjf O)|_=>true
structure Pool(hs:List Str)(lks hds:List D)(O:List Str):Prop where
 few:O.length<=14
 nm:∀x∈O,zm x=true
 hs:∀x∈hs,x∈O
 lk:∀d∈lks,zcO O d=true
 hd:∀d∈hds,zcO O d=true
variable{hs:List Str}
noncomputable def zjq(O:List Str)(d:D):Bool:=z7 d&&zjf O d
noncomputable def zjI(O:List Str)(d:D):Bool:=zaG d&&zjf O d
theorem zbZ{y:D}(h:x∈O):zaq O (.tup [y, .str x])=true:=D0 h
theorem zjb{w:Str}{e:D}(h:zt (.tup [.str w,e])=true)(hp:zaq O (.tup [.str w,e])=true):zcA O (.tup [.str w,e])=true:=by
 show(if w="not"then _ else _)=true
 by_cases z:w="not"
 ·subst z;rw[zcp] at h;cases h
 ·rw[V0 z];exact hp
theorem zm9(h:zt d=true)(hp:zaq O d=true):zcA O d=true:=by
 obtain⟨x,e,rfl⟩:=zO d h
 exact zjb h hp
theorem zlu(hp:zaq O d=true):zcA O (.tup [.str "not",d])=true:=by
 show(if("not":Str)="not"then zaq O d else zaq O (.tup [.str "not",d]))=true
 rw[p0 rfl];exact hp
theorem ziv{t:D}(h:∀d∈ds,zcA O d=true)(ht:zaq O t=true):zjf O (.tup [.tup ds,t])=true:=by
 show(ds.all (zcA O)&&zaq O t)=true
 rw[T0.mpr h,ht];rfl
noncomputable def phB(ws ms:List Str)(to:Option Str)(w:Str)(x:D):Bool:=
 if w="by"then (match x with| .str y=>ws.any λz=>decide (z=y)|_=>false)
 else if w="from"then (match x with| .str y=>decide (ws[1]?=some y)|_=>false)
 else if w="to"then (match x with| .str y=>decide (to=some y)|_=>false)
 else if w="mark"then (match x with| .str y=>ms.any λz=>decide (z=y)|_=>false)
 else(match x with| .int i=>decide (i<(ws.length:Int))|_=>false)
noncomputable def zsY(ws ms:List Str)(to:Option Str):D->Bool| .tup [.str w,x]=>phB ws ms to w x|_=>false
noncomputable def zsT(ws ms:List Str)(to:Option Str):D->Bool| .tup [.str w,x]=>if w="not"then !zsY ws ms to x else phB ws ms to w x|_=>false
theorem zaa{e:D}(h:zt (.tup [.str x,e])=true):(x="long"/\∃i:Int,e= .int i/\0<=i/\i<=99)\/(x∈zbD/\∃y,e= .str y/\zm y=true):=by
 rw[zcB] at h
 by_cases z:x="long"
 ·rw[p0 z] at h
  cases e with
  |int i=>
   have h:(decide (0<=i)&&decide (i<=99))=true:=h
   rw[R0,decide_eq_true_iff,decide_eq_true_iff] at h
   exact .inl ⟨z,i,rfl,h.1,h.2⟩
  |_=>cases h
 ·rw[V0 z,R0] at h
  obtain⟨h1,h2⟩:=h
  obtain⟨y,hy,ey⟩:=List.any_eq_true.mp h1
  have ey:y=x:=B1 ey
  subst ey
  cases e with
  |str y'=>exact .inr ⟨hy,y',rfl,h2⟩
  |_=>cases h2
theorem za6(h:x∈zbD):x="by"\/x="from"\/x="to"\/x="mark":=by
 unfold zbD at h
 simpa using h
theorem zkW{c:D}(h:zad c=true):∃cs,c= .tup cs/\cs.length<=4/\∀d∈cs,zo d=true:=by
 cases c with
 |tup cs=>
  rw[zep,R0] at h
  exact⟨cs,rfl,B1 h.1,T0.mp h.2⟩
 |_=>cases h
theorem zod{f:D->D->Bool}(h:(match d with| .tup [c,x]=>f c x|_=>false)=true):∃c x,d= .tup [c,x]/\f c x=true:=by
 split at h
 ·exact ⟨_,_,rfl,h⟩
 ·cases h
theorem zhC{x:D}(h:zZ x=true):(x= .tup [.str "keep"])\/∃w y,x= .tup [.str w, .str y]/\(w="put"\/w="strike")/\zm y=true:=by
 unfold zZ at h
 split at h
 ·rename_i w
  exact .inl (by rw[B1 h])
 ·rename_i w y
  rw[R0,Bool.or_eq_true] at h
  have h2:=h.2
  cases y with
  |str y=>exact .inr ⟨w,y,rfl,h.1.imp B1 B1,h2⟩
  |_=>cases h2
 ·cases h
theorem zq6(h:zaG d=true):∃cs x,d= .tup [.tup cs,x]/\cs.length<=4/\(∀c∈cs,zo c=true)/\zZ x=true:=by
 unfold zaG at h
 obtain⟨c,x,rfl,h⟩:=zod (f:=λc x=>zad c&&zZ x) h
 rw[R0] at h
 obtain⟨cs,rfl,h4,hc⟩:=zkW h.1
 exact⟨cs,x,rfl,h4,hc,h.2⟩
section
variable{es:List D}
end
theorem zgr:∀{vs:List Value} {ys:List Str},StrsAre vs ys->vs.length=ys.length/\∀(i:Nat) (y:Str),ys[i]?=some y->∃t,vs[i]?=some (.str y t)
 |_,_, .nil=>⟨rfl,λi y h=>by simp at h⟩
 |_,_, .cons y t r=>by
  obtain⟨h1,h2⟩:=zgr r
  refine⟨by simp[h1],λi z h=>?_⟩
  cases i with
  |zero=>cases h;exact⟨t,rfl⟩
  |succ i=>exact h2 i z h
theorem index_tup{t:Addr}{ys:List Str}(ht:IsTup s.heap t items)(hS:StrsAre items.toList ys)(hj:ys[j]?=some x)(hb:∀i<j,ys[i]?≠some x)
 (h:∀(t':Tok) (k:Nat),Q (.int j t') {s with toks:=k}):wpAny (model prog w) A (call (.builtin "tuple.index") [.ref t, .str x tk]) Q E s:=by
 refine wpAny_call_entry F.slot_tuple_index ht.typeIs F.entry_tuple_index ?_ (F.args_tuple_index_2 _ _)
 unfold Builtin.«tuple.index»
 refine A0 (m:=selfAndSome "tuple.index" "index" 1 3 _) (F0 ?_)
 dsimp only
 refine A0 (tupleItemsOf_ ht ?_)
 refine A0 (F0 ?_)
 refine A0 (F0 ?_)
 obtain⟨hl,hg⟩:=zgr hS
 have hjn:j<items.size:=by
  rw[←Array.length_toList,hl]
  rcases A2 j ys.length with z|z
  ·exact z
  ·rw[X0 z] at hj;cases hj
 rw[Std.Legacy.Range.forIn_eq_forIn_range']
 refine A0 (wpAny_forIn_list _ (λl b s'=>∃i,l=List.range' i (items.size -i) 1/\i<=j/\b=(none,Unit.unit)/\s'=s) _ ?_ ?_ _ _ ?_)
 ·rintro a rest b s' ⟨i,el,hij,rfl,rfl⟩
  obtain⟨m,em⟩:∃m,items.size -i=m+1:=⟨items.size -i -1,()⟩
  rw[em,List.range'_succ] at el
  have ea:=(List.cons.inj el).1
  have er:=(List.cons.inj el).2
  subst er
  rw[ea]
  have hiy:i<ys.length:=by rw[←hl,Array.length_toList];lia
  obtain⟨t1,e1⟩:=hg i ys[i] (by simp[hiy])
  have e2:items[i]?=some (.str ys[i] t1):=by rw[←Array.getElem?_toList];exact e1
  rw[e2]
  dsimp only
  refine A0 (wpAny_eqBool_str ?_)
  rcases A2 i j with z|z
  ·have ne:¬ys[i]=x:=λy=>hb i z (by rw[←y];simp[hiy])
   rw[G0 ne]
   exact F0 ⟨i+1,by rw[show items.size -(i+1)=m by lia],(),rfl,rfl⟩
  ·have ei:i=j:=()
   subst ei
   have ey:ys[i]=x:=by
    have:ys[i]?=some ys[i]:=by simp[hiy]
    rw[this] at hj;exact A1 hj
   rw[D0 ey]
   refine A0 (m:=retInt _) (A0 (wpAny_mkInt (F0 (F0 ?_))))
   exact F0 ⟨_,rfl,h _ _⟩
 ·rintro b s' ⟨i,el,hij,rfl,rfl⟩
  have:=congrArg List.length el
  rw[List.length_range',List.length_nil] at this
  lia
 ·exact ⟨0,by simp[Std.Legacy.Range.size],X1 _,rfl,rfl⟩
theorem zfk{d:Addr}{x:Value}(y:s.heap.IsTupleIter it d i)(ht:s.heap.IsTuple d items)(hx:items[i]?=some x)
 (q:∀h',h'.IsTupleIter it d (i+1)->Heap.SameBut it s.heap h'->Q x {s with heap:=h'}):wpAny (model prog w) A (Builtin.SmallTypes.nextOf (.ref it)) Q E s:=by
 obtain⟨o,ho,hc,hd⟩:=id y
 obtain⟨od,hod,hcd,n,hdd⟩:=id ht
 unfold Builtin.SmallTypes.nextOf
 refine A0 (wpAny_callSpecial?_slot (name:=Str.ofString "__next__") ⟨o,ho,hc⟩ F.slot_tuple_iterator_next (wpAny_call_entry F.slot_tuple_iterator_next ⟨o,ho,hc⟩ F.entry_tuple_iterator_next ?_ (F.args_tuple_iterator_next_1 _)))
 show wpAny _ _ (slotArgs "__next__" 0 _>>=_) _ _ s
 refine A0 (m:=slotArgs "__next__" 0 _) (F0 ?_)
 dsimp only
 refine A0 (wpAny_field ho hd (x:= .ref d) rfl ?_)
 rw[V0 (λz=>nomatch z)]
 refine A0 (wpAny_field ho hd (x:= .int i 0) rfl ?_)
 dsimp only
 rw[seqItems?.eq_1]
 refine A0 (A0 (wpAny_load hod ?_))
 rw[hdd]
 refine F0 ?_
 dsimp only
 rw[Q2,hx]
 dsimp only
 refine A0 (wpAny_setField ho hd `Z2 ?_)
 refine F0 ⟨_,rfl,F0 (q _ ⟨_,Heap.get?_update_self _ ho (Obj.isFreed_of_fields (Obj.data_mapFields hd _)),(Obj.cls_mapFields ..).trans hc,?_⟩ (Heap.SameBut.update ..))⟩
 rw[Obj.data_mapFields hd];simp[rawInt]
theorem zgl{d:Addr}(hh:A.handled=none)(y:s.heap.IsTupleIter it d i)(ht:s.heap.IsTuple d items)(hx:items[i]?=none)
 (q:∀(h':Heap) (e:Addr),Heap.ExtBut it s.heap h'->(∃o,h'.get? e=some o/\o.cls= .type "StopIteration")->E (.ref e) {s with heap:=h'}):wpAny (model prog w) A (Builtin.SmallTypes.nextOf (.ref it)) Q E s:=by
 obtain⟨o,ho,hc,hd⟩:=id y
 obtain⟨od,hod,hcd,n,hdd⟩:=id ht
 unfold Builtin.SmallTypes.nextOf
 refine A0 (wpAny_callSpecial?_slot (name:=Str.ofString "__next__") ⟨o,ho,hc⟩ F.slot_tuple_iterator_next (wpAny_call_entry F.slot_tuple_iterator_next ⟨o,ho,hc⟩ F.entry_tuple_iterator_next ?_ (F.args_tuple_iterator_next_1 _)))
 show wpAny _ _ (slotArgs "__next__" 0 _>>=_) _ _ s
 refine A0 (m:=slotArgs "__next__" 0 _) (F0 ?_)
 dsimp only
 refine A0 (wpAny_field ho hd (x:= .ref d) rfl ?_)
 rw[V0 (λz=>nomatch z)]
 refine A0 (wpAny_field ho hd (x:= .int i 0) rfl ?_)
 dsimp only
 rw[seqItems?.eq_1]
 refine A0 (A0 (wpAny_load hod ?_))
 rw[hdd]
 refine F0 ?_
 dsimp only
 rw[Q2,hx]
 dsimp only
 refine A0 (wpAny_rule ?_)
 refine A0 (wpAny_setField ho hd `Z2 ?_)
 show wpAny _ _ (newExc (.type "StopIteration") []>>=_) _ _ _
 refine A0 (by
  simp only[newExc,newTuple]
  refine A0 (wpAny_newObj_type (A0 (m:=firstArgMember _ _) (wpAny_of_eq (a:=Value.none) (by first|rfl|(simp only[firstArgMember];rfl)) (wpAny_newObj_type ?_ (by size_fits)))) (by size_fits))
  simp only[raiseNew]
  refine A0 (wpAny_handled ?_)
  rw[show A.in1.handled=none from hh]
  refine A0 (F0 (wpAny_throw ?_))
  exact q _ _ (((Heap.SameBut.update ..).extBut.push _).push _) ⟨_,M0 _ rfl,rfl⟩)
theorem draws_tuple(hh:A.handled=none)(it l:Addr)(hne:l≠it)(items:Array Value):Draws prog w A it [it,l] items.size (λi v=>items[i]?=some v) (λi h=>h.IsTupleIter it l i/\h.IsTuple l items) where
 live:=λi h st=>let ⟨o,e,_⟩:=st.1;⟨o,e⟩
 frame:=λi h h' st k=>⟨st.1.at λo e=>k it `Z2 o e,let⟨o,e,r⟩:=st.2;⟨o,k l `Z2 o e,r⟩⟩
 item:=λi s Q E hi st q=>zfk st.1 st.2 (x:=items[i]) (by simp[hi]) λh' y' sb=>q _ h' s.toks (by simp[hi]) ⟨y',let⟨o,e,r⟩:=st.2;⟨o,(sb.2 l hne).trans e,r⟩⟩ sb
 done:=λs Q E st q=>zgl hh st.1 st.2 `Z2 q
theorem zhj(l:Addr)(items:Array Value):Meets (Builtin.«enumerate.__new__» {pos:=[Value.type "enumerate",Value.ref l]}) λ_ R s=>
 s.heap.IsTuple l items/\R (Except.ok (Flow.ret (Value.ref (s.heap.objs.size+1)))) {s with heap:=(s.heap.push {cls:=Value.type "tuple_iterator",data:=Data.fields #[Value.ref l,Value.int 0 0]}).push {cls:=Value.type "enumerate",data:=Data.fields #[Value.none,Value.bool false,Value.ref s.heap.objs.size,rawInt 0,Value.none,Value.none]}}:=by
 intro prog w A R s h
 unfold Builtin.«enumerate.__new__»
 refine A0 (m:=Builtin.SmallTypes.newClass "enumerate" _) ?_
 unfold Builtin.SmallTypes.newClass
 dsimp only
 refine A0 (wpAny_of_eq (a:=true) rfl ?_)
 rw[V0 ⋯]
 rw[sub_enumerate]
 refine A0 (F0 ?_)
 rw[V0 ⋯]
 refine F0 ?_
 dsimp only
 rw[p0 ⋯]
 unfold Builtin.SmallTypes.calledThroughType
 refine A0 (A0 (wpAny_stack_any λst=>F0 ?_))
 have key:∀{B:Sem (Value×Option Value)} {F:Value×Option Value->Sem PySem.Fin},B=pure (Value.ref l,none)->F (Value.ref l,none)=(do
  let it ←pyIter (Value.ref l)
  let r ←Builtin.SmallTypes.newRecord (Value.type "enumerate") (Builtin.SmallTypes.ownedTupleFields ++ [it,rawInt 0,Value.none,Value.none])
  ret r)->wpAny (model prog w) A.in1 (B>>=F) (λfin s'=>match fin with
  |Fin.done f=>R (Except.ok f) s'
  |Fin.again c'=>c'.quiet=true/\codeAny (model prog w) A c' R s') (λe s'=>R (Except.error e) s') s:=by
  intro B F e1 e2
  rw[e1]
  refine A0 (F0 ?_)
  rw[e2]
  refine A0 (wpAny_pyIter_tuple h.1 ?_)
  refine A0 ?_
  unfold Builtin.SmallTypes.newRecord
  refine wpAny_newObj_type (F0 ?_) (show(6:Nat)<=sizeLine+2 by decide)
  rw[show(s.heap.push {cls:=Value.type "tuple_iterator",data:=Data.fields #[Value.ref l,Value.int 0 0]}).objs.size=s.heap.objs.size+1 by simp[Heap.push]]
  exact h.2
 split<;>(try split)<;>exact key rfl rfl
theorem call_enum_tuple(ht:s.heap.IsTuple l items)
 (q:∀h',IsEnum h' (s.heap.objs.size+1) s.heap.objs.size 0 Value.none->h'.IsTupleIter s.heap.objs.size l 0->h'.objs.size=s.heap.objs.size+2->(∀(b:Addr) (o:Obj),s.heap.get? b=some o->h'.get? b=some o)->Q (.ref (s.heap.objs.size+1)) {s with heap:=h'}):
 wpAny (model prog w) A (call (.type "enumerate") [.ref l]) Q E s:=by
 refine callType_new F.called_enumerate ⋯ (F.typeCall_enumerate_1 _) (F.newCall_enumerate_1 _) ?_ F.entry_enumerate_new (zhj l items) ⟨ht,?_⟩
 ·exact λobj=>F.args_object_init_2 _ _
 ·have e1:(s.heap.push {cls:=Value.type "tuple_iterator",data:=Data.fields #[Value.ref l,Value.int 0 0]}).objs.size=s.heap.objs.size+1:=by simp[Heap.push]
  have g1:((s.heap.push {cls:=Value.type "tuple_iterator",data:=Data.fields #[Value.ref l,Value.int 0 0]}).push {cls:=Value.type "enumerate",data:=Data.fields #[Value.none,Value.bool false,Value.ref s.heap.objs.size,rawInt 0,Value.none,Value.none]}).get? (s.heap.objs.size+1)=some {cls:=Value.type "enumerate",data:=Data.fields #[Value.none,Value.bool false,Value.ref s.heap.objs.size,rawInt 0,Value.none,Value.none]}:=by
   rw[←e1];exact M0 _ rfl
  exact⟨⟨_,g1,rfl⟩,q _ g1 ⟨_,C0 _ (M0 _ rfl),rfl,rfl⟩ (by simp[Heap.push]) λb o e=>C0 _ (C0 _ e)⟩
def zrj(K:W.Frag):V->List V->Hp->VK->Prop:=λx vs H Q=>∃(p:Addr) (ys:List Str) (y:Str) (j:Nat),x= .ref p/\vs=[.str y]/\SqT K H p (ys.map V.str)/\ys[j]?=some y/\(∀i<j,ys[i]?≠some y)/\Q (.int (j:Int)) H
theorem ziJ:MtR X "tuple.index" (zrj X.K):=by
 intro pins s σ H x xs v us Q I rx rs h
 obtain⟨p,ys,y,j,rfl,rfl,hq,hj,hb,q⟩:=h
 cases rx
 obtain⟨u,rfl,ru⟩:=zbq rs
 obtain⟨t,rfl⟩:=ru
 obtain⟨its,rv,pl,hz⟩:=I.tuple hq
 exact index_tup pl (by simpa using zbk rv) hj hb λt' k=>⟨.int _,H,I.tok _,⟨_,rfl⟩,q⟩
noncomputable def Ite(K:W.Frag)(a:Addr)(n:Nat):It:=
 ⟨λi H=>∃xs x,SqT K H a xs/\xs.length=n/\xs[i]?=some x,λi H x H'=>∃T y,x= .ref T/\H T=none/\(∀xs,SqT K H a xs->xs[i]?=some y)/\H'=upd H T (.tup [.int (i:Int),y]),λi H=>∃xs,SqT K H a xs/\xs.length=n/\n<=i⟩
theorem ziq(a e it:Addr)(n:Nat)(hne:e≠it):
 Turn P w K (.Tuple elts k pos) (Ite K a n) [e,it] e (λi h=>i<=n/\(∃old,IsEnum h e it (i:Int) old)/\h.IsTupleIter it a i) where
 mem:=`Z2
 obj:=λi h st b hb=>by
  obtain⟨_,⟨old,he⟩,o,e',c,d⟩:=st
  rcases I0.mp hb with rfl|hb
  ·exact ⟨_,he,λv z=>by cases z⟩
  ·have:b=it:=by simpa using hb
   subst this
   exact⟨o,e',λv z=>by rw[d] at z;cases z⟩
 keep:=λi h h' st kk=>⟨st.1,let⟨old,he⟩:=st.2.1;⟨old,kk e `Z2 _ he⟩,st.2.2.at λo e'=>kk it `Z2 o e'⟩
 item:=by
  intro X hP hw hK hc i pins s σ H E I hf st hg
  subst hP hw hK
  obtain⟨xs,x,hq,hn,hx⟩:=hg
  obtain⟨its,rv,p,hz⟩:=I.tuple hq
  obtain⟨u,hu,ru⟩:=rv.get hx
  have pT:s.heap.IsTuple a its.toArray:=p
  have hil:i<its.length:=by
   rcases A2 i its.length with z|z
   ·exact z
   ·rw[X0 z] at hu;cases hu
  have hlen:its.length=n:=by rw[←rv.length];exact hn
  obtain⟨o1,ho1,hc1,_⟩:=id pT
  have na1:a≠it:=λz=>by
   obtain⟨o2,ho2,hc2,_⟩:=st.2.2
   rw[z,ho2] at ho1;cases ho1;rw[hc2] at hc1;injection hc1 with hc1;exact absurd hc1 ⋯
  have na2:a≠e:=λz=>by
   obtain⟨old,he⟩:=st.2.1
   rw[z,he] at ho1;cases ho1;injection hc1 with hc1;exact absurd hc1 ⋯
  obtain⟨f0,f1,f2,f3,f4,f5⟩:=hf e `Z2
  obtain⟨g0,g1,g2,g3,g4,g5⟩:=hf it `Z2
  have W:=WalksT.enumerateD (draws_tuple (prog:=X.prog) (w:=X.w) (A:=X.A.in1) (I.ok.hd hc) it a na1 its.toArray) e hne (by simp[hne,Ne.symm na2]) `Z2
  obtain⟨old,he⟩:=st.2.1
  unfold pyNext
  refine A0 (wpAny_attempt (wpAny_callSpecial?_slot (name:=Str.ofString "__next__") ⟨_,he,rfl⟩ F.slot_enumerate_next (wpAny_call_entry F.slot_enumerate_next ⟨_,he,rfl⟩ F.entry_enumerate_next (enumerate_next_itemD (draws_tuple (prog:=X.prog) (w:=X.w) (A:=X.A.in1) (I.ok.hd hc) it a na1 its.toArray) he ⟨st.2.2,pT⟩ (by simpa using hil) hne (by simp[hne,Ne.symm na2]) λx' h' t hx' hOut hSt hTo hsz hk0=>?_) (F.args_enumerate_next_1 _))))
  refine F0 ?_
  obtain⟨tk,htk⟩:∃tk,tk=t+1:=⟨_,rfl⟩
  rw[←htk]
  obtain⟨T,hTT⟩:∃T,T=s.heap.objs.size:=⟨_,rfl⟩
  have hk:∀(b:Addr) (o:Obj),b∉ [e,it]->s.heap.get? b=some o->h'.get? b=some o:=λb o hb q=>hk0 b o (λz=>hb (by simp[z])) (λz=>hb (by simp[z])) q
  rw[←hTT] at hOut hTo⊢
  have hT:s.heap.objs.size<=T:=Nat.le_of_eq hTT.symm
  have hTup:h'.IsTuple T #[Value.int (i:Int) t,x']:=⟨_,hTo,rfl,_,rfl⟩
  have nTe:T≠e:=λz=>by have:=P0 he;rw[←z,hTT] at this;exact absurd this (Z1 _)
  have nTi:T≠it:=λz=>by obtain⟨o2,ho2,_⟩:=st.2.2;have:=P0 ho2;rw[←z,hTT] at this;exact absurd this (Z1 _)
  have hMid:(∃x,IsEnumOut h' e it ((i:Int)+1) x T)/\(h'.IsTupleIter it a (i+1)/\h'.IsTuple a its.toArray)/\T≠e/\T≠it:=⟨⟨_,hOut⟩,hSt,nTe,nTi⟩
  have ex:x'=u:=by
   have:its.toArray[i]?=some u:=by simpa using hu
   rw[this] at hx';exact(A1 hx').symm
  subst ex
  refine⟨_,rfl,W.go elts k pos i T {s with heap:=h',toks:=tk} _ _ hMid λh2 st2 hk2=>?_⟩
  have nT:T∉ [e,it]:=W.apart i T h' hMid
  have fT:H T=none:=I.hok.fresh hT
  have ltT:∀{b o},s.heap.get? b=some o->b≠T:=λq z=>by
   have:=P0 q
   rw[z] at this
   exact absurd (C1 this hT) (Z1 _)
  have hTup2:h2.IsTuple T #[Value.int (i:Int) t,x']:=by
   obtain⟨o,ho,r⟩:=hTup
   exact⟨o,hk2 T o nT ho,r⟩
  have hND:NoDict h2 T:=λo q=>by rw[hk2 T _ nT hTo] at q;cases q;rfl
  have kk:∀b o,b∉ [e,it]->s.heap.get? b=some o->h2.get? b=some o:=λb o hb q=>hk2 b o hb (hk b o hb q)
  have neT:∀{b u'},H b=some u'->b≠T:=λq z=>by rw[z,fT] at q;cases q
  refine⟨.ref T,upd H T (.tup [.int (i:Int),x]),?_,rfl,⟨T,x,rfl,fT,λys hy=>by rw[I.tuple_inj hy hq];exact hx,rfl⟩,⟨(),st2.1,st2.2.1⟩,λb hb=>?_⟩
  ·show Inv X pins σ _ {s with heap:=h2,gens:=s.gens,drawn:=s.drawn,toks:=tk}
   refine Inv.step (s:=s) (h':=h2) (t':=tk) (g':=s.gens) (d':=s.drawn) (ch:=[e,it]) I (λb hb=>?_) (λb o _ _ hc e' _=>kk b o hc e') (λb o _ _ hc e' _=>⟨o.slots,kk b o hc e'⟩) (λb o _ e' z=>by rw[zn (ltT e')];exact z) (λb o hc e'=>⟨o,kk b o hc e'⟩) (λb xs z=>by rw[zn (neT z)];exact z) (λb o u' z=>by rw[zn (neT z)];exact z) (λb ps z=>⟨#[],by rw[zn (neT z),z];simp⟩) (λm hm=>?_) (λb u' z=>?_) I.bare
   ·rcases I0.mp hb with rfl|hb
    ·exact ⟨f3,f1,f4,f5⟩
    ·have:b=it:=by simpa using hb
     subst this
     exact⟨g3,g1,g4,g5⟩
   ·obtain ⟨o,es,ep,ho,r⟩:=hm
    refine⟨o,es,ep,kk _ o (λz=>?_) ho,r⟩
    rcases I0.mp z with z|z
    ·exact f1 z.symm
    ·exact g1 ((by simpa using z:X.env.locals=it).symm)
   ·by_cases hb:b=T
    ·subst hb
     rw[upd_same] at z
     cases z
     exact⟨few rfl,[Value.int (i:Int) t,x'], .cons ⟨t,rfl⟩ (.cons ru .nil),hTup2,hND⟩
    ·rw[zn hb] at z
     refine(I.hok b u' z).stay (λc v hc q=>kk c v (λy=>?_) q) (λc q=>by rw[zn (neT q)];exact q) λc xs q=>by rw[zn (neT q)];exact q
     have:∃u2,H c=some u2:=by
      rcases hc with rfl|hc
      ·exact ⟨_,z⟩
      ·exact ⟨_,hc⟩
     obtain⟨u2,hu2⟩:=this
     rcases I0.mp y with rfl|y
     ·rw[f0] at hu2;cases hu2
     ·have:c=it:=by simpa using y
      subst this
      rw[g0] at hu2;cases hu2
  ·have:b≠T:=λz=>nT (by rw[←z];exact hb)
   rw[zn this]
   exact(hf b hb).1
 done:=by
   intro X hP hw hK hc i pins s σ H E I hf st hg
   subst hP hw hK
   obtain⟨xs,hq,hn,hx⟩:=hg
   obtain⟨its,rv,p,hz⟩:=I.tuple hq
   have pT:s.heap.IsTuple a its.toArray:=p
   have hlen:its.length=n:=by rw[←rv.length];exact hn
   have ei:i=its.toArray.size:=by have:=st.1;simp;lia
   obtain⟨o1,ho1,hc1,_⟩:=id pT
   have na1:a≠it:=λz=>by
    obtain⟨o2,ho2,hc2,_⟩:=st.2.2
    rw[z,ho2] at ho1;cases ho1;rw[hc2] at hc1;injection hc1 with hc1;exact absurd hc1 ⋯
   have na2:a≠e:=λz=>by
    obtain⟨old,he⟩:=st.2.1
    rw[z,he] at ho1;cases ho1;injection hc1 with hc1;exact absurd hc1 ⋯
   obtain⟨f0,f1,f2,f3,f4,f5⟩:=hf e `Z2
   obtain⟨g0,g1,g2,g3,g4,g5⟩:=hf it `Z2
   have W:=WalksT.enumerateD (draws_tuple (prog:=X.prog) (w:=X.w) (A:=X.A.in1) (I.ok.hd hc) it a na1 its.toArray) e hne (by simp[hne,Ne.symm na2]) `Z2
   subst ei
   refine W.done s _ _ ⟨st.2.1,st.2.2,pT⟩ λh' tk kk=>⟨rfl,?_⟩
   refine I.step (g':=s.gens) (d':=s.drawn) (ch:=[e,it]) (λb hb=>?_) (λb o _ _ hc e' _=>kk b o hc e') (λb o _ _ hc e' _=>⟨o.slots,kk b o hc e'⟩) (λ_ _ _ _ z=>z) (λb o hc e'=>⟨o,kk b o hc e'⟩) (λ_ _ z=>z) (λ_ _ _ z=>z) (λb ps z=>⟨#[],by rw[z];simp⟩) (λm hm=>?_) (λb u' z=>?_) I.bare
   ·rcases I0.mp hb with rfl|hb
    ·exact ⟨f3,f1,f4,f5⟩
    ·have:b=it:=by simpa using hb
     subst this
     exact⟨g3,g1,g4,g5⟩
   ·obtain ⟨o,es,ep,ho,r⟩:=hm
    refine⟨o,es,ep,kk _ o (λz=>?_) ho,r⟩
    rcases I0.mp z with z|z
    ·exact f1 z.symm
    ·exact g1 ((by simpa using z:X.env.locals=it).symm)
   ·refine (I.hok b u' z).stay (λc v hc q=>kk c v (λy=>?_) q) (λc q=>q) λc xs q=>q
    have:∃u2,H c=some u2:=by
     rcases hc with rfl|hc
     ·exact ⟨_,z⟩
     ·exact ⟨_,hc⟩
    obtain⟨u2,hu2⟩:=this
    rcases I0.mp y with rfl|y
    ·rw[f0] at hu2;cases hu2
    ·have:c=it:=by simpa using y
     subst this
     rw[g0] at hu2;cases hu2
 self:=λA i s Q E st h=>by
  obtain⟨_,⟨old,he⟩,_⟩:=st
  refine wpAny_pyIter_slot (T:="enumerate") ⟨_,he,rfl⟩ F.slot_enumerate_iter (wpAny_call_entry F.slot_enumerate_iter ⟨_,he,rfl⟩ F.entry_enumerate_iter ?_ (F.args_enumerate_iter_1 _))
  unfold Builtin.«dict_keyiterator.__iter__»
  refine A0 (F0 (F0 ⟨_,rfl,"enumerate",_,⟨_,he,rfl⟩,F.slot_enumerate_next.lookup,h⟩))
noncomputable def ztP(K:W.Frag)(ta:TA):TI:=λσ H R=>ta σ H λvs H1=>∃a xs,vs=[.ref a]/\SqT K H1 a xs/\R (Ite K a xs.length) H1
theorem zsh{a:Expr}{p:Pos}(hm:X.mg "enumerate"=none)(ha:QA X [a] ta)(hg:autoParam (Gl X "enumerate") y3)(hs:autoParam (starEach [a] X.env=[(false,eval a X.env)]) y3):QI X (.Tuple elts k pos2) (.Call (.Name "enumerate" p) [a] [] pos) (ztP X.K ta):=⟨by
 intro pins s σ H R I h
 refine Call_ (zeh I hg hm boot_enumerate (PyProof.Rows.callWith_type1 (thn (ha.o pos pins s σ H _ I h) λus s1 zq=>?_) hs rfl))
 obtain⟨vs,H1,I1,r1,q1⟩:=zq
 obtain⟨l,xs,rfl,hq,q⟩:=q1
 obtain⟨u,rfl,ru⟩:=zbq r1
 cases ru
 obtain⟨its,rv,pl,hz⟩:=I1.tuple hq
 refine call_enum_tuple (show s1.heap.IsTuple l its.toArray from pl) λh' he hit hsz kk=>?_
 have ne1:s1.heap.objs.size+1≠s1.heap.objs.size:=()
 refine(ziq (P:=X.prog) (w:=X.w) (K:=X.K) (elts:=elts) (k:=k) (pos:=pos2) l (s1.heap.objs.size+1) s1.heap.objs.size xs.length ne1).self X.A 0 _ _ _ ⟨X1 _,⟨_,he⟩,hit⟩ ?_
 refine⟨s1.heap.objs.size+1,[s1.heap.objs.size+1,s1.heap.objs.size],_,_,H1,rfl,I1.kept (t':=s1.toks) kk,ziq l _ _ xs.length ne1,⟨X1 _,⟨_,he⟩,hit⟩,λb hb=>?_,q⟩
 have hb':s1.heap.objs.size<=b:=by
  rcases I0.mp hb with z|z
  ·rw[z];exact Nat.le_succ _
  ·have z:b=s1.heap.objs.size:=by simpa using z
   rw[z];exact K0 _
 exact I1.fpOk hb' (I1.hok.fresh hb')⟩
noncomputable def zt3(ws ms:List Str)(to:Option Str)(cs:List D):Bool:=cs.all (zsT ws ms to)
noncomputable def zrv:D->List D| .tup [.tup cs,_]=>cs|_=> []
noncomputable def zrL:D->D| .tup [_,t]=>t|_=> .non
noncomputable def zmo(ws ms:List Str):List D->D
 |[]=> .int 0
 |r::rs=>if zt3 ws ms none (zrv r)=true then zrL r else zmo ws ms rs
mutual
noncomputable def okD:D->Bool
 | .str x=>PyData.strOk x
 | .tup ds=>okL ds
 | .oth=>false
 | .non=>true
 | .bl _=>true
 | .int _=>true
noncomputable def okL:List D->Bool
 |[]=>true
 |d::ds=>okD d&&okL ds
end
mutual
noncomputable def pyD:D->PyData
 | .non=> .none
 | .bl b=> .bool b
 | .int i=> .int i
 | .str x=> .str x
 | .tup ds=> .tuple (pyL ds)
 | .oth=> .none
noncomputable def pyL:List D->List PyData
 |[]=> []
 |d::ds=>pyD d::pyL ds
end
theorem zgU:∀{ds:List D},pyL ds=ds.map pyD
 |[]=>by rw[pyL];rfl
 |d::ds=>by rw[pyL,J1,zgU]
theorem zmB:∀{ds:List D},okL ds=true->∀d∈ds,okD d=true
 |[],_,_,z=>nomatch z
 |d::ds,h,e,he=>by
  rw[okL,R0] at h
  rcases I0.mp he with rfl|he
  ·exact h.1
  ·exact zmB h.2 e he
theorem ztW(r:Rep H v d):okD d=true->Tr H v (pyD d):=by
 induction r with
 |non=>intro _;rw[pyD];exact .non
 |bl b=>intro _;rw[pyD];exact .bl b
 |int i=>intro _;rw[pyD];exact .int i
 |str x _=>intro h;rw[okD] at h;rw[pyD];exact .str x h
 | @tup p vs ds hp l b r ih=>
   intro h
   rw[okD] at h
   rw[pyD,zgU]
   refine .tup hp (by rw[l,B0]) λi v d e1 e2=>?_
   rw[W0] at e2
   cases e:ds[i]? with
   |none=>rw[e] at e2;cases e2
   |some d'=>
    rw[e] at e2
    cases e2
    exact ih i v d' e1 e (zmB h d' (L0 e))
 |lst _=>intro h;rw[okD] at h;cases h
 |dK _=>intro h;rw[okD] at h;cases h
theorem zit(h:zt d=true):okD d=true:=by
 obtain⟨w,e,rfl⟩:=zO d h
 rcases zaa h with⟨rfl,i,rfl,_⟩|⟨hn,y,rfl,hy⟩
 ·rw[okD,okL,okL,okL,okD,okD];decide +kernel
 ·rw[okD,okL,okL,okL,okD,okD,zl7 hy]
  rcases za6 hn with rfl|rfl|rfl|rfl<;>decide +kernel
theorem zpe(h:zo d=true):okD d=true:=by
 obtain⟨w,e,rfl⟩:=zai d h
 rw[zaE] at h
 by_cases z:w="not"
 ·subst z
  rw[p0 rfl] at h
  rw[okD,okL,okL,okL,okD,zit h];decide +kernel
 ·rw[V0 z] at h
  exact zit h
noncomputable def leS(a b:Str):Bool:=!ltS b a
noncomputable def srt(l:List Str):List Str:=l.mergeSort leS
noncomputable def zsG(t:List Str)(w m:Str):List Str:=t.filter (λx=>!decide (x=m))++(if w="put"then [m] else [])
noncomputable def zrF(t:List Str)(w m:Str):List Str:=srt (zsG t w m)
structure Mk0(O t:List Str):Prop where
 nd:t.Nodup
 mem:∀x∈t,x∈O
noncomputable def zfn(ws:List Str)(to:Option Str):List D->List Str->Option (List Str)
 |[],t=>some t
 |r::rs,t=>if zt3 ws t to (zrv r)=true then(match zrL r with| .tup [.str w, .str m]=>zfn ws to rs (zrF t w m)|_=>none)else zfn ws to rs t
def zui(H:Hp)(u:V):Option (List Str)->Prop
 |none=>u= .non
 |some t=>∃p,u= .ref p/\H p=some (.tup (t.map V.str))
section
open PySem.W
section
open PySem.SeqAt
open PySem.AutoSeq1 (wpAny_loadPart')
open PySem.MeetsSeq PySem.MeetsSeq2 PySem.MeetsSeq3
end
noncomputable def ltL:List Str->List Str->Bool
 |[],[]=>false
 |[],_::_=>true
 |_::_,[]=>false
 |x::xs,y::ys=>if x=y then ltL xs ys else ltS x y
end
section
variable{st:Expr}{ts:TE}{p1 p2:Pos}
end
section
variable{es:List D}
end
section
variable{i o:Expr}{p1 p2:Pos}
end
noncomputable abbrev WM:=List Str×List Str
mutual
theorem zqP:∀d:D,(pyD d).eqv (pyD d)=true
 | .non=>by rw[pyD,PyData.eqv]
 | .bl b=>by rw[pyD,PyData.eqv];simp
 | .int i=>by rw[pyD,PyData.eqv];simp
 | .str x=>by rw[pyD,PyData.eqv];simp
 | .tup ds=>by rw[pyD,PyData.eqv];exact zmq ds
 | .oth=>by rw[pyD,PyData.eqv]
theorem zmq:∀ds:List D,PyData.eqvAll (pyL ds) (pyL ds)=true
 |[]=>by rw[pyL,PyData.eqvAll]
 |d::ds=>by rw[pyL,PyData.eqvAll,zqP d,zmq ds];rfl
end
theorem zip_itemD{TI TO:Addr}{a b:Value}(D:ZipApart z TI TO i1 i2 l1 l2)
 (D1:Draws prog w A i1 [i1,l1] n1 P1 S1) (D2:Draws prog w A i2 [i2,l2] n2 P2 S2)
 (hz:IsZip s.heap z TI TO .none) (hTI:IsPair s.heap TI (.ref i1) (.ref i2)) (hTO:IsPair s.heap TO a b) (h1:S1 k s.heap) (h2:S2 k s.heap) (k1:k<n1) (k2:k<n2)
 (hQ:∀x y h' tk,P1 k x->P2 k y->IsZip h' z TI TO (rawInt s.heap.objs.size)->IsPair h' TO x y->S1 (k+1) h'->S2 (k+1) h'->IsPair h' s.heap.objs.size x y->h'.objs.size=s.heap.objs.size+1->
   (∀c o,c≠z->c≠TO->c≠i1->c≠i2->s.heap.get? c=some o->h'.get? c=some o)->Q (.ref s.heap.objs.size) {s with heap:=h',toks:=tk}):
 wpAny (model prog w) A (Builtin.«zip.__next__» ⟨[.ref z],[]⟩) (λfin s'=>∃v,fin= .done (.ret v)/\Q v s') E s:=by
 show wpAny _ _ (field (.ref z) 2>>=_) _ _ _
 refine A0 (wpAny_field hz rfl (x:= .bool false) rfl ?_)
 show wpAny _ _ (field (.ref z) 3>>=_) _ _ _
 refine A0 (wpAny_field hz rfl (x:= .ref TI) rfl ?_)
 refine A0 (wpAny_seqItems hTI rfl ?_)
 show wpAny _ _ (Builtin.SmallTypes.ownedTupleIsFree (.ref z)>>=_) _ _ _
 refine A0 ?_
 unfold Builtin.SmallTypes.ownedTupleIsFree
 refine A0 (wpAny_field hz rfl (x:= .none) rfl (F0 ?_))
 simp only[if_true]
 refine A0 (wpAny_rule ?_)
 refine A0 (wpAny_field hz rfl (x:= .ref TO) rfl ?_)
 refine A0 (wpAny_setField_rec hz `Z2 λh₁ hz₁ hs₁=>?_)
 replace hz₁:IsZip h₁ z TI TO .ellipsis:=hz₁
 refine A0 ?_
 simp only[List.zipIdx_cons,List.zipIdx_nil,List.forIn_cons,List.forIn_nil]
 refine A0 (A0 (wpAny_onRaise ?_))
 show wpAny _ _ (Builtin.SmallTypes.nextOf (.ref i1)>>=_) _ _ _
 have f1:∀{i:Nat} {h h':Heap},S1 i h->(∀c o,c≠z->c≠TO->c≠i2->h.get? c=some o->h'.get? c=some o)->S1 i h':=λst kk=>D1.frame _ _ _ st λc hc o e=>by
  rcases I0.mp hc with rfl|hc
  ·exact kk c o D.i1z D.TOi1.symm D.i12 e
  ·have:c=l1:=by simpa using hc
   subst this
   exact kk c o D.l1z D.l1TO D.l1i2 e
 have f2:∀{i:Nat} {h h':Heap},S2 i h->(∀c o,c≠z->c≠TO->c≠i1->h.get? c=some o->h'.get? c=some o)->S2 i h':=λst kk=>D2.frame _ _ _ st λc hc o e=>by
  rcases I0.mp hc with rfl|hc
  ·exact kk c o D.i2z D.TOi2.symm D.i12.symm e
  ·have:c=l2:=by simpa using hc
   subst this
   exact kk c o D.l2z D.l2TO D.l2i1 e
 refine A0 (D1.item k _ _ _ k1 (f1 h1 λc o c1 _ _ e=>hs₁.extBut _ _ c1 e) λx h₂ tk2 hx h1₂ hs₂=>F0 ?_)
 have hTO₂:IsPair h₂ TO a b:=hs₂.extBut _ _ D.TOi1 (hs₁.extBut _ _ D.TOz hTO)
 refine A0 (wpAny_seqItems hTO₂ rfl ?_)
 refine A0 (wpAny_updateSeq_pair hTO₂ λh₃ hTO₃ hs₃=>?_)
 replace hTO₃:IsPair h₃ TO x b:=hTO₃
 refine A0 (wpAny_letGo (F0 ?_))
 refine A0 (A0 (wpAny_onRaise ?_))
 show wpAny _ _ (Builtin.SmallTypes.nextOf (.ref i2)>>=_) _ _ _
 refine A0 (D2.item k _ _ _ k2 (f2 h2 λc o c1 c2 c3 e=>hs₃.extBut _ _ c2 (hs₂.extBut _ _ c3 (hs₁.extBut _ _ c1 e))) λy h₄ tk4 hy h2₄ hs₄=>F0 ?_)
 have hTO₄:IsPair h₄ TO x b:=hs₄.extBut _ _ D.TOi2 hTO₃
 refine A0 (wpAny_seqItems hTO₄ rfl ?_)
 refine A0 (wpAny_updateSeq_pair hTO₄ λh₅ hTO₅ hs₅=>?_)
 replace hTO₅:IsPair h₅ TO x y:=hTO₅
 refine A0 (wpAny_letGo (F0 (F0 ?_)))
 refine A0 (wpAny_seqItems hTO₅ rfl ?_)
 refine A0 (wpAny_newTuple ?_)
 have hsz:h₅.objs.size=s.heap.objs.size:=by rw[hs₅.1,hs₄.1,hs₃.1,hs₂.1,hs₁.1]
 have hz₅:IsZip h₅ z TI TO .ellipsis:=hs₅.extBut _ _ D.TOz.symm (hs₄.extBut _ _ D.i2z.symm (hs₃.extBut _ _ D.TOz.symm (hs₂.extBut _ _ D.i1z.symm hz₁)))
 have hk₅:∀c o,c≠z->c≠TO->c≠i1->c≠i2->s.heap.get? c=some o->h₅.get? c=some o:=λc o c1 c2 c3 c4 e=>
  hs₅.extBut _ _ c2 (hs₄.extBut _ _ c4 (hs₃.extBut _ _ c2 (hs₂.extBut _ _ c3 (hs₁.extBut _ _ c1 e))))
 have h1₅:S1 (k+1) h₅:=f1 h1₂ λc o c1 c2 c3 e=>hs₅.extBut _ _ c2 (hs₄.extBut _ _ c3 (hs₃.extBut _ _ c2 e))
 have h2₅:S2 (k+1) h₅:=f2 h2₄ λc o c1 c2 c3 e=>hs₅.extBut _ _ c2 e
 have hzlt:z<h₅.objs.size:=P0 hz₅
 have hTOlt:TO<h₅.objs.size:=P0 hTO₅
 show wpAny _ _ (Builtin.SmallTypes.ownedTupleHandOut (.ref z) (.ref h₅.objs.size)>>=_) _ _ _
 refine A0 ?_
 unfold Builtin.SmallTypes.ownedTupleHandOut
 have hz₆:IsZip (h₅.push {cls:= .type "tuple",data:= .seq #[x,y]}) z TI TO .ellipsis:=C0 _ hz₅
 refine A0 (wpAny_setField_rec hz₆ `Z2 λh₇ hz₇ hs₇=>?_)
 replace hz₇:IsZip h₇ z TI TO (rawInt h₅.objs.size):=hz₇
 refine wpAny_setField_rec hz₇ `Z2 λh₈ hz₈ hs₈=>?_
 replace hz₈:IsZip h₈ z TI TO (rawInt h₅.objs.size):=hz₈
 have up:∀c o,c≠z->h₅.get? c=some o->h₈.get? c=some o:=λc o c1 e=>hs₈.extBut _ _ c1 (hs₇.extBut _ _ c1 (C0 _ e))
 have hT₈:IsPair h₈ h₅.objs.size x y:=hs₈.extBut _ _ (Nat.ne_of_gt hzlt) (hs₇.extBut _ _ (Nat.ne_of_gt hzlt) (M0 _ rfl))
 have hz8:h₈.objs.size=h₅.objs.size+1:=by rw[hs₈.1,hs₇.1,Heap.size_push]
 rw[hsz] at hz₈ hT₈ hz8
 refine F0 ⟨_,rfl,?_⟩
 show Q (.ref h₅.objs.size) _
 rw[hsz]
 exact hQ x y h₈ _ hx hy hz₈ (up _ _ D.TOz hTO₅) (f1 h1₅ λc o c1 _ _ e=>up c o c1 e) (f2 h2₅ λc o c1 _ _ e=>up c o c1 e) hT₈ hz8 λc o c1 c2 c3 c4 e=>up c o c1 (hk₅ c o c1 c2 c3 c4 e)
theorem zip_endD{TI TO:Addr}{a b:Value}{Q:Fin->Shared->Prop}(D:ZipApart z TI TO i1 i2 l1 l2)
 (D1:Draws prog w A i1 [i1,l1] n1 P1 S1) (D2:Draws prog w A i2 [i2,l2] n2 P2 S2)
 (hz:IsZip s.heap z TI TO .none) (hTI:IsPair s.heap TI (.ref i1) (.ref i2)) (hTO:IsPair s.heap TO a b) (h1:S1 k s.heap) (h2:S2 k s.heap) (hend:k=n1\/(k<n1/\k=n2))
 (hE:∀h' tk e,(∀c o,c≠z->c≠TO->c≠i1->c≠i2->s.heap.get? c=some o->h'.get? c=some o)->(∃o,h'.get? e=some o/\o.cls= .type "StopIteration")->E (.ref e) {s with heap:=h',toks:=tk}):
 wpAny (model prog w) A (Builtin.«zip.__next__» ⟨[.ref z],[]⟩) Q E s:=by
 show wpAny _ _ (field (.ref z) 2>>=_) _ _ _
 refine A0 (wpAny_field hz rfl (x:= .bool false) rfl ?_)
 show wpAny _ _ (field (.ref z) 3>>=_) _ _ _
 refine A0 (wpAny_field hz rfl (x:= .ref TI) rfl ?_)
 refine A0 (wpAny_seqItems hTI rfl ?_)
 show wpAny _ _ (Builtin.SmallTypes.ownedTupleIsFree (.ref z)>>=_) _ _ _
 refine A0 ?_
 unfold Builtin.SmallTypes.ownedTupleIsFree
 refine A0 (wpAny_field hz rfl (x:= .none) rfl (F0 ?_))
 simp only[if_true]
 refine A0 (wpAny_rule ?_)
 refine A0 (wpAny_field hz rfl (x:= .ref TO) rfl ?_)
 refine A0 (wpAny_setField_rec hz `Z2 λh₁ hz₁ hs₁=>?_)
 replace hz₁:IsZip h₁ z TI TO .ellipsis:=hz₁
 refine A0 ?_
 simp only[List.zipIdx_cons,List.zipIdx_nil,List.forIn_cons,List.forIn_nil]
 refine A0 (A0 (wpAny_onRaise ?_))
 show wpAny _ _ (Builtin.SmallTypes.nextOf (.ref i1)>>=_) _ _ _
 have f1:∀{i:Nat} {h h':Heap},S1 i h->(∀c o,c≠z->c≠TO->c≠i2->h.get? c=some o->h'.get? c=some o)->S1 i h':=λst kk=>D1.frame _ _ _ st λc hc o e=>by
  rcases I0.mp hc with rfl|hc
  ·exact kk c o D.i1z D.TOi1.symm D.i12 e
  ·have:c=l1:=by simpa using hc
   subst this
   exact kk c o D.l1z D.l1TO D.l1i2 e
 have f2:∀{i:Nat} {h h':Heap},S2 i h->(∀c o,c≠z->c≠TO->c≠i1->h.get? c=some o->h'.get? c=some o)->S2 i h':=λst kk=>D2.frame _ _ _ st λc hc o e=>by
  rcases I0.mp hc with rfl|hc
  ·exact kk c o D.i2z D.TOi2.symm D.i12.symm e
  ·have:c=l2:=by simpa using hc
   subst this
   exact kk c o D.l2z D.l2TO D.l2i1 e
 rcases hend with rfl|⟨k1,rfl⟩
 ·refine A0 (D1.done _ _ _ (f1 h1 λc o c1 _ _ e=>hs₁.extBut _ _ c1 e) λh₂ e hs₂ he=>?_)
  obtain⟨oe,hoe,hce⟩:=he
  have hz₂:IsZip h₂ z TI TO .ellipsis:=hs₂ _ _ D.i1z.symm hz₁
  have hez:e≠z:=λx=>by subst x;rw[hz₂] at hoe;cases hoe;simp at hce
  refine wpAny_setField_rec hz₂ `Z2 λh₃ _ hs₃=>hE h₃ s.toks e (λc o c1 _ c3 _ x=>hs₃.extBut _ _ c1 (hs₂ _ _ c3 (hs₁.extBut _ _ c1 x))) ⟨oe,hs₃.extBut _ _ hez hoe,hce⟩
 ·refine A0 (D1.item k _ _ _ k1 (f1 h1 λc o c1 _ _ e=>hs₁.extBut _ _ c1 e) λx h₂ tk2 hx h1₂ hs₂=>F0 ?_)
  have hTO₂:IsPair h₂ TO a b:=hs₂.extBut _ _ D.TOi1 (hs₁.extBut _ _ D.TOz hTO)
  refine A0 (wpAny_seqItems hTO₂ rfl ?_)
  refine A0 (wpAny_updateSeq_pair hTO₂ λh₃ hTO₃ hs₃=>?_)
  refine A0 (wpAny_letGo (F0 ?_))
  refine A0 (A0 (wpAny_onRaise ?_))
  show wpAny _ _ (Builtin.SmallTypes.nextOf (.ref i2)>>=_) _ _ _
  refine A0 (D2.done _ _ _ (f2 h2 λc o c1 c2 c3 e=>hs₃.extBut _ _ c2 (hs₂.extBut _ _ c3 (hs₁.extBut _ _ c1 e))) λh₄ e hs₄ he=>?_)
  obtain⟨oe,hoe,hce⟩:=he
  have hz₄:IsZip h₄ z TI TO .ellipsis:=hs₄ _ _ D.i2z.symm (hs₃.extBut _ _ D.TOz.symm (hs₂.extBut _ _ D.i1z.symm hz₁))
  have hez:e≠z:=λx=>by subst x;rw[hz₄] at hoe;cases hoe;simp at hce
  refine wpAny_setField_rec hz₄ `Z2 λh₅ _ hs₅=>hE h₅ _ e (λc o c1 c2 c3 c4 x=>hs₅.extBut _ _ c1 (hs₄ _ _ c4 (hs₃.extBut _ _ c2 (hs₂.extBut _ _ c3 (hs₁.extBut _ _ c1 x))))) ⟨oe,hs₅.extBut _ _ hez hoe,hce⟩
def SqH(t:Bool)(h:Heap)(a:Addr)(items:Array Value):Prop:=if t then h.IsTuple a items else h.IsList a items
def ItH(t:Bool)(h:Heap)(it a:Addr)(i:Nat):Prop:=if t then h.IsTupleIter it a i else h.IsListIter it a i
noncomputable def itO(t:Bool)(a:Addr):Obj:={cls:= .type (if t then"tuple_iterator"else "list_iterator"),data:= .fields #[.ref a, .int 0 0]}
theorem ItH.at{t:Bool}(x:ItH t h it a i)(e:∀o,h.get? it=some o->h'.get? it=some o):ItH t h' it a i:=by
 cases t<;>(obtain⟨o,ho,r⟩:=x;exact⟨o,e _ ho,r⟩)
theorem ItH.obj{t:Bool}(x:ItH t h it a i):∃o,h.get? it=some o/\(∀v,o.data≠ .cell v)/\o.cls≠ .type "tuple"/\o.cls≠ .type "list":=by
 cases t
 ·obtain ⟨o,ho,c,d⟩:=x
  exact⟨o,ho,(λv z=>by rw[d] at z;cases z),(λz=>by rw[c] at z;injection z with z;exact absurd z ⋯),(λz=>by rw[c] at z;injection z with z;exact absurd z ⋯)⟩
 ·obtain ⟨o,ho,c,d⟩:=x
  exact⟨o,ho,(λv z=>by rw[d] at z;cases z),(λz=>by rw[c] at z;injection z with z;exact absurd z ⋯),(λz=>by rw[c] at z;injection z with z;exact absurd z ⋯)⟩
theorem drawsH(t:Bool)(hh:A.handled=none)(it l:Addr)(hne:l≠it)(items:Array Value):Draws prog w A it [it,l] items.size (λi v=>items[i]?=some v) (λi h=>ItH t h it l i/\SqH t h l items):=by
 cases t
 ·exact Draws.list hh it l hne items
 ·exact draws_tuple hh it l hne items
noncomputable abbrev zqm(h:Heap)(t1:Bool)(l1:Addr):Heap:=h.push (itO t1 l1)
noncomputable abbrev zqR(h:Heap)(t1 t2:Bool)(l1 l2:Addr):Heap:=(zqm h t1 l1).push (itO t2 l2)
noncomputable abbrev zrd(h:Heap)(t1 t2:Bool)(l1 l2:Addr):Heap:=(zqR h t1 t2 l1 l2).push {cls:= .type "tuple",data:= .seq #[.ref h.objs.size, .ref (zqm h t1 l1).objs.size]}
noncomputable abbrev zql(h:Heap)(t1 t2:Bool)(l1 l2:Addr):Heap:=(zrd h t1 t2 l1 l2).push {cls:= .type "tuple",data:= .seq #[.none, .none]}
noncomputable abbrev zlX(h:Heap)(t1 t2:Bool)(l1 l2:Addr):Heap:=(zql h t1 t2 l1 l2).push {cls:= .type "zip",data:= .fields #[.none, .bool false, .bool false, .ref (zqR h t1 t2 l1 l2).objs.size, .ref (zrd h t1 t2 l1 l2).objs.size]}
theorem zpM(t1 t2:Bool)(l1 l2:Addr)(xs ys:Array Value):
 Meets (Builtin.«zip.__new__» ⟨[.type "zip", .ref l1, .ref l2],[]⟩) (λ_ R s=>SqH t1 s.heap l1 xs/\SqH t2 s.heap l2 ys/\
  R (.ok (.ret (.ref (zql s.heap t1 t2 l1 l2).objs.size))) {s with heap:=zlX s.heap t1 t2 l1 l2}):=
 .of_wp λprog w A R s h=>by
  obtain⟨hp,g,d,tk,os⟩:=s;obtain⟨hl1,hl2,h⟩:=h
  have hsub:=sub_zip
  cases t1<;>cases t2
  ·have hL1:Heap.IsList (Shared.heap ⟨hp,g,d,tk,os⟩) l1 xs:=hl1
   have hL2:Heap.IsList (Shared.heap ⟨hp.push {cls:= .type "list_iterator",data:= .fields #[.ref l1, .int 0 0]},g,d,tk,os⟩) l2 ys:=Heap.IsList.push hl2 _
   wp_walk using wpAny_pyIter_list hL1,wpAny_pyIter_list hL2
   exact⟨_,rfl,h⟩
  ·have hL1:Heap.IsList (Shared.heap ⟨hp,g,d,tk,os⟩) l1 xs:=hl1
   have hL2:Heap.IsTuple (Shared.heap ⟨hp.push {cls:= .type "list_iterator",data:= .fields #[.ref l1, .int 0 0]},g,d,tk,os⟩) l2 ys:=(show Heap.IsTuple _ l2 ys from hl2).at λo e=>C0 _ e
   wp_walk using wpAny_pyIter_list hL1,wpAny_pyIter_tuple hL2
   exact⟨_,rfl,h⟩
  ·have hL1:Heap.IsTuple (Shared.heap ⟨hp,g,d,tk,os⟩) l1 xs:=hl1
   have hL2:Heap.IsList (Shared.heap ⟨hp.push {cls:= .type "tuple_iterator",data:= .fields #[.ref l1, .int 0 0]},g,d,tk,os⟩) l2 ys:=Heap.IsList.push hl2 _
   wp_walk using wpAny_pyIter_tuple hL1,wpAny_pyIter_list hL2
   exact⟨_,rfl,h⟩
  ·have hL1:Heap.IsTuple (Shared.heap ⟨hp,g,d,tk,os⟩) l1 xs:=hl1
   have hL2:Heap.IsTuple (Shared.heap ⟨hp.push {cls:= .type "tuple_iterator",data:= .fields #[.ref l1, .int 0 0]},g,d,tk,os⟩) l2 ys:=(show Heap.IsTuple _ l2 ys from hl2).at λo e=>C0 _ e
   wp_walk using wpAny_pyIter_tuple hL1,wpAny_pyIter_tuple hL2
   exact⟨_,rfl,h⟩
theorem ItH.new{t:Bool}(e:h.get? it=some (itO t a)):ItH t h it a 0:=by
 cases t
 ·exact ⟨_,e,rfl,rfl⟩
 ·exact ⟨_,e,rfl,rfl⟩
theorem call_zp{t1 t2:Bool}{xs ys:Array Value}(hl1:SqH t1 s.heap l1 xs)(hl2:SqH t2 s.heap l2 ys)
 (h:∀h',IsZip h' (s.heap.objs.size+4) (s.heap.objs.size+2) (s.heap.objs.size+3) .none->IsPair h' (s.heap.objs.size+2) (.ref s.heap.objs.size) (.ref (s.heap.objs.size+1))->
   IsPair h' (s.heap.objs.size+3) .none .none->ItH t1 h' s.heap.objs.size l1 0->ItH t2 h' (s.heap.objs.size+1) l2 0->h'.objs.size=s.heap.objs.size+5->
   (∀c o,s.heap.get? c=some o->h'.get? c=some o)->Q (.ref (s.heap.objs.size+4)) {s with heap:=h'}):
 wpAny (model prog w) A (call (.type "zip") [.ref l1, .ref l2]) Q E s:=by
 refine callType_new F.called_zip ⋯ (F.typeCall_zip_2 _ _) (F.newCall_zip_2 _ _) (λobj=>F.args_object_init_3 obj _ _) F.entry_zip_new
  (zpM t1 t2 l1 l2 xs ys) ⟨hl1,hl2,?_⟩
 have z1:(zqm s.heap t1 l1).objs.size=s.heap.objs.size+1:=Heap.size_push ..
 have z2:(zqR s.heap t1 t2 l1 l2).objs.size=s.heap.objs.size+2:=by rw[Heap.size_push,z1]
 have z3:(zrd s.heap t1 t2 l1 l2).objs.size=s.heap.objs.size+3:=by rw[Heap.size_push,z2]
 have z4:(zql s.heap t1 t2 l1 l2).objs.size=s.heap.objs.size+4:=by rw[Heap.size_push,z3]
 have z5:(zlX s.heap t1 t2 l1 l2).objs.size=s.heap.objs.size+5:=by rw[Heap.size_push,z4]
 have g5:(zlX s.heap t1 t2 l1 l2).get? (zql s.heap t1 t2 l1 l2).objs.size=some _:=M0 _ rfl
 have g4:(zlX s.heap t1 t2 l1 l2).get? (zrd s.heap t1 t2 l1 l2).objs.size=some _:=C0 _ (M0 _ rfl)
 have g3:(zlX s.heap t1 t2 l1 l2).get? (zqR s.heap t1 t2 l1 l2).objs.size=some _:=C0 _ (C0 _ (M0 _ rfl))
 have g2:(zlX s.heap t1 t2 l1 l2).get? (zqm s.heap t1 l1).objs.size=some _:=C0 _ (C0 _ (C0 _ (M0 _ rfl)))
 have g1:(zlX s.heap t1 t2 l1 l2).get? s.heap.objs.size=some _:=C0 _ (C0 _ (C0 _ (C0 _ (M0 _ rfl))))
 show _/\_
 rw[z2,z3,z4] at g5
 rw[z1,z2] at g3
 rw[z3] at g4
 rw[z1] at g2
 rw[z4]
 exact⟨⟨_,g5,rfl⟩,h _ g5 g3 g4 (ItH.new g1) (ItH.new g2) z5 λc o x=>
  C0 _ (C0 _ (C0 _ (C0 _ (C0 _ x))))⟩
def SqZ(t:Bool)(H:Hp)(a:Addr)(xs:List V):Prop:=if t then H a=some (.tup xs)else H a=some (.lst xs)
theorem SqZ.some{t:Bool}{H:Hp}{a:Addr}{xs:List V}(h:SqZ t H a xs):∃o,H a=some o:=by cases t<;>exact ⟨_,h⟩
theorem SqZ.inj{t:Bool}(h:SqZ t H a xs)(g:SqZ t H a ys):xs=ys:=by
 cases t
 ·have e:=(show H a=Option.some (.lst xs)from h).symm.trans (show H a=Option.some (.lst ys)from g);cases e;rfl
 ·have e:=(show H a=Option.some (.tup xs)from h).symm.trans (show H a=Option.some (.tup ys)from g);cases e;rfl
theorem zf2{t:Bool}(I:Inv X pins σ H s)(h:SqZ t H a xs):∃its:List Value,Vals xs its/\SqH t s.heap a its.toArray:=by
 cases t
 ·obtain ⟨its,rv,p,_⟩:=I.list (SqL.of (show H a=Option.some (.lst xs)from h));exact⟨its,rv,p.isList⟩
 ·obtain ⟨its,rv,p,_⟩:=I.tuple (show SqT X.K H a xs from .inl (.inl (show H a=Option.some (.tup xs)from h)));exact⟨its,rv,p⟩
noncomputable def Itz(t1 t2:Bool)(a b:Addr)(n:Nat):It:=
 ⟨λi H=>∃xs ys x y,SqZ t1 H a xs/\SqZ t2 H b ys/\min xs.length ys.length=n/\xs[i]?=some x/\ys[i]?=some y,
  λi H x H'=>∃T xs ys u v,SqZ t1 H a xs/\SqZ t2 H b ys/\x= .ref T/\H T=none/\xs[i]?=some u/\ys[i]?=some v/\H'=upd H T (.tup [u,v]),
  λi H=>∃xs ys,SqZ t1 H a xs/\SqZ t2 H b ys/\min xs.length ys.length=n/\n<=i⟩
structure ZpA(z TI TO i1 i2:Addr):Prop where
 TIz:TI≠z
 TOz:TO≠z
 i1z:i1≠z
 i2z:i2≠z
 TITO:TI≠TO
 TIi1:TI≠i1
 TIi2:TI≠i2
 TOi1:TO≠i1
 TOi2:TO≠i2
 i12:i1≠i2
theorem ZpA.apart{TI TO:Addr}(Z:ZpA z TI TO i1 i2)(hf:∀b∈ [z,TI,TO,i1,i2],H b=none)(h1:∃o,H l1=some o)(h2:∃o,H l2=some o):ZipApart z TI TO i1 i2 l1 l2:=by
 have n1:∀b∈ [z,TI,TO,i1,i2],l1≠b:=λb hb e=>by obtain⟨o,h⟩:=h1;rw[e,hf b hb] at h;cases h
 have n2:∀b∈ [z,TI,TO,i1,i2],l2≠b:=λb hb e=>by obtain⟨o,h⟩:=h2;rw[e,hf b hb] at h;cases h
 exact⟨Z.TIz,Z.TOz,Z.i1z,Z.i2z,Z.TITO,Z.TIi1,Z.TIi2,Z.TOi1,Z.TOi2,Z.i12,n1 _ `Z2,n1 _ `Z2,n1 _ `Z2,n1 _ `Z2,n2 _ `Z2,n2 _ `Z2,n2 _ `Z2,n2 _ `Z2⟩
theorem Inv.stepF{h2:Heap}{tk:Nat}(I:Inv X pins σ H s)(hf:∀b∈fp,zc4 X pins H b)(kk:∀b o,b∉fp->s.heap.get? b=some o->h2.get? b=some o):
 Inv X pins σ H {s with heap:=h2,toks:=tk}:=by
 refine Inv.step (s:=s) (h':=h2) (t':=tk) (g':=s.gens) (d':=s.drawn) (ch:=fp) I (λb hb=>?_) (λb o _ _ hc e' _=>kk b o hc e') (λb o _ _ hc e' _=>⟨o.slots,kk b o hc e'⟩) (λ_ _ _ _ z=>z) (λb o hc e'=>⟨o,kk b o hc e'⟩) (λ_ _ z=>z) (λ_ _ _ z=>z) (λb ps z=>⟨#[],by rw[z];simp⟩) (λm hm=>?_) (λb u' z=>?_) I.bare
 ·obtain ⟨f0,f1,f2,f3,f4,f5⟩:=hf b hb
  exact⟨f3,f1,f4,f5⟩
 ·obtain ⟨o,es,ep,ho,r⟩:=hm
  exact⟨o,es,ep,kk _ o (λz=>(hf _ z).2.1 rfl) ho,r⟩
 ·refine (I.hok b u' z).stay (λc v hc q=>kk c v (λy=>?_) q) (λc q=>q) λc xs q=>q
  have:∃u2,H c=some u2:=by
   rcases hc with rfl|hc
   ·exact ⟨_,z⟩
   ·exact ⟨_,hc⟩
  obtain⟨u2,hu2⟩:=this
  rw[(hf c y).1] at hu2;cases hu2
theorem zoA{t1 t2:Bool}(a b z TI TO i1 i2:Addr)(n:Nat)(Z:ZpA z TI TO i1 i2):
 Turn P w K (.Tuple elts k pos) (Itz t1 t2 a b n) [z,TI,TO,i1,i2] z (λi h=>i<=n/\IsZip h z TI TO .none/\IsPair h TI (.ref i1) (.ref i2)/\(∃x y,IsPair h TO x y)/\ItH t1 h i1 a i/\ItH t2 h i2 b i) where
 mem:=`Z2
 obj:=λi h st c hc=>by
  obtain⟨_,hz,hTI,⟨x,y,hTO⟩,h1,h2⟩:=st
  simp only[I0,U1,or_false] at hc
  rcases hc with rfl|rfl|rfl|rfl|rfl
  ·exact ⟨_,hz,λv e=>by cases e⟩
  ·exact ⟨_,hTI,λv e=>by cases e⟩
  ·exact ⟨_,hTO,λv e=>by cases e⟩
  ·obtain ⟨o,ho,d,_⟩:=h1.obj;exact⟨o,ho,d⟩
  ·obtain ⟨o,ho,d,_⟩:=h2.obj;exact⟨o,ho,d⟩
 keep:=λi h h' st kk=>by
  obtain⟨l,hz,hTI,⟨x,y,hTO⟩,h1,h2⟩:=st
  exact⟨l,kk _ `Z2 _ hz,kk _ `Z2 _ hTI,⟨x,y,kk _ `Z2 _ hTO⟩,h1.at λo e=>kk _ `Z2 o e,h2.at λo e=>kk _ `Z2 o e⟩
 item:=by
  intro X hP hw hK hc i pins s σ H E I hf st hg
  subst hP hw hK
  obtain⟨xs,ys,x,y,hq1,hq2,hn,hx,hy⟩:=hg
  obtain⟨it1,rv1,p1⟩:=zf2 I hq1
  obtain⟨it2,rv2,p2⟩:=zf2 I hq2
  obtain⟨u1,hu1,ru1⟩:=rv1.get hx
  obtain⟨u2,hu2,ru2⟩:=rv2.get hy
  have hf0:∀c∈ [z,TI,TO,i1,i2],H c=none:=λc hc=>(hf c hc).1
  have D:=Z.apart hf0 hq1.some hq2.some
  obtain⟨hin,hz,hTI,⟨x0,y0,hTO⟩,h1,h2⟩:=st
  have L1:i<it1.toArray.size:=by
   rcases A2 i it1.length with q|q
   ·simpa using q
   ·rw[X0 q] at hu1;cases hu1
  have L2':i<it2.toArray.size:=by
   rcases A2 i it2.length with q|q
   ·simpa using q
   ·rw[X0 q] at hu2;cases hu2
  have hT:s.TypeIs (.ref z) "zip":=⟨_,hz,rfl⟩
  unfold pyNext
  refine A0 (wpAny_attempt (wpAny_callSpecial?_slot (name:=Str.ofString "__next__") hT F.slot_zip_next (wpAny_call_entry F.slot_zip_next hT F.entry_zip_next
   (zip_itemD D (drawsH (A:=X.A.in1) t1 (I.ok.hd hc) i1 a D.l1i1 it1.toArray) (drawsH (A:=X.A.in1) t2 (I.ok.hd hc) i2 b D.l2i2 it2.toArray) hz hTI hTO ⟨h1,p1⟩ ⟨h2,p2⟩ L1 L2' λx' y' h' tk hx' hy' az ao a1 a2 aT asz hk=>?_) (F.args_zip_next_1 _))))
  refine F0 ?_
  obtain⟨T,hTT⟩:∃T,T=s.heap.objs.size:=⟨_,rfl⟩
  rw[←hTT] at az aT⊢
  have e1:x'=u1:=by
   have:it1.toArray[i]?=some u1:=by simpa using hu1
   rw[this] at hx';exact(A1 hx').symm
  have e2:y'=u2:=by
   have:it2.toArray[i]?=some u2:=by simpa using hu2
   rw[this] at hy';exact(A1 hy').symm
  subst e1 e2
  refine⟨_,rfl,wpAny_letOwnedTupleGo_zip az λh2' hz2 hs2=>?_⟩
  have ltT:∀{c o},s.heap.get? c=some o->c≠T:=λq e=>by
   have:=P0 q
   rw[e,hTT] at this
   exact absurd this (Z1 _)
  have nTz:T≠z:=Ne.symm (ltT hz)
  have hT2:h2'.get? T=some {cls:= .type "tuple",data:= .seq #[x',y']}:=hs2.extBut _ _ nTz aT
  have fT:H T=none:=I.hok.fresh (Nat.le_of_eq hTT.symm)
  have kk:∀c o,c∉ [z,TI,TO,i1,i2]->s.heap.get? c=some o->h2'.get? c=some o:=λc o hc e=>hs2.extBut _ _ (λq=>hc (by simp[q])) (hk c o (λq=>hc (by simp[q])) (λq=>hc (by simp[q])) (λq=>hc (by simp[q])) (λq=>hc (by simp[q])) e)
  have nT:T∉ [z,TI,TO,i1,i2]:=λq=>by
   simp only[I0,U1,or_false] at q
   rcases q with q|q|q|q|q
   ·exact nTz q
   ·exact ltT hTI q.symm
   ·exact ltT hTO q.symm
   ·obtain ⟨o,ho,_⟩:=h1.obj;exact ltT ho q.symm
   ·obtain ⟨o,ho,_⟩:=h2.obj;exact ltT ho q.symm
  have neT:∀{c u'},H c=some u'->c≠T:=λq e=>by rw[e,fT] at q;cases q
  refine⟨.ref T,upd H T (.tup [x,y]),?_,rfl,⟨T,xs,ys,x,y,hq1,hq2,rfl,fT,hx,hy,rfl⟩,⟨?_,hz2,hs2.extBut _ _ Z.TIz (hk _ _ Z.TIz Z.TITO Z.TIi1 Z.TIi2 hTI),⟨_,_,hs2.extBut _ _ Z.TOz ao⟩,a1.1.at λo e=>hs2.extBut _ _ Z.i1z e,a2.1.at λo e=>hs2.extBut _ _ Z.i2z e⟩,λc hc=>?_⟩
  ·show Inv X pins σ _ {s with heap:=h2',gens:=s.gens,drawn:=s.drawn,toks:=tk}
   refine Inv.step (s:=s) (h':=h2') (t':=tk) (g':=s.gens) (d':=s.drawn) (ch:=[z,TI,TO,i1,i2]) I (λc hc=>?_) (λc o _ _ hc e' _=>kk c o hc e') (λc o _ _ hc e' _=>⟨o.slots,kk c o hc e'⟩) (λc o _ e' q=>by rw[zn (ltT e')];exact q) (λc o hc e'=>⟨o,kk c o hc e'⟩) (λc xs q=>by rw[zn (neT q)];exact q) (λc o u' q=>by rw[zn (neT q)];exact q) (λc ps q=>⟨#[],by rw[zn (neT q),q];simp⟩) (λm hm=>?_) (λc u' q=>?_) I.bare
   ·obtain ⟨f0,f1,f2,f3,f4,f5⟩:=hf c hc
    exact⟨f3,f1,f4,f5⟩
   ·obtain ⟨o,es,ep,ho,r⟩:=hm
    exact⟨o,es,ep,kk _ o (λq=>(hf _ q).2.1 rfl) ho,r⟩
   ·by_cases hb:c=T
    ·subst hb
     rw[upd_same] at q
     cases q
     exact⟨few rfl,[x',y'], .cons ru1 (.cons ru2 .nil),⟨_,hT2,rfl,_,rfl⟩,λo q=>by rw[hT2] at q;cases q;rfl⟩
    ·rw[zn hb] at q
     refine(I.hok c u' q).stay (λd v hd q'=>kk d v (λy'=>?_) q') (λd q'=>by rw[zn (neT q')];exact q') λd xs q'=>by rw[zn (neT q')];exact q'
     have:∃u2,H d=some u2:=by
      rcases hd with rfl|hd
      ·exact ⟨_,q⟩
      ·exact ⟨_,hd⟩
     obtain⟨u2,hu2⟩:=this
     rw[hf0 d y'] at hu2;cases hu2
  ·have m1:i<xs.length:=by
    rcases A2 i xs.length with q|q
    ·exact q
    ·rw[X0 q] at hx;cases hx
   have m2:i<ys.length:=by
    rcases A2 i ys.length with q|q
    ·exact q
    ·rw[X0 q] at hy;cases hy
   rw[←hn]
   exact Nat.lt_min.mpr ⟨m1,m2⟩
  ·have:c≠T:=λq=>nT (by rw[←q];exact hc)
   rw[zn this]
   exact(hf c hc).1
 done:=by
   intro X hP hw hK hc i pins s σ H E I hf st hg
   subst hP hw hK
   obtain⟨xs,ys,hq1,hq2,hn,hle⟩:=hg
   obtain⟨it1,rv1,p1⟩:=zf2 I hq1
   obtain⟨it2,rv2,p2⟩:=zf2 I hq2
   have hf0:∀c∈ [z,TI,TO,i1,i2],H c=none:=λc hc=>(hf c hc).1
   have D:=Z.apart hf0 hq1.some hq2.some
   obtain⟨hin,hz,hTI,⟨x0,y0,hTO⟩,h1,h2⟩:=st
   have ei:i=min xs.length ys.length:=()
   have l1:=rv1.length
   have l2:=rv2.length
   have hend:i=it1.toArray.size\/(i<it1.toArray.size/\i=it2.toArray.size):=by
    simp only[b0]
    rcases A2 ys.length xs.length with q|q
    ·exact .inr ⟨(),()⟩
    ·exact .inl ()
   have hT:s.TypeIs (.ref z) "zip":=⟨_,hz,rfl⟩
   unfold pyNext
   refine A0 (wpAny_attempt (wpAny_callSpecial?_slot (name:=Str.ofString "__next__") hT F.slot_zip_next (wpAny_call_entry F.slot_zip_next hT F.entry_zip_next
    (zip_endD D (drawsH (A:=X.A.in1) t1 (I.ok.hd hc) i1 a D.l1i1 it1.toArray) (drawsH (A:=X.A.in1) t2 (I.ok.hd hc) i2 b D.l2i2 it2.toArray) hz hTI hTO ⟨h1,p1⟩ ⟨h2,p2⟩ hend λh' tk e hk he=>?_) (F.args_zip_next_1 _))))
   obtain⟨o,ho,hce⟩:=he
   refine A0 (wpAny_isInstance (T:="StopIteration") (b:=true) ⟨o,ho,hce⟩ isSubtype_stop ?_)
   refine F0 ⟨rfl,I.stepF (fp:=[z,TI,TO,i1,i2]) hf λc o hc e=>hk c o (λq=>hc (by simp[q])) (λq=>hc (by simp[q])) (λq=>hc (by simp[q])) (λq=>hc (by simp[q])) e⟩
 self:=λA i s Q E st h=>wpAny_pyIter_zip st.2.1 h
noncomputable def zum(ta:TA):TI:=λσ H R=>ta σ H λvs H1=>∃a b t1 t2 xs ys,vs=[.ref a, .ref b]/\SqZ t1 H1 a xs/\SqZ t2 H1 b ys/\R (Itz t1 t2 a b (min xs.length ys.length)) H1
theorem zoT:bootBuiltins "zip"=some (.type "zip"):=by kernel_rfl
theorem zkk{a b:Expr}{p:Pos}(hm:X.mg "zip"=none)(ha:QA X [a,b] ta)(hg:autoParam (Gl X "zip") y3)(hs:autoParam (starEach [a,b] X.env=[(false,eval a X.env),(false,eval b X.env)]) y3)(hs2:autoParam (starEach [b] X.env=[(false,eval b X.env)]) y3):QI X (.Tuple elts k pos2) (.Call (.Name "zip" p) [a,b] [] pos) (zum ta):=⟨by
 intro pins s σ H R I h
 refine Call_ (zeh I hg hm zoT (PyProof.Rows.callWith_type1 (thn (ha.o pos pins s σ H _ I h) λus s1 ⟨vs,H1,I1,r1,q1⟩=>?_) (by rw[hs,hs2]) (by rw[hs2];rfl)))
 obtain⟨l1,l2,t1,t2,xs,ys,rfl,hq1,hq2,q⟩:=q1
 obtain⟨u,v,rfl,ru,rv⟩:=ziO r1
 cases ru
 cases rv
 obtain⟨it1,rv1,p1⟩:=zf2 I1 hq1
 obtain⟨it2,rv2,p2⟩:=zf2 I1 hq2
 refine call_zp p1 p2 λh' hz hTI hTO hi1 hi2 hsz kk=>?_
 have Z:ZpA (s1.heap.objs.size+4) (s1.heap.objs.size+2) (s1.heap.objs.size+3) s1.heap.objs.size (s1.heap.objs.size+1):=by constructor<;>(intro e;have e':(_:Nat)=_:=e;lia)
 refine wpAny_pyIter_zip hz ?_
 refine⟨s1.heap.objs.size+4,[s1.heap.objs.size+4,s1.heap.objs.size+2,s1.heap.objs.size+3,s1.heap.objs.size,s1.heap.objs.size+1],_,_,H1,rfl,I1.kept (t':=s1.toks) kk,zoA l1 l2 _ _ _ _ _ (min xs.length ys.length) Z,⟨X1 _,hz,hTI,⟨_,_,hTO⟩,hi1,hi2⟩,λc hc=>?_,q⟩
 have hb':s1.heap.objs.size<=c:=by
  simp only[I0,U1,or_false] at hc
  rcases hc with e|e|e|e|e<;>(have e':(c:Nat)=_:=e;rw[e'];first|exact K0 _|exact Nat.le_add_right _ _)
 exact I1.fpOk hb' (I1.hok.fresh hb')⟩
theorem zgW{D:Ends}(Pv:Nat->St->Hp->Prop)(h0:Pv 0 σ H)(hgo:∀i σ H,i<n->Pv i σ H->J.go i H)(hst:∀σ H,Pv n σ H->J.stop n H)
 (hs:∀i x σ H H1,i<n->Pv i σ H->J.yld i H x H1->g x σ H1 λσ2 H2=>tb {D with nx:=Pv (i+1),ct:=Pv (i+1),bk:=D.nx} σ2 H2) (hd:∀σ H,Pv n σ H->D.nx σ H):zoy g tb D σ J H:=by
 refine⟨λi m σ H=>m=n -i/\i<=n/\Pv i σ H,⟨n,`Z2,X1 _,h0⟩,?_⟩
 rintro i m σ H ⟨rfl,hi,p⟩
 by_cases hlt:i<n
 ·exact .inr ⟨hgo i σ H hlt p,Pv (i+1),λσ' H' q=>⟨n -(i+1),(),rfl,hlt,q⟩,λx H' y=>hs i x σ H H' hlt p y⟩
 ·have e:i=n:=()
  subst e
  exact .inl ⟨hst σ H p,hd σ H p⟩
theorem zo9{src:List (Option Nat)}{Q:VK}(Pv:Addr->Nat->List V->St->Hp->Prop)
 (h0:∀l,H1 l=none->Pv l 0 [] (zdy src σ) (upd H1 l (.lst []))) (hgo:∀l i ys σ H,H1 l=none->i<n->Pv l i ys σ H->J.go i H) (hst:∀l ys σ H,H1 l=none->Pv l n ys σ H->J.stop n H)
 (hs:∀l i x ys σ H H2,H1 l=none->i<n->Pv l i ys σ H->H l=some (.lst ys)->J.yld i H x H2->g x σ H2 λσ2 H3=>tc σ2 H3 λb H4=>
   if b=true then te σ2 H4 λy H5=>H5 l=some (.lst ys)/\ys.length<sizeLine/\Pv l (i+1) (ys ++ [y]) σ2 (upd H5 l (.lst (ys ++ [y])))else H4 l=some (.lst ys)/\Pv l (i+1) ys σ2 H4)
 (hd:∀l ys σ H,H1 l=none->Pv l n ys σ H->H l=some (.lst ys)->Q (.ref l) H):zdx g tc te src σ Q J H1:=by
 intro l hl
 refine⟨λi m ys σ H=>m=n -i/\i<=n/\Pv l i ys σ H,⟨n,`Z2,X1 _,h0 l hl⟩,?_⟩
 rintro i m ys σ' H' ⟨rfl,hi,p⟩ hl'
 by_cases hlt:i<n
 ·exact .inr ⟨hgo l i ys σ' H' hl hlt p,Pv l (i+1),λzs σ2 H2 q=>⟨n -(i+1),(),rfl,hlt,q⟩,λx H2 y=>hs l i x ys σ' H' H2 hl hlt p hl' y⟩
 ·have e:i=n:=()
  subst e
  exact .inl ⟨hst l ys σ' H' hl p,hd l ys σ' H' hl p hl'⟩
noncomputable abbrev lc2(elt t1 i1 t2 i2:Expr)(f1 f2:List Expr)(scope:Scope)(pos:Pos):Expr:= .ListComp elt [⟨t1,i1,f1,0⟩,⟨t2,i2,f2,0⟩] scope pos
theorem zic(elt t1 i1 t2 i2:Expr)(f1 f2:List Expr)(scope:Scope)(pos:Pos)(it acc:Value)(env:Env):
 compTurn (lc2 elt t1 i1 t2 i2 f1 f2 scope pos) 0 it acc env=(do
  standAt i1.pos
  match←pyNext it with
  |none=>pure (.done .next)
  |some v=>
   letOwnedTupleGo t1 it v
   assign t1 env v
   let mut ok:=true
   for c in f1 do
    if ok then ok ←isTrue c env (eval c env)
   if ok then
    let x ←eval i2 env
    standAt i2.pos
    let x ←foldedSetIterable i2 env x
    let _ ←runOwn (.compStart (lc2 elt t1 i1 t2 i2 f1 f2 scope pos) 1 (←holding [x] (pyIter x)) acc env) env
   again (.compLoop (lc2 elt t1 i1 t2 i2 f1 f2 scope pos) 0 it acc env)):=by rfl
theorem zik(elt t1 i1 t2 i2:Expr)(f1 f2:List Expr)(scope:Scope)(pos:Pos)(it acc:Value)(env:Env):
 compTurn (lc2 elt t1 i1 t2 i2 f1 f2 scope pos) 1 it acc env=(do
  standAt i2.pos
  match←pyNext it with
  |none=>pure (.done .next)
  |some v=>
   letOwnedTupleGo t2 it v
   assign t2 env v
   let mut ok:=true
   for c in f2 do
    if ok then ok ←isTrue c env (eval c env)
   if ok then
    (do let _ ←call (.builtin "list.append") [acc,←eval elt env])
   again (.compLoop (lc2 elt t1 i1 t2 i2 f1 f2 scope pos) 1 it acc env)):=by rfl
section
variable{i1 i2:Expr}{it:Value}
theorem zii(I:Nat->Shared->Prop)
 (turn:∀n s,I n s->wpAny (model prog w) A (pyNext it) (λr s1=>match r with
   |none=>R (.ok .next) s1
   |some v=>wpAny (model prog w) A (letOwnedTupleGo t2 it v) (λ_ s1'=>wpAny (model prog w) A (assign t2 env v) (λ_ s2=>wpAny (model prog w) A (zg0 f2 env) (λok s3=>
     if ok=true then wpAny (model prog w) A (eval elt env) (λx s4=>wpAny (model prog w) A (call (.builtin "list.append") [acc,x]) (λ_ s5=>∃m,m<n/\I m s5) (λ_ _=>False) s4) (λ_ _=>False) s3
     else∃m,m<n/\I m s3) (λ_ _=>False) s2) (λ_ _=>False) s1') (λ_ _=>False) s1) (λ_ _=>False) s)
 (n:Nat) (h:I n s):codeAny (model prog w) A (.compLoop (lc2 elt t1 i1 t2 i2 f1 f2 scope pos) 1 it acc env) R s:=by
 have no:∀{E:Value->Shared->Prop} (e:Value) (s:Shared),(λ(_:Value) (_:Shared)=>False) e s->E e s:=λ_ _ z=>False.elim z
 refine codeAny_loop rfl I (λn s hI=>?_) n h
 show wpAny _ A ((compTurn (lc2 elt t1 i1 t2 i2 f1 f2 scope pos) 1 it acc env).onRaise (λx=>do noteFrame x env;theTreesLotGoes x)) _ _ s
 refine wpAny_noted ?_
 rw[zik]
 refine A0 (wpAny_standAt (A0 (Y1 (turn n s hI) (λr s₁ h₁=>?_) no)))
 cases r with
 |none=>exact F0 h₁
 |some v=>
  refine A0 (Y1 h₁ (λ_ s1' h1'=>?_) no)
  refine A0 (Y1 h1' (λ_ s₂ h₂=>A0 (Y1 h₂ (λok s₃ h₃=>?_) no)) no)
  cases ok with
  |false=>exact F0 ⟨rfl,h₃⟩
  |true=>
   exact A0 (A0 (Y1 h₃ (λx s₄ h₄=>A0 (Y1 h₄ (λ_ s₅ h₅=>F0 (F0 ⟨rfl,h₅⟩)) no)) no))
theorem zhS(I:Nat->Shared->Prop)(hs2:∀x,foldedSetIterable i2 env x=pure x)
 (turn:∀n s,I n s->wpAny (model prog w) A (pyNext it) (λr s1=>match r with
   |none=>R (.ok .next) s1
   |some v=>wpAny (model prog w) A (letOwnedTupleGo t1 it v) (λ_ s1'=>wpAny (model prog w) A (assign t1 env v) (λ_ s2=>wpAny (model prog w) A (zg0 f1 env) (λok s3=>
     if ok=true then wpAny (model prog w) A (eval i2 env) (λx s4=>wpAny (model prog w) A (pyIter x) (λit2 s5=>codeAny (model prog w) A (.compStart (lc2 elt t1 i1 t2 i2 f1 f2 scope pos) 1 it2 acc env) (λr s6=>match r with| .ok _=>∃m,m<n/\I m s6| .error _=>False) s5) (λ_ _=>False) s4) (λ_ _=>False) s3
     else∃m,m<n/\I m s3) (λ_ _=>False) s2) (λ_ _=>False) s1') (λ_ _=>False) s1) (λ_ _=>False) s)
 (n:Nat) (h:I n s):codeAny (model prog w) A (.compLoop (lc2 elt t1 i1 t2 i2 f1 f2 scope pos) 0 it acc env) R s:=by
 have no:∀{E:Value->Shared->Prop} (e:Value) (s:Shared),(λ(_:Value) (_:Shared)=>False) e s->E e s:=λ_ _ z=>False.elim z
 refine codeAny_loop rfl I (λn s hI=>?_) n h
 show wpAny _ A ((compTurn (lc2 elt t1 i1 t2 i2 f1 f2 scope pos) 0 it acc env).onRaise (λx=>do noteFrame x env;theTreesLotGoes x)) _ _ s
 refine wpAny_noted ?_
 rw[zic]
 refine A0 (wpAny_standAt (A0 (Y1 (turn n s hI) (λr s₁ h₁=>?_) no)))
 cases r with
 |none=>exact F0 h₁
 |some v=>
  refine A0 (Y1 h₁ (λ_ s1' h1'=>?_) no)
  refine A0 (Y1 h1' (λ_ s₂ h₂=>A0 (Y1 h₂ (λok s₃ h₃=>?_) no)) no)
  cases ok with
  |false=>exact F0 ⟨rfl,h₃⟩
  |true=>
   refine A0 (Y1 h₃ (λx s₄ h₄=>A0 (wpAny_standAt (A0 (wpAny_of_eq (hs2 x) (A0 (wpAny_holding (Y1 h₄ (λit2 s₅ h₅=>?_) no))))))) no)
   refine A0 (wpAny_runOwn (codeAny_mono h₅ λr s₆ h₆=>?_))
   cases r with
   |error e=>exact False.elim h₆
   |ok f=>exact F0 ⟨rfl,h₆⟩
theorem zho
 (h0:codeAny (model prog w) A (.compLoop (lc2 elt t1 i1 t2 i2 f1 f2 scope pos) 1 it acc env) R s)
 (h:wpAny (model prog w) A (pyIter it) (λit' s'=>codeAny (model prog w) A (.compLoop (lc2 elt t1 i1 t2 i2 f1 f2 scope pos) 1 it' acc env) R s')
   (notedBy (model prog w) A env λx s'=>R (.error x) s') s):
 codeAny (model prog w) A (.compStart (lc2 elt t1 i1 t2 i2 f1 f2 scope pos) 1 it acc env) R s:=by
 refine codeAny_of_tree ?_
 show wpAny _ _ ((compStart (lc2 elt t1 i1 t2 i2 f1 f2 scope pos) 1 it acc env).onRaise (λx=>do noteFrame x env;standAt theWindowsPlace)) _ _ s
 refine wpAny_notedAt ?_
 unfold compStart
 show wpAny _ _ (ask>>=_) _ _ s
 refine A0 (wpAny_askSetting (wpAny_ite ?_))
 split
 ·first
   |exact A0 (F0 (F0 (And.intro rfl h0)))
   |exact F0 (And.intro rfl h0)
 ·refine A0 (wpAny_rule ?_)
  show wpAny _ _ (standAt i2.pos>>=_) _ _ s
  refine A0 (wpAny_standAt ?_)
  exact A0 (Y1 h (λit' s' h'=>F0 (And.intro rfl h')) λ_ _ z=>z)
end
def zse(g2:TG)(tc2:TT)(te:TE)(l:Addr)(ys:List V)(N:List V->St->Hp->Prop)(J2:It)(σ2:St)(H5:Hp):Prop:=∃W:Nat->Nat->List V->St->Hp->Prop,(∃m,W 0 m ys σ2 H5)/\∀i m ys σ' H',W i m ys σ' H'->H' l=some (.lst ys)->
 (J2.stop i H'/\N ys σ' H')\/(J2.go i H'/\∃N2:List V->St->Hp->Prop,(∀zs σ2 H2,N2 zs σ2 H2->∃m',m'<m/\W (i+1) m' zs σ2 H2)/\∀x H2,J2.yld i H' x H2->g2 x σ' H2 λσ2 H3=>tc2 σ2 H3 λb H4=>
   if b=true then te σ2 H4 λy H5=>H5 l=some (.lst ys)/\ys.length<sizeLine/\N2 (ys ++ [y]) σ2 (upd H5 l (.lst (ys ++ [y])))
   else H4 l=some (.lst ys)/\N2 ys σ2 H4)
def zml(g:TG)(tc:TT)(wi2:TI)(g2:TG)(tc2:TT)(te:TE)(src:List (Option Nat))(σ:St)(Q:VK)(J:It)(H1:Hp):Prop:=∀l,H1 l=none->
 ∃W:Nat->Nat->List V->St->Hp->Prop,(∃m,W 0 m [] (zdy src σ) (upd H1 l (.lst [])))/\∀i m ys σ' H',W i m ys σ' H'->H' l=some (.lst ys)->
  (J.stop i H'/\Q (.ref l) H')\/(J.go i H'/\∃N:List V->St->Hp->Prop,(∀zs σ2 H2,N zs σ2 H2->∃m',m'<m/\W (i+1) m' zs σ2 H2)/\∀x H2,J.yld i H' x H2->g x σ' H2 λσ2 H3=>tc σ2 H3 λb H4=>
    if b=true then wi2 σ2 H4 λJ2 H5=>H5 l=some (.lst ys)/\zse g2 tc2 te l ys N J2 σ2 H5
    else H4 l=some (.lst ys)/\N ys σ2 H4)
noncomputable def zpr(wi:TI)(g:TG)(tc:TT)(wi2:TI)(g2:TG)(tc2:TT)(te:TE)(src:List (Option Nat)):TE:=λσ H Q=>wi σ H (zml g tc wi2 g2 tc2 te src σ Q)
section
variable{src:List (Option Nat)}
theorem zp5(ok:CompOk X.N osc N' src scope)(hsc:X.env.scope=osc)(hc:X.calm=true)(hi:PI X tg iter wi)
 (hg:∀cl C s₀ H₀ fp,PG (zx X N' scope cl C s₀ H₀ fp) tg g) (ht:∀cl C s₀ H₀ fp,PIf (zx X N' scope cl C s₀ H₀ fp) ifs tc)
 (hi2:∀cl C s₀ H₀ fp,PI (zx X N' scope cl C s₀ H₀ fp) tg2 iter2 wi2) (hg2:∀cl C s₀ H₀ fp,PG (zx X N' scope cl C s₀ H₀ fp) tg2 g2) (ht2:∀cl C s₀ H₀ fp,PIf (zx X N' scope cl C s₀ H₀ fp) ifs2 tc2)
 (he:∀cl C s₀ H₀ fp,PE (zx X N' scope cl C s₀ H₀ fp) elt te) (hxe:∀cl C s₀ H₀ fp e s,(zx X N' scope cl C s₀ H₀ fp).xe e s->False)
 (hs:autoParam (∀x,foldedSetIterable iter X.env x=pure x) u5) (hs2:autoParam (∀env x,foldedSetIterable iter2 env x=pure x) w6):PE X (lc2 elt tg iter tg2 iter2 ifs ifs2 scope pos) (zpr wi g tc wi2 g2 tc2 te src):=by
 intro pins s σ H Q I h
 obtain⟨cl,hcl,c1,c2⟩:=zdv (scope:=scope) (env:=X.env) λy hy hyf=>I.ok.has y.1 (by
  have z:=ok.frees y hy hyf
  rw[←hsc] at z
  exact z)
 rw[eval_ListComp]
 refine wpAny_comprehension_free (use:=none) rfl hs hcl ok.kind ok.loc (thn (hi pins s σ H _ I h) λv s1 h1=>thn h1 λitv s2 h2=>?_)
 obtain⟨it,fp,tn,J,H2,e,I2,T,st2,f2,q2⟩:=h2
 subst e
 have hlt2:∀b∈fp,b<s2.heap.objs.size:=λb hb=>by
  obtain⟨o,e,_⟩:=T.obj _ _ st2 b hb
  exact P0 e
 refine wpAny_newObj_type ?_
 have hl:H2 s2.heap.objs.size=none:=I2.hok.fresh (K0 _)
 have I3:Inv X pins σ (upd H2 s2.heap.objs.size (.lst [])) {s2 with heap:=s2.heap.push {cls:= .type "list",dict:=none,data:= .seq ([]:List Value).toArray}}:=
  I2.laid (t':=s2.toks) (λb u e=>C0 _ e) (K0 _) ⟨X1 _,[],0, .nil,M0 _ rfl⟩
 obtain⟨W,⟨m0,w0⟩,turn⟩:=q2 _ hl
 generalize hl2:s2.heap.objs.size=l at *
 generalize hs3:({s2 with heap:=s2.heap.push {cls:= .type "list",dict:=none,data:= .seq ([]:List Value).toArray}}:Shared)=s3 at *
 have f3:∀b∈fp,zc4 X pins (upd H2 l (.lst [])) b:=λb hb=>⟨by rw[zn (R1 (hlt2 b hb))];exact(f2 b hb).1,(f2 b hb).2⟩
 have k3:∀b o,s2.heap.get? b=some o->s3.heap.get? b=some o:=λb o e=>by rw[←hs3];exact C0 _ e
 have hlt3:∀b∈fp,b<s3.heap.objs.size:=λb hb=>by
  obtain⟨o,e,_⟩:=T.obj _ _ st2 b hb
  exact P0 (k3 b o e)
 refine wpAny_newFunctionEnv ok.nocell (by intro y hy;simp at hy) (λh₁ hns₁ hsb₁=>?_) ok.kind
 have k4:∀b o,s3.heap.get? b=some o->h₁.get? b=some o:=λb o e=>(hsb₁.2 b (R1 (P0 e))).trans (C0 _ e)
 have J0:=zfc (tk:=s3.toks+([]:List (Str×Value)).length) I3 f3 hlt3 ok hsc c1 c2 hns₁ k4
 have st4:tn 0 h₁:=T.keep _ _ _ st2 λb hb o e=>k4 b o (k3 b o e)
 generalize hC:s3.heap.objs.size=C at *
 have stat:∀{H':Hp},(∀b∈fp,H' b=none)->∀b∈fp,zc4 `j3 [] H' b:=λ{H'} hn b hb=>
  ⟨hn b hb,(J0.ok.exf b hb).1,J0.ok.exfs b hb, .inl hb,(J0.ok.exf b hb).2,λp hp=>absurd (show p∈([]:List (Addr×Obj))from hp) `Z2⟩
 have no:∀{α:Type} {t:Sem α} {Q':α->Shared->Prop} {s':Shared},wpAny (model X.prog X.w) X.A t Q' (zx X N' scope cl C s3 (upd H2 l (.lst [])) fp).xe s'->wpAny (model X.prog X.w) X.A t Q' (λ_ _=>False) s':=λz=>Y1 z (λ_ _ q=>q) λe s q=>hxe _ _ _ _ _ e s q
 have loop:codeAny (model X.prog X.w) X.A (.compLoop (lc2 elt tg iter tg2 iter2 ifs ifs2 scope pos) 0 (.ref it) (.ref l) (compEnvC scope cl C X.env))
  (compPost (model X.prog X.w) X.A X.xe none (EP X pins σ Q) (.ref l) C) {s3 with heap:=h₁,toks:=s3.toks+([]:List (Str×Value)).length}:=by
  refine zhS (λn s'=>∃i ys σ' H',Inv `j3 [] σ' H' s'/\tn i s'.heap/\(∀b∈fp,H' b=none)/\H' l=some (.lst ys)/\W i n ys σ' H') (hs2 _) ?_ m0
   ⟨0,[],_,_,J0,st4,λb hb=>(f3 b hb).1,upd_same,w0⟩
  rintro n s5 ⟨i,ys,σ5,H5,I5,st5,fr5,hl5,w5⟩
  rcases turn i n ys σ5 H5 w5 hl5 with⟨stop,qn⟩|⟨go,N,hN,step⟩
  ·refine thn (T.done `j3 rfl rfl rfl hc i [] s5 σ5 H5 (λ_ _=>False) I5 (stat fr5) st5 stop) λr s6 ⟨hr,I6⟩=>?_
   subst hr
   obtain⟨m,hn,_⟩:=I6.loc
   exact⟨m,hn,λh' hsb=>⟨.ref l,H5,ze8 I3 f3 (by rw[←hC];exact K0 _) I6 hsb,rfl,qn⟩⟩
  ·refine thn (T.item `j3 rfl rfl rfl hc i [] s5 σ5 H5 (λ_ _=>False) I5 (stat fr5) st5 go) λr s6 ⟨u,hr,h6⟩=>?_
   subst hr
   refine thn h6 λ_ s7 zq=>?_
   obtain⟨x,H7,I7,r7,y7,st7,fr7⟩:=zq
   have I7':=I7.pinned (stat fr7) (T.obj _ _ st7)
   refine thn (hg cl C s3 _ fp _ s7 σ5 H7 x u _ I7' r7 (step x H7 y7)) λ_ s8 zq=>?_
   obtain⟨σ8,H8,I8,q8⟩:=zq
   refine thn (ht cl C s3 _ fp _ s8 σ8 H8 _ I8 q8) λb s9 zq=>?_
   obtain⟨H9,I9,q9⟩:=zq
   have back:∀{s':Shared} {H':Hp} {σ':St},Inv `j3 ([]++zb7 fp s7.heap) σ' H' s'->tn (i+1) s'.heap/\∀b∈fp,H' b=none:=λ{s' H' σ'} I'=>by
    refine⟨T.keep _ _ _ st7 λb hb o e=>(I'.pin (b,o) (S0 _ (S0 _ (z6 hb e)))).1,λb hb=>?_⟩
    obtain⟨o,e,d⟩:=T.obj _ _ st7 b hb
    exact(I'.pin (b,o) (S0 _ (S0 _ (z6 hb e)))).2.1
   cases b with
   |false=>
    obtain⟨hl9,n9⟩:=q9
    obtain⟨m',hm,w9⟩:=hN _ _ _ n9
    obtain⟨t9,fr9⟩:=back I9
    exact⟨m',hm,i+1,ys,σ8,H9,I9.unpinned,t9,fr9,hl9,w9⟩
   |true=>
    refine thn (no (hi2 cl C s3 _ fp _ s9 σ8 H9 _ I9 q9)) λxv s10 h10=>thn (no h10) λitv2 s11 h11=>?_
    obtain⟨it2,fp2,tn2,J2,H11,e2,I11,T2,st11,ff2,hl11,W2,⟨m2,w2⟩,turn2⟩:=h11
    subst e2
    have stat2:∀{H':Hp},(∀b∈fp2,H' b=none)->∀b∈fp2,zc4 `j3 ([]++zb7 fp s7.heap) H' b:=λ{H'} hn b hb=>⟨hn b hb,(ff2 b hb).2⟩
    have inner:codeAny (model X.prog X.w) X.A (.compLoop (lc2 elt tg iter tg2 iter2 ifs ifs2 scope pos) 1 (.ref it2) (.ref l) (compEnvC scope cl C X.env)) (λr s6=>match r with| .ok _=>∃m,m<n/\∃i ys σ' H',Inv `j3 [] σ' H' s6/\tn i s6.heap/\(∀b∈fp,H' b=none)/\H' l=some (.lst ys)/\W i m ys σ' H'| .error _=>False) s11:=by
     refine zii (λn s'=>∃j ys σ' H',Inv `j3 ([]++zb7 fp s7.heap) σ' H' s'/\tn2 j s'.heap/\(∀b∈fp2,H' b=none)/\H' l=some (.lst ys)/\W2 j n ys σ' H') ?_ m2
      ⟨0,ys,_,_,I11,st11,λb hb=>(ff2 b hb).1,hl11,w2⟩
     rintro n2 s12 ⟨j,zs,σ12,H12,I12,st12,fr12,hl12,w12⟩
     rcases turn2 j n2 zs σ12 H12 w12 hl12 with⟨stop,qn⟩|⟨go,N2,hN2,step2⟩
     ·refine thn (T2.done `j3 rfl rfl rfl hc j _ s12 σ12 H12 (λ_ _=>False) I12 (stat2 fr12) st12 stop) λr s13 ⟨hr,I13⟩=>?_
      subst hr
      obtain⟨m',hm,w13⟩:=hN _ _ _ qn
      obtain⟨t13,fr13⟩:=back I13
      exact⟨m',hm,i+1,zs,σ12,H12,I13.unpinned,t13,fr13,hl12,w13⟩
     ·refine thn (T2.item `j3 rfl rfl rfl hc j _ s12 σ12 H12 (λ_ _=>False) I12 (stat2 fr12) st12 go) λr s13 ⟨u2,hr,h13⟩=>?_
      subst hr
      refine thn h13 λ_ s14 zq=>?_
      obtain⟨x2,H14,I14,r14,y14,st14,fr14⟩:=zq
      have I14':=I14.pinned (stat2 fr14) (T2.obj _ _ st14)
      refine thn (hg2 cl C s3 _ fp _ s14 σ12 H14 x2 u2 _ I14' r14 (step2 x2 H14 y14)) λ_ s15 zq=>?_
      obtain⟨σ15,H15,I15,q15⟩:=zq
      refine thn (ht2 cl C s3 _ fp _ s15 σ15 H15 _ I15 q15) λb s16 zq=>?_
      obtain⟨H16,I16,q16⟩:=zq
      have back2:∀{s':Shared} {H':Hp} {σ':St},Inv `j3 (([]++zb7 fp s7.heap)++zb7 fp2 s14.heap) σ' H' s'->tn2 (j+1) s'.heap/\∀b∈fp2,H' b=none:=λ{s' H' σ'} I'=>by
       refine⟨T2.keep _ _ _ st14 λb hb o e=>(I'.pin (b,o) (S0 _ (S0 _ (z6 hb e)))).1,λb hb=>?_⟩
       obtain⟨o,e,d⟩:=T2.obj _ _ st14 b hb
       exact(I'.pin (b,o) (S0 _ (S0 _ (z6 hb e)))).2.1
      cases b with
      |false=>
       obtain⟨hl16,n16⟩:=q16
       obtain⟨m',hm,w16⟩:=hN2 _ _ _ n16
       obtain⟨t16,fr16⟩:=back2 I16
       exact⟨m',hm,j+1,zs,σ15,H16,I16.unpinned,t16,fr16,hl16,w16⟩
      |true=>
       refine thn (he cl C s3 _ fp _ s16 σ15 H16 _ I16 q16) λxv2 s17 zq=>?_
       obtain⟨y,H17,I17,r17,hl17,hz,n17⟩:=zq
       obtain⟨m',hm,w17⟩:=hN2 _ _ _ n17
       refine thn (zau (X:=zx X N' scope cl C s3 (upd H2 l (.lst [])) fp) _ s17 σ15 H17 (.ref l) [y] (.ref l) [xv2] (λv H'=>H'=upd H17 l (.lst (zs ++ [y]))) I17 rfl (.cons r17 .nil) ⟨l,zs,y,rfl,rfl,hl17,hz,rfl⟩) λ_ s18 ⟨_,H18,I18,_,e18⟩=>?_
       subst e18
       obtain⟨t18,fr18⟩:=back2 I18
       exact⟨m',hm,j+1,zs ++ [y],σ15,_,I18.unpinned,t18,fr18,upd_same,w17⟩
    exact zho inner (T2.self _ 0 _ _ _ st11 inner)
 exact codeAny_compStart_list loop (T.self _ 0 _ _ _ st4 loop)
theorem zmJ(ok:CompOk X.N osc N' src scope)(hsc:X.env.scope=osc)(hc:X.calm=true)(hi:QI X tg iter wi)
 (hg:∀cl C s₀ H₀ fp,QG (zx X N' scope cl C s₀ H₀ fp) tg g) (ht:∀cl C s₀ H₀ fp,QF (zx X N' scope cl C s₀ H₀ fp) ifs tc)
 (hi2:∀cl C s₀ H₀ fp,QI (zx X N' scope cl C s₀ H₀ fp) tg2 iter2 wi2) (hg2:∀cl C s₀ H₀ fp,QG (zx X N' scope cl C s₀ H₀ fp) tg2 g2) (ht2:∀cl C s₀ H₀ fp,QF (zx X N' scope cl C s₀ H₀ fp) ifs2 tc2)
 (he:∀cl C s₀ H₀ fp,QE (zx X N' scope cl C s₀ H₀ fp) elt te) (hxe:∀cl C s₀ H₀ fp e s,(zx X N' scope cl C s₀ H₀ fp).xe e s->False:=by exact λ_ _ _ _ _ _ _ z=>z)
 (hs:autoParam (∀x,foldedSetIterable iter X.env x=pure x) u5) (hs2:autoParam (∀env x,foldedSetIterable iter2 env x=pure x) w6):QE X (.ListComp elt [⟨tg,iter,ifs,0⟩,⟨tg2,iter2,ifs2,0⟩] scope pos) (zpr wi g tc wi2 g2 tc2 te src):=
 ⟨zp5 ok hsc hc hi.o (λcl C s₀ H₀ fp=>(hg cl C s₀ H₀ fp).o) (λcl C s₀ H₀ fp=>(ht cl C s₀ H₀ fp).o) (λcl C s₀ H₀ fp=>(hi2 cl C s₀ H₀ fp).o) (λcl C s₀ H₀ fp=>(hg2 cl C s₀ H₀ fp).o) (λcl C s₀ H₀ fp=>(ht2 cl C s₀ H₀ fp).o) (λcl C s₀ H₀ fp=>(he cl C s₀ H₀ fp).o) hxe hs hs2⟩
end
def zmi(v:V)(y:Str):Prop:=v= .str y\/∃i:Int,v= .int i/\y=(toString i:String)/\i.natAbs.log2<1920
def zjQ:List TE->Str->St->Hp->VK->Prop
 |[],out,_,H,Q=>out.length<=sizeLine/\Q (.str out) H
 |t::r,out,σ,H,Q=>t σ H λv H1=>∃y,zmi v y/\y.length<=sizeLine/\(out ++y).length<=sizeLine/\zjQ r (out ++y) σ H1 Q
noncomputable def ztz(ts:List TE):TE:=λσ H Q=>zjQ ts Str.empty σ H Q
section
variable{ts:List TE}
structure QP1(X:Cx)(e:Expr)(te:TE):Prop where
 o:∀(pins:List (Addr×Obj)) (s:Shared) (σ:St) (H:Hp) (Q:Str->Hp->Prop),Inv X pins σ H s->(te σ H λv H1=>∃y,zmi v y/\y.length<=sizeLine/\Q y H1)->
  wpAny (model X.prog X.w) X.A (eval e X.env) (λu s1=>∃y t H1,u= .str y t/\Inv X pins σ H1 s1/\Q y H1) X.xe s
theorem zc8{k:Str}:QP1 X (.Constant (.str k) j pos) (tC (.str k)):=⟨by
 intro pins s σ H Q I h
 obtain⟨y,ty,hl,q⟩:=h
 refine thn ((zy (X:=X) (k:=k) (j:=j) (pos:=pos)).o pins s σ H (λv H1=>v= .str k/\H1=H) I ⟨rfl,rfl⟩) λu s1 ⟨x,H1,I1,r,ex,eH⟩=>?_
 subst ex eH
 obtain⟨t,rfl⟩:=r
 rcases ty with ty|⟨i,ty,_⟩
 ·cases ty
  exact⟨k,t,H1,rfl,I1,q⟩
 ·cases ty⟩
theorem zbK(h:QE X e te):QP1 X (.FormattedValue e (-1) none pos) te:=⟨by
 intro pins s σ H Q I hq
 refine FormattedValue_plain (thn (h.o pins s σ H _ I hq) λu s1 zq=>?_)
 obtain⟨x,H1,I1,r,y,ty,hl,q⟩:=zq
 rcases ty with rfl|⟨i,rfl,rfl,hd⟩
 ·obtain ⟨t,rfl⟩:=r
  exact formatField_str (λt' tk=>⟨y,t',H1,rfl,I1.tok _,q⟩) hl
 ·obtain ⟨t,rfl⟩:=r
  exact formatField_int_small hd ⟨_,_,H1,rfl,I1.tok _,q⟩⟩
inductive QJ(X:Cx):List Expr->List TE->Prop
 |nil:QJ X [] []
 |cons {e:Expr} {t:TE} {es:List Expr} {ts:List TE} (h:QP1 X e t) (r:QJ X es ts):QJ X (e::es) (t::ts)
theorem zqg(h:QJ X es ts):∀(out:Str) (pins:List (Addr×Obj)) (s:Shared) (σ:St) (H:Hp) (Q:VK),Inv X pins σ H s->zjQ ts out σ H Q->wpAny (model X.prog X.w) X.A (joinParts out (evalEach es X.env)) (EP X pins σ Q) X.xe s:=by
 induction h with
 |nil=>
  intro out pins s σ H Q I hq
  exact joinParts_nilE (joinParts_nil ⟨.str out,H,I.tok _,⟨_,rfl⟩,hq.2⟩ hq.1)
 | @cons e t es ts h r ih=>
   intro out pins s σ H Q I hq
   refine joinParts_consE (joinParts_cons (thn (h.o pins s σ H (λy H1=>(out ++y).length<=sizeLine/\zjQ ts (out ++y) σ H1 Q) I hq) λu s1 ⟨y,tk,H1,e1,I1,hl,q⟩=>?_))
   subst e1
   exact⟨hl,ih (out ++y) pins s1 σ H1 Q I1 q⟩
theorem zf3{e1 e2:Expr}(h:QJ X (e1::e2::es) ts):QE X (.JoinedStr (e1::e2::es) pos) (ztz ts):=⟨λpins s σ H Q I hq=>JoinedStr_many (zqg h Str.empty pins s σ H Q I hq)⟩
theorem znf:CallR X (.type "str") (λxs H Q=>∃v y,xs=[v]/\zmi v y/\Q (.str y) H):=by
 intro pins s σ H xs us Q I r h
 obtain⟨v,y,rfl,ty,q⟩:=h
 obtain⟨u,rfl,ru⟩:=zbq r
 rcases ty with rfl|⟨i,rfl,rfl,hd⟩
 ·obtain ⟨t,rfl⟩:=ru
  exact P.str_of_str ⟨.str _,H,I,⟨_,rfl⟩,q⟩
 ·obtain ⟨t,rfl⟩:=ru
  exact P.str_of_int hd ⟨.str _,H,I.tok _,⟨_,rfl⟩,q⟩
end
theorem zn8:seqSlot? (.type "list") (dunderI "add")=pure (some (.builtin "list.__iadd__")):=PySem.seqSlot_of F.slot_list_iadd.lookup `Y2
theorem zi3:fillsInplaceSlot (.type "list") "add" true=pure false:=by
 unfold fillsInplaceSlot
 simp only[F.slot_list_iadd.lookup]
 kernel_rfl
theorem zng{b:Addr}(hl:s.heap.get? l=some {cls:= .type "list",data:= .seq items n})(hb:s.heap.get? b=some {cls:= .type "list",data:= .seq items2 n2})
 (hs0:¬(!items.isEmpty&&Builtin.List.listTooLong (items.size+items2.size))=true) (hs1:items.size<=sizeLine) (hs2:items.size+items2.size<=sizeLine+1)
 (h:Q (.ref l) {s with heap:=s.heap.update l (Obj.mapSeq λx=>x ++items2)}):wpAny (model prog w) A (inplaceOp .Add (.ref l) (.ref b)) Q E s:=by
 have ha:s.TypeIs (.ref l) "list":=⟨_,hl,rfl⟩
 have hb':s.TypeIs (.ref b) "list":=⟨_,hb,rfl⟩
 unfold inplaceOp
 refine wpAny_holding ?_
 refine A0 (wpAny_typeOf ha (A0 (wpAny_of_eq zi3 ?_)))
 show wpAny _ A (if false=true then _ else _) Q E s
 rw[V0 Y0]
 refine A0 (wpAny_binaryOp1_none (nm:="add") ha hb' noFill_list_add ?_)
 refine A0 (wpAny_of_eq zn8 ?_)
 refine A0 (wpAny_rule ?_)
 exact call_meets F.slot_list_iadd ha F.entry_list_iadd (F.args_list_iadd_2 _ _) (AutoSeq1.list___iadd___list_list_0 l items n b items2 n2 hs0 hs1 hs2) ⟨hl,hb,h⟩
noncomputable def zt2:TIp:=λx y H Q=>∃l b xs zs,x= .ref l/\y= .ref b/\H l=some (.lst xs)/\H b=some (.lst zs)/\xs.length+zs.length<=sizeLine/\Q (.ref l) (upd H l (.lst (xs ++zs)))
theorem zlq:PIp X .Add zt2:=by
 intro pins s σ H x y v u Q I rx ry h
 obtain⟨l,b,xs,zs,rfl,rfl,hH,hB,hz,q⟩:=h
 cases rx
 cases ry
 obtain⟨z,its,n,r,hl,e⟩:=I.lstM hH
 obtain⟨z2,its2,n2,r2,hl2,e2⟩:=I.lstM hB
 have hsz:its.toArray.size+its2.toArray.size<=sizeLine:=by rw[b0,b0];lia
 have hlong:¬(!its.toArray.isEmpty&&Builtin.List.listTooLong (its.toArray.size+its2.toArray.size))=true:=by
  rw[zoo hsz,Bool.and_false]
  exact Y0
 refine zng e e2 hlong (by rw[b0];lia) () ?_
 refine⟨.ref l,_,I.lset (its':=its ++its2) hH e `Z2 (r.append r2) ?_,rfl,q⟩
 rw[O0]
 lia
theorem zon(k:Nat){op:Operator}{ti:TIp}(hN:X.N.Nodup)(he:QE X e te)(ho:PIp X op ti)(hi:autoParam (X.N[k]?=some x) y3)(hx:autoParam (X.env.scope.names.lookup x=some .local) y3):QS X (.AugAssign (.Name x pos') op e pos) (ztT k te ti):=⟨zsF hN hi (.inl hx) he.o ho (.inr hx)⟩
theorem zbn(x y z:Str):x ++y ++z=x ++(y ++z):=zjJ (by
 have e:∀a b:Str,(a ++b).cps.toList=a.cps.toList ++b.cps.toList:=λa b=>Array.toList_append
 rw[e,e,e,e,V1])
theorem zz(x:Str):Str.empty ++x=x:=zjJ (by
 have e:∀a b:Str,(a ++b).cps.toList=a.cps.toList ++b.cps.toList:=λa b=>Array.toList_append
 rw[e];rfl)
theorem zg(x y:Str):(x ++y).length=x.length+y.length:=Array.size_append
noncomputable def zbv(i:Int):Str:=(toString i:String)
noncomputable def zbc:D->Str
 | .str x=>x
 | .int i=>zbv i
 |_=>""
noncomputable def zdb:D->Str
 | .tup [.str w,a]=>w ++" "++zbc a
 |_=>""
noncomputable def condT:D->Str
 | .tup [.str w,a]=>if w="not"then "not "++zdb a else w ++" "++zbc a
 |_=>""
theorem zqi:∀n∈List.range 1999,(zbv ((n:Int) -999)).length<=4:=`Y2
theorem zeg{i:Int}(h1: -999<=i)(h2:i<=999):(zbv i).length<=4:=by
 have:=zqi (i+999).toNat (C2.mpr ())
 rwa[show(((i+999).toNat:Nat):Int) -999=i by lia] at this
theorem zf7{i:Int}(h1: -999<=i)(h2:i<=999):i.natAbs.log2<1920:=by
 have h:i.natAbs<1000:=()
 rcases Nat.eq_zero_or_pos i.natAbs with z|z
 ·rw[z];decide
 ·exact Nat.lt_trans ((Nat.log2_lt ()).mpr (show i.natAbs<2^10 by lia)) ⋯
theorem zpU{a:D}(r:Rep H v a)(h:zt (.tup [.str x,a])=true):zmi v (zbc a)/\(zbc a).length<=8:=by
 rcases zaa h with⟨rfl,i,rfl,h0,h9⟩|⟨_,y,rfl,hy⟩
 ·cases r with|int _=>
  exact⟨.inr ⟨i,rfl,rfl,zf7 () ()⟩,F1 (zeg () ()) ⋯⟩
 ·cases r with|str _ _=>
  refine⟨.inl rfl,?_⟩
  show y.length<=8
  unfold zm at hy
  simp only[R0,decide_eq_true_eq] at hy
  lia
theorem zfp{a:D}(h:zt (.tup [.str x,a])=true):x.length<=4:=by
 rcases zaa h with⟨rfl,_⟩|⟨hx,_⟩
 ·decide
 ·rcases za6 hx with rfl|rfl|rfl|rfl<;>decide
theorem zmx{r:List Str}:Str.join sep (x::y::r)=x ++sep ++Str.join sep (y::r):=rfl
theorem zdg{sep:Str}{c m:Nat}(hs:sep.length<=m):∀{xs:List Str},(∀x∈xs,x.length<=c)->(Str.join sep xs).length<=xs.length*(c+m)
 |[],_=>by show(Str.empty).length<=_;exact X1 _
 |[x],h=>by show x.length<=1*(c+m);have:=h x `Z2;lia
 |x::y::r,h=>by
  rw[zmx,zg,zg]
  have h1:=h x `Z2
  have h2:=zdg hs (xs:=y::r) λz hz=>h z (N0 _ hz)
  rw[Z0,Nat.add_mul,Nat.one_mul]
  lia
theorem zdC{c:Nat}:∀{xs:List Str},(∀x∈xs,x.length<=c)->(xs.map (·.length)).sum<=xs.length*c
 |[],_=>X1 _
 |x::xs,h=>by
  rw[J1,List.sum_cons,Z0,Nat.add_mul,Nat.one_mul]
  have h1:=h x `Z2
  have h2:=zdC (xs:=xs) λz hz=>h z (N0 _ hz)
  lia
noncomputable def zif(t:Str)(k:Nat)(c:Str):Str:=t ++(if k=0 then" if "else " and ")++c
noncomputable def zb9(t:Str):Nat->List Str->Str
 |_,[]=>t
 |k,c::cs=>zb9 (zif t k c) (k+1) cs
theorem zgG:∀{cs:List Str} {t:Str} {k:Nat} {c:Str},zb9 t k (cs ++ [c])=zif (zb9 t k cs) (k+cs.length) c
 |[],t,k,c=>rfl
 |d::cs,t,k,c=>by
  show zb9 (zif t k d) (k+1) (cs ++ [c])=_
  rw[zgG,Z0,Nat.add_assoc,Nat.add_comm 1];rfl
noncomputable def zce(w h t:Str):Str:=w ++" "++h ++" "++t
noncomputable def zbm(w h t:Str)(cs:List Str):Str:=if cs=[] then zce w h t else zce w h t ++" if "++Str.join " and " cs
theorem zhD:∀{cs:List Str} {t c:Str} {k:Nat},zb9 (t ++c) (k+1) cs=t ++Str.join " and " (c::cs)
 |[],t,c,k=>rfl
 |d::cs,t,c,k=>by
  show zb9 (zif (t ++c) (k+1) d) (k+1+1) cs=_
  have e:zif (t ++c) (k+1) d=(t ++c ++" and ")++d:=by unfold zif;rw[V0 ()]
  rw[e,zhD,zmx]
  rw[zbn,zbn,zbn]
theorem zpQ{w h t:Str}{cs:List Str}:zb9 (zce w h t) 0 cs=zbm w h t cs:=by
 unfold zbm
 cases cs with
 |nil=>rfl
 |cons c cs=>
  rw[V0 `Z2]
  show zb9 (zif (zce w h t) 0 c) 1 cs=_
  have e:zif (zce w h t) 0 c=(zce w h t ++" if ")++c:=by unfold zif;rw[p0 rfl]
  rw[e]
  exact zhD (k:=0)
noncomputable def zF:D->Str
 | .non=>"never"
 | .int i=>zbv i
 |_=>""
noncomputable def zbw(d:D):Str:=Str.join " " (zbl d)
noncomputable def zec(w:Str)(f:D->Str)(h:Str):D->Str
 | .tup [.tup cs,x]=>zbm w h (f x) (cs.map condT)
 |_=>""
noncomputable def ziu(w:Str)(f:D->Str)(h:Str):D->List Str
 | .tup rs=>rs.map (zec w f h)
 |_=> []
noncomputable def zhR(w:Str)(f:D->Str)(hs:List Str)(ds:List D):List Str:=(hs.zip ds).flatMap λp=>ziu w f p.1 p.2
noncomputable def zcw(p:Str×Str):Str:="tie "++p.1 ++" "++p.2
noncomputable def zac(g:Str)(hs:List Str)(ps:List (Str×Str))(lks hds:List D):List Str:=
 ["goal "++g,"houses "++Str.join " " hs]++ps.map zcw ++zhR "like" zF hs lks ++zhR "hand" zbw hs hds
theorem zhK(h:hs≠ []):Str.join " " ("houses"::hs)="houses "++Str.join " " hs:=by
 cases hs with
 |nil=>exact absurd rfl h
 |cons x r=>
  rw[zmx]
  have e:("houses"++" ":Str)="houses ":=`Y2
  rw[e]
theorem zh8{h:Str}(e1:hs[i]?=some h)(e2:ds[i]?=some d):(hs.zip ds).take (i+1)=(hs.zip ds).take i ++ [(h,d)]:=by
 rw[N1]
 have:(hs.zip ds)[i]?=some (h,d):=by rw[List.getElem?_zip_eq_some];exact⟨e1,e2⟩
 rw[this];rfl
theorem zob(hK:X.K=K)(h:QE X e te):QI X tg e (zsu K te):=by subst hK;exact zb2 h
theorem zrH{o:Expr}{to:TE}{t:TA}{id:String}{name:Str}{r:V->List V->Hp->VK->Prop}(hK:X.K=K)(pa:PlainAttrs T)(slot:Slot T name id)(hty:typeOf (.builtin id)=pure (.type "method_descriptor"))(hm:MtR X id r)(ho:QE X o to)(ha:QA X (e::es) t)
 (hbase:autoParam (attributeBase o name X.env (eval o X.env)=eval o X.env) y3)
 (hfew:autoParam (((backTo cpos (starEach (e::es) X.env)).all (λx=>!x.1)&&(backToKw cpos (keywordEach [] X.env)).all (λx=>x.1.isSome)
   &&decide ((e::es).length+([]:List Keyword).length+(if([]:List Keyword).isEmpty then 0 else 1)<30))=true) y3)
 (hline:autoParam ((apos.endLine==cpos.line)=true) y3) (hs:autoParam (starEach (e::es) X.env=(false,eval e X.env)::starEach es X.env) y3) (hplain:autoParam ((backTo cpos (starEach es X.env)).any (·.1)=false) y3):
 QE X (.Call (.Attribute o name apos) (e::es) [] cpos) (tBM K T r to t):=by subst hK;exact zdm pa slot hty hm ho ha hbase hfew hline hs hplain
theorem ziQ{src:List (Option Nat)}{Q:VK}(Pv:Addr->Nat->List V->St->Hp->Prop)
 (h0:∀l,H1 l=none->Pv l 0 [] (zdy src σ) (upd H1 l (.lst []))) (hgo:∀l i ys σ H,H1 l=none->i<n->Pv l i ys σ H->J.go i H) (hst:∀l ys σ H,H1 l=none->Pv l n ys σ H->J.stop n H)
 (hs:∀l i x ys σ H H2,H1 l=none->i<n->Pv l i ys σ H->H l=some (.lst ys)->J.yld i H x H2->g x σ H2 λσ2 H3=>tc σ2 H3 λb H4=>
   if b=true then wi2 σ2 H4 λJ2 H5=>H5 l=some (.lst ys)/\zse g2 tc2 te l ys (Pv l (i+1)) J2 σ2 H5 else H4 l=some (.lst ys)/\Pv l (i+1) ys σ2 H4)
 (hd:∀l ys σ H,H1 l=none->Pv l n ys σ H->H l=some (.lst ys)->Q (.ref l) H):zml g tc wi2 g2 tc2 te src σ Q J H1:=by
 intro l hl
 refine⟨λi m ys σ H=>m=n -i/\i<=n/\Pv l i ys σ H,⟨n,`Z2,X1 _,h0 l hl⟩,?_⟩
 rintro i m ys σ' H' ⟨rfl,hi,p⟩ hl'
 by_cases hlt:i<n
 ·exact .inr ⟨hgo l i ys σ' H' hl hlt p,Pv l (i+1),λzs σ2 H2 q=>⟨n -(i+1),(),rfl,hlt,q⟩,λx H2 y=>hs l i x ys σ' H' H2 hl hlt p hl' y⟩
 ·have e:i=n:=()
  subst e
  exact .inl ⟨hst l ys σ' H' hl p,hd l ys σ' H' hl p hl'⟩
theorem zrA{P:Nat->V->Prop}{ok:Hp->Prop}{N:List V->St->Hp->Prop}(wk:Wk J n P ok)(Pv:Nat->List V->St->Hp->Prop)(h0:Pv 0 ys σ H)(hok:∀i ys σ H,Pv i ys σ H->ok H)
 (hs:∀i x ys σ H,i<n->P i x->Pv i ys σ H->H l=some (.lst ys)->g2 x σ H λσ2 H3=>tc2 σ2 H3 λb H4=>
   if b=true then te σ2 H4 λy H5=>H5 l=some (.lst ys)/\ys.length<sizeLine/\Pv (i+1) (ys ++ [y]) σ2 (upd H5 l (.lst (ys ++ [y])))else H4 l=some (.lst ys)/\Pv (i+1) ys σ2 H4)
 (hd:∀ys σ H,Pv n ys σ H->N ys σ H):zse g2 tc2 te l ys N J σ H:=by
 refine⟨λi m ys σ H=>m=n -i/\i<=n/\Pv i ys σ H,⟨n,`Z2,X1 _,h0⟩,?_⟩
 rintro i m ys σ H ⟨rfl,hi,p⟩ hl
 by_cases hlt:i<n
 ·refine .inr ⟨wk.go i H (hok i ys σ H p) hlt,Pv (i+1),λzs σ' H' q=>⟨n -(i+1),(),rfl,hlt,q⟩,λx H' y=>?_⟩
  obtain⟨rfl,px⟩:=wk.yld i H x H' (hok i ys σ H p) hlt y
  exact hs i x ys σ _ hlt px p hl
 ·have e:i=n:=()
  subst e
  exact .inl ⟨wk.stop i H (hok i ys σ H p) (K0 _),hd ys σ H p⟩
theorem zny(hK:X.K=K):MtR X "str.join" (zoC K):=by subst hK;exact zfC
theorem txj{ys:List Str}:Txt.join sep ys=Str.join sep ys:=StrLaws.glued_eq_join _ _
section
variable{K:Type}[DecidableEq K]{knd:KeyKind prog w K}
structure DzAt(h:Heap)(knd:KeyKind prog w K)(t1 t2:Bool)(z TI i1 i2 l1 l2 d:Addr)(xs ys:Array Value)(kvs:List (K×Value))(i:Nat):Prop where
 TI:IsPair h TI (.ref i1) (.ref i2)
 p1:ItH t1 h i1 l1 i
 p2:ItH t2 h i2 l2 i
 q1:SqH t1 h l1 xs
 q2:SqH t2 h l2 ys
 dd:h.DictOf knd d kvs
structure DzD(z TI TO i1 i2 l1 l2 d:Addr):Prop extends ZipApart z TI TO i1 i2 l1 l2 where
 dz:d≠z
 dTI:d≠TI
 di1:d≠i1
 di2:d≠i2
 dl1:d≠l1
 dl2:d≠l2
 TIl1:True
end
section
open PySem.W
section
variable{N:Nat}{lt:Nat->Nat->Bool}
end
end
section
variable{o:Expr}{to:TE}{name:Str}{id:String}{r:V->List V->Hp->VK->Prop}
end
noncomputable def zqD:List Str->Bool
 |[a,b,w]=>zm a&&zm b&&(if w="equal"then ltS a b else decide (w="over")&&!decide (a=b))
 |_=>false
noncomputable def zlH(r:List Str):List Str:=srt (r.take 2)
structure KinOk(rs:List (List Str)):Prop where
 row:∀r∈rs,zqD r=true
 rise:rs.Pairwise (λa b=>ltL a b=true)
 ties:(rs.map zlH).Nodup
noncomputable def pr(a b:Str):List Str:=srt [a,b]
noncomputable abbrev at_(xs:List Str)(i:Nat):Str:=xs.getD i ""
structure KD62(xs:List Str)(ps:List (Nat×Nat))(k:Nat)(rs:List (List Str)):Prop where
 row:∀r∈rs,zqD r=true
 nd:(rs.map zlH).Nodup
 few:rs.length<=k
 old:∀r∈rs,∃q∈ps.take k,q.1<q.2/\zlH r=pr (at_ xs q.1) (at_ xs q.2)
section
variable{P P':D->Prop}
end
noncomputable def zuf:D->List D| .tup rs=>rs|_=> []
noncomputable def zjo:List Str->List D->Str->List D
 |h::hs,d::ds,x=>if h=x then zuf d else zjo hs ds x
 |_,_,_=> []
noncomputable def zsP:D->Bool| .non=>true|_=>false
structure Mr(O t:List Str):Prop extends Mk0 O t where
 rise:t.Pairwise (λa b=>ltS a b=true)
section
variable{P:List α->Prop}
theorem of1(h:∀a,P [a]):∀us:List α,us.length=1->P us
 |[a],_=>h a
theorem of2(h:∀a b,P [a,b]):∀us:List α,us.length=2->P us
 |[a,b],_=>h a b
theorem of3(h:∀a b c,P [a,b,c]):∀us:List α,us.length=3->P us
 |[a,b,c],_=>h a b c
theorem of4(h:∀a b c d,P [a,b,c,d]):∀us:List α,us.length=4->P us
 |[a,b,c,d],_=>h a b c d
end
section
variable{P:Nat->Value->Prop}{St:Nat->Heap->Prop}
end
def zqj:V->List V->Hp->VK->Prop:=λx vs H Q=>∃(l:Addr) (hs:List Str) (y:Str) (j:Nat),x= .ref l/\vs=[.str y]/\H l=some (.lst (hs.map V.str))/\hs[j]?=some y/\(∀i<j,hs[i]?≠some y)/\hs.length<=1000/\Q (.int (j:Int)) H
noncomputable def isS(y:Str):Value->Bool| .str z _=>decide (z=y)|_=>false
theorem znA:MtR X "list.index" zqj:=by
 intro pins s σ H x vs v us Q I rx rv h
 obtain⟨l,hs,y,j,rfl,rfl,hH,hj,hb,hl9,q⟩:=h
 cases rx
 obtain⟨u,rfl,ru⟩:=zbq rv
 obtain⟨ty,rfl⟩:=ru
 obtain⟨z,its,n,r,hl,e⟩:=I.lstM hH
 have hlen:=r.length
 rw[B0] at hlen
 have at_:∀(i:Nat) (hi:i<its.length),∃t,its[i]= .str (hs[i]'()) t:=λi hi=>by
  obtain⟨u,hu,ru⟩:=r.get (i:=i) (x:= .str (hs[i]'())) (by rw[W0,l0 ()];rfl)
  rw[l0 hi] at hu
  cases hu
  exact ru
 have hjl:j<hs.length:=by
  rcases A2 j hs.length with z|z
  ·exact z
  ·rw[X0 z] at hj;cases hj
 have ej:hs[j]=y:=by rw[l0 hjl] at hj;exact A1 hj
 refine call_meets F.slot_list_index ⟨_,e,rfl⟩ F.entry_list_index (F.args_list_index_2 _ _) (MeetsSeq.list_index l its.toArray n (.str y ty) (isS y) ?_ j (by rw[b0];lia) () ?_ ?_) ⟨e,?_⟩
 ·intro w' hw'
  obtain⟨i,hi,rfl⟩:=List.getElem_of_mem (Array.mem_toList_iff.mpr hw')
  obtain⟨t,et⟩:=at_ i hi
  have et:(its.toArray.toList)[i]= .str (hs[i]'(by simp at hi;lia)) t:=et
  rw[et]
  exact λ_ _ _ _ _ _ h=>wpAny_eqBool_str h
 ·obtain ⟨t,et⟩:=at_ j ()
  have et:(its.toArray)[j]'(by rw[b0];lia)= .str hs[j] t:=by simpa using et
  rw[et]
  exact D0 ej
 ·intro m hm hmj
  obtain⟨t,et⟩:=at_ m (by simpa using hm)
  have et:(its.toArray)[m]= .str (hs[m]'(by rw[b0] at hm;lia)) t:=by simpa using et
  rw[et]
  exact G0 λz=>hb m hmj (by rw[l0 (),z])
 ·exact ⟨.int j,H,I.tok _,⟨_,rfl⟩,q⟩
section
open PySem.W PyProof.V
end
section
variable{P:Nat->Value->Prop}{St:Nat->Heap->Prop}
end
section
open PySem.W PyProof.V
end
section
variable{i1 i2:Expr}{it:Value}{d:Addr}
end
section
variable{src:List (Option Nat)}{tk:TE}
end
structure RingG(G:Str->List Str)(xs:List Str):Prop where
 two:2<=xs.length
 ends:xs[0]?=xs[xs.length -1]?
 nd:(xs.drop 1).Nodup
 nxt:∀i a b,xs[i]?=some a->xs[i+1]?=some b->a∈G b
structure Led(H:Hp)(kvs:List (Key×V))(ks:List Str)(G:Str->List Str):Prop where
 keys:kvs.map (·.1)=ks.map Sum.inr
 nd:ks.Nodup
 at_:∀x∈ks,∃l,zfL kvs (Sum.inr x)=some (.ref l)/\H l=some (.lst ((G x).map V.str))
 sub:∀x∈ks,∀y∈G x,y∈ks
 short:∀x∈ks,x.length<=1000
 few:ks.length<=60/\∀x∈ks,(G x).length<=60
noncomputable def tol(tk:List (Key×V))(x:Str):Bool:=(zfL tk (Sum.inr x)).isSome
structure Tld63(tk:List (Key×V))(ks:List Str)(G:Str->List Str):Prop where
 opn:∀x∈ks,tol tk x=false->∃y∈G x,tol tk y=false
 sure:∀W:Str->Prop,(∀b,W b->∃a∈G b,W a)->∀b,W b->tol tk b=false
structure Peel(rs R:List (List Str)):Prop where
 sub:∀r∈R,r∈rs/\at_ r 2=("over":Str)
 out:∀W:Str->Prop,(∀b,W b->∃a,[a,b,"over"]∈rs/\W a)->∀a b,W a->W b->[a,b,"over"]∈rs->[a,b,"over"]∈R
theorem inS{xs:List Str}:inV (.str x) (xs.map V.str)=decide (x∈xs):=by
 unfold inV
 rw[List.any_map]
 rw[Bool.eq_iff_iff,List.any_eq_true,decide_eq_true_iff]
 constructor
 ·rintro ⟨y,hy,e⟩
  have:eqV (.str y) (.str x)=true:=e
  have:y=x:=by simpa[eqV] using this
  exact this▸hy
 ·intro h
  exact⟨x,h,by simp[eqV]⟩
theorem zsQ{f:V->V}{g:V->Bool}{ok:Hp->Prop}{src:List (Option Nat)}{Q:VK}(wk:Wk J vs.length (λi x=>vs[i]?=some x) ok)(hok:∀H',Same H H'->ok H')(hl:vs.length<=900)(e:zdy src σ=none::σr)
 (hc:∀(x:V) (H1:Hp) (Q1:Bool->Hp->Prop),Same H H1->x∈vs->(∀H2,Same H1 H2->Q1 (g x) H2)->tc (some x::σr) H1 Q1)
 (he:∀(x:V) (H1:Hp) (Q1:VK),Same H H1->x∈vs->g x=true->(∀H2,Same H1 H2->Q1 (f x) H2)->te (some x::σr) H1 Q1)
 (q:∀l H',Same H H'->H l=none->H' l=some (.lst ((vs.filter g).map f))->Q (.ref l) H'):zdx (zb1 0) tc te src σ Q J H:=by
 refine zaD wk (λl i ys σ' H'=>(∃o,σ'=o::σr)/\ys=((vs.take i).filter g).map f/\Same H H') ?_ ?_ ?_ ?_
 ·exact λl h'=>⟨⟨none,e⟩,rfl,Same.new h'⟩
 ·exact λl i ys σ' H' _ p=>hok H' p.2.2
 ·rintro l i y ys σ' H1 h' hi hy ⟨⟨o,rfl⟩,ry,s1⟩ hl'
  refine hc y H1 _ s1 (L0 hy) λH2 s2=>?_
  have tk:((vs.take (i+1)).filter g).map f=((vs.take i).filter g).map f ++([y].filter g).map f:=by
   rw[N1,hy,List.filter_append,U0];rfl
  rw[tk]
  cases hg:g y with
  |false=>
   have e0:([y].filter g).map f=[]:=by simp[hg]
   rw[e0,O1]
   exact⟨s2 _ _ hl',⟨_,rfl⟩,ry,s1.trans s2⟩
  |true=>
   have e0:([y].filter g).map f=[f y]:=by simp[hg]
   rw[e0]
   refine he y H2 _ (s1.trans s2) (L0 hy) hg λH3 s3=>?_
   refine⟨s3 _ _ (s2 _ _ hl'),?_,⟨_,rfl⟩,by rw[ry],?_⟩
   ·rw[ry,B0]
    have h2:=List.length_filter_le g (vs.take i)
    rw[K1] at h2
    exact zE ()
   ·exact λc o e=>by
     rw[zn (zB e h')]
     exact s3 _ _ (s2 _ _ (s1 _ _ e))
 ·rintro l ys σ' H1 h' ⟨⟨o,rfl⟩,ry,s1⟩ hl'
  rw[B2] at ry
  subst ry
  exact q l H1 s1 h' hl'
theorem zr6{xs:List Str}{f:Str->V}{g:Str->Bool}{ok:Hp->Prop}{src:List (Option Nat)}{Q:VK}(wk:Wk J (xs.map V.str).length (λi x=>(xs.map V.str)[i]?=some x) ok)(hok:∀H',Same H H'->ok H')(hl:xs.length<=900)(e:zdy src σ=none::σr)
 (hc:∀(x:Str) (H1:Hp) (Q1:Bool->Hp->Prop),Same H H1->x∈xs->(∀H2,Same H1 H2->Q1 (g x) H2)->tc (some (.str x)::σr) H1 Q1)
 (he:∀(x:Str) (H1:Hp) (Q1:VK),Same H H1->x∈xs->g x=true->(∀H2,Same H1 H2->Q1 (f x) H2)->te (some (.str x)::σr) H1 Q1)
 (q:∀l H',Same H H'->H l=none->H' l=some (.lst ((xs.filter g).map f))->Q (.ref l) H'):zdx (zb1 0) tc te src σ Q J H:=by
 let un:V->Str:=λv=>match v with| .str x=>x|_=>""
 refine zsQ (vs:=xs.map V.str) (f:=λv=>f (un v)) (g:=λv=>g (un v)) wk hok (by rw[B0];exact hl) e (λx H1 Q1 s1 hx k=>?_) (λx H1 Q1 s1 hx hg k=>?_) λl H' s' hl' hH'=>?_
 ·obtain ⟨y,hy,rfl⟩:=T1.mp hx
  exact hc y H1 Q1 s1 hy k
 ·obtain ⟨y,hy,rfl⟩:=T1.mp hx
  exact he y H1 Q1 s1 hy hg k
 ·refine q l H' s' hl' ?_
  rw[hH',List.filter_map,List.map_map]
  rfl
structure LR(ks:List Str)(G:Str->List Str)(tk:List (Key×V))(ws:List Str):Prop where
 sub:∀x∈ws,x∈ks
 cov:∀x∈ks,x∈ws\/tol tk x=true
 sure:∀W:Str->Prop,(∀b,W b->∃a∈G b,W a)->∀b,W b->tol tk b=false
 inv:∀x v,zfL tk (Sum.inr x)=some v->∃n,v=V.int n
 len:tk.length+ws.length<=ks.length
structure LRi(ks:List Str)(G:Str->List Str)(tk:List (Key×V))(ws ys:List Str)(i:Nat)(fr:Bool):Prop where
 sub:∀x∈ys,x∈ks
 cov:∀x∈ks,x∈ys\/x∈ws.drop i\/tol tk x=true
 sure:∀W:Str->Prop,(∀b,W b->∃a∈G b,W a)->∀b,W b->tol tk b=false
 inv:∀x v,zfL tk (Sum.inr x)=some v->∃n,v=V.int n
 len:tk.length+ys.length+(ws.length -i)<=ks.length
 le:ys.length<=i
 lt:fr=true->ys.length<i
 opn:fr=false->∀x∈ys,∃y∈G x,tol tk y=false
structure Wlk(ks:List Str)(G:Str->List Str)(tk:List (Key×V))(row:List Str)(x:Str):Prop where
 nd:row.Nodup
 sub:∀y∈row,y∈ks
 ch:∀i a b,row[i]?=some a->row[i+1]?=some b->b∈G a
 nx:∀a,row[row.length -1]?=some a->x∈G a
 xk:x∈ks
 xu:tol tk x=false
structure EL(H H':Hp)(kvs:List (Key×V))(ks:List Str)(G:Str->List Str):Prop where
 keys:kvs.map (·.1)=ks.map Sum.inr
 nd:ks.Nodup
 at_:∀x∈ks,∃l,zfL kvs (Sum.inr x)=some (.ref l)/\H' l=some (.lst ((G x).map V.str))/\H l=none
 apart:∀x∈ks,∀y∈ks,∀l,zfL kvs (Sum.inr x)=some (.ref l)->zfL kvs (Sum.inr y)=some (.ref l)->x=y
noncomputable def kOf(t:List Str):List Key:=t.map Sum.inr
structure RT(H:Hp)(kvs:List (List Key×V))(rs:List (List Str)):Prop where
 len:kvs.length=rs.length
 at_:∀(j:Nat) (kv:List Key×V) (r:List Str),kvs[j]?=some kv->rs[j]?=some r->∃b,kv.1=kOf (zlH r)/\kv.2= .ref b/\H b=some (.tup (r.map V.str))
 row:∀r∈rs,zqD r=true
 nd:(rs.map zlH).Nodup
structure RG(xs:List Str)(m:Nat)(rs:List (List Str)):Prop where
 row:∀r∈rs,zqD r=true
 nd:(rs.map zlH).Nodup
 old:∀r∈rs,∃i j,i<m/\j<m/\zlH r=pr (at_ xs i) (at_ xs j)
structure MAt(K:W.Frag)(C:Addr)(x qual:Str)(st:Stmt)(ps:List Str)(f:Addr)(fd:FuncData):Prop where
 fn:Fun K x qual st f fd
 b:Binds K fd ps []
 m:Meth K C x f
section
variable{o:Expr}{f m:Str}{ta:TE}{t:TA}{ps:List Str}{ds:List Value}{E:XK}
end
inductive TrC(K:W.Frag)(H:Hp):V->PyData->Prop
 |non:TrC K H .non .none
 |bl (b:Bool):TrC K H (.bl b) (.bool b)
 |int (i:Int):TrC K H (.int i) (.int i)
 |str (x:Str) (h:PyData.strOk x=true):TrC K H (.str x) (.str x)
 |tup {p:Addr} {vs:List V} {ds:List PyData} (e:SqT K H p vs) (hl:vs.length=ds.length) (h:∀(i:Nat) (v:V) (d:PyData),vs[i]?=some v->ds[i]?=some d->TrC K H v d):TrC K H (.ref p) (.tuple ds)
theorem zfs{st:Stmt}:QS X st (λ_ _ _=>False):=⟨λpins s σ H D I h=>h.elim⟩
section
variable{src:List (Option Nat)}{tk:TE}
end
section
variable{d:Addr}{ps:List (Value×Value)}
end
section
variable{K:Type}[DecidableEq K]{knd:KeyKind prog w K}
end
inductive TwosAt(H:Hp):List Addr->List Str->List V->Prop
 |nil:TwosAt H [] [] []
 |cons {t:Addr} {x:Str} {y:V} {ts:List Addr} {hs:List Str} {ys:List V}:H t=some (.tup [.str x,y])->TwosAt H ts hs ys->TwosAt H (t::ts) (x::hs) (y::ys)
section
open PySem.W
noncomputable abbrev Ky:=Int×Int×List Str
noncomputable def ztt(k:Ky):PyData:= .tuple [.int k.1, .int k.2.1, .tuple (zl1 k.2.2)]
structure RawK(h:Heap)(b:Addr)(k:Ky):Prop where
 at_:∃p ti tn jts,IsTup h b #[.int k.1 ti, .int k.2.1 tn, .ref p]/\Vals (k.2.2.map V.str) jts/\IsTup h p jts.toArray/\(∃as,Reads h (.ref p) (.tuple (zl1 k.2.2)) as)/\(PyData.tuple (zl1 k.2.2)).canLay0=true
 rd:∃as,Reads h (.ref b) (ztt k) as
 can:(ztt k).canLay0=true
end
section
variable[DecidableEq α]{mm:α->α->α×α}
structure MM(mm:α->α->α×α):Prop where
 two:∀a b,mm a b=(a,b)\/mm a b=(b,a)
 sym:∀a b,mm a b=mm b a
noncomputable def ed(mm:α->α->α×α):List α->List (α×α)
 |a::b::r=>mm a b::ed mm (b::r)
 |_=> []
end
noncomputable def mmS(x y:Str):Str×Str:=(if ltS y x=true then y else x,if ltS x y=true then y else x)
structure SW(g:Str)(ps:List (Str×Str))(w:List Str):Prop where
 nd:w.Nodup
 last:w.getLast?=some g
 ties:∀p∈ed mmS w,p∈ps
structure WOk(hs w:List Str):Prop where
 ne:1<=w.length
 nd:w.Nodup
 mem:∀y∈w,y∈hs
structure Bf(g:Str)(hs:List Str)(ps:List (Str×Str))(ws:List (List Str))(n:Nat):Prop where
 nd:ws.Nodup
 sw:∀w∈ws,SW g ps w
 root:[g]∈ws
 src:∀y r,y::r∈ws->r≠ []->r∈ws.take n
 cl:∀y x r,x::r∈ws.take n->y∈hs->mmS y x∈ps->y∉x::r->y::x::r∈ws
structure Df(g:Str)(ps:List (Str×Str))(M:List Str->Option (List Str))(L F:List (List Str)):Prop where
 nd:L.Nodup
 fnd:F.Nodup
 fsub:∀w∈F,w∈L
 sw:∀w∈L,SW g ps w/\M w≠none
 root:[g]∈L
 src:∀y r,y::r∈L->r≠ []->r∈L/\r∉F
 cl:∀y x r,x::r∈L->x::r∉F->mmS y x∈ps->y∉x::r->M (y::x::r)≠none->y::x::r∈L
structure DfW(g:Str)(ps:List (Str×Str))(M:List Str->Option (List Str))(x:Str)(r ds:List Str)(L F:List (List Str)):Prop where
 nd:L.Nodup
 fnd:F.Nodup
 fsub:∀w∈F,w∈L
 sw:∀w∈L,SW g ps w/\M w≠none
 root:[g]∈L
 src:∀y q,y::q∈L->q≠ []->q∈L/\q∉F
 me:x::r∈L/\x::r∉F
 kids:∀y,y::x::r∈L->y∈ds
 cl:∀y a q,a::q∈L->a::q∉F->a::q≠x::r->mmS y a∈ps->y∉a::q->M (y::a::q)≠none->y::a::q∈L
 clw:∀y∈ds,y∉x::r->M (y::x::r)≠none->y::x::r∈L
section
variable{g:Str}{M:List Str->Option (List Str)}{r ds:List Str}{L F:List (List Str)}
end
theorem zqu(hK:X.K=K)(h:QE X e te):QI X tg e (zoN K te):=by subst hK;exact zgi h
inductive ChAt(H:Hp):List (Key×V)->List (Str×Option (List Str))->Prop
 |nil:ChAt H [] []
 |cons {x:Str} {v:V} {o:Option (List Str)} {kvs:List (Key×V)} {cs:List (Str×Option (List Str))}:zui H v o->ChAt H kvs cs->ChAt H ((Sum.inr x,v)::kvs) ((x,o)::cs)
structure Zp3(z TI TO i1 i2 i3:Addr):Prop where
 TIz:TI≠z
 TOz:TO≠z
 i1z:i1≠z
 i2z:i2≠z
 i3z:i3≠z
 TITO:TI≠TO
 TIi1:TI≠i1
 TIi2:TI≠i2
 TIi3:TI≠i3
 TOi1:TO≠i1
 TOi2:TO≠i2
 TOi3:TO≠i3
 i12:i1≠i2
 i13:i1≠i3
 i23:i2≠i3
structure Pp where
 one:Str
 to:Str
 nr:Int
 way:Option (List Str)
 marks:List Str
structure PpOk(hs:List Str)(ps:List (Str×Str))(p:Pp):Prop where
 one:p.one∈hs
 to:p.to∈hs
 tied:p.to∈ztS ps p.one
 nr:1<=p.nr
 mnm:∀x∈p.marks,zm x=true
 ml:p.marks.length<=90
 non:p.way=none->p.marks=[]
 way:∀w,p.way=some w->1<=w.length/\w.length<=10/\∀x∈w,zm x=true
inductive Ch(hs:List Str)(lks hds:List D):Str->List Str->List Pp->Prop
 |one {to g:Str} {nr:Int} {m:List Str} (h1:1<=nr) (h2:zfn [g] (some to) (zjo hs hds g) []=some m):Ch hs lks hds to [g] [⟨g,to,nr,some [g],m⟩]
 |more {to y x:Str} {ws:List Str} {nr:Int} {m:List Str} {q:Pp} {P:List Pp} (h:Ch hs lks hds y (x::ws) (q::P)) (h0:zsP (zmo (y::x::ws) q.marks (zjo hs lks y))=false) (h1:1<=nr)
   (h2:zfn (y::x::ws) (some to) (zjo hs hds y) q.marks=some m):Ch hs lks hds to (y::x::ws) (⟨y,to,nr,some (y::x::ws),m⟩::q::P)
section
variable{to:Str}{w:List Str}{P:List Pp}
end
section
variable{P:Nat->Value->Prop}{St:Nat->Heap->Prop}
end
section
open PySem.W PyProof.V
end
structure Mst(rs:List D)(Pr:Nat->List Str->Prop):Prop where
 skip:∀i t,Pr i t->Pr (i+1) t
 next:∀i t w m cs,Pr i t->rs[i]?=some (.tup [.tup cs, .tup [.str w, .str m]])->Pr (i+1) (zrF t w m)
 ok:∀i t,i<=rs.length->Pr i t->(∀y∈t,zm y=true)/\t.length<=60
section
variable{g:Str}
end
section
variable{δ ε ζ η θ:Type}
end
section
open PySem.W
end
section
variable{P:Nat->Value->Prop}{St:Nat->Heap->Prop}
end
structure RawKm(h:Heap)(b:Addr)(k:Ky):Prop where
 at_:∃t u,IsTup h b #[.ref t,u]/\RawK h t k
inductive TrX(K:W.Frag)(H:Hp):V->PyData->Prop
 |non:TrX K H .non .none
 |int (i:Int):TrX K H (.int i) (.int i)
 |str (x:Str) (h:PyData.strOk x=true):TrX K H (.str x) (.str x)
 |tup {p:Addr} {vs:List V} {ds:List PyData} (e:SqT K H p vs) (hl:vs.length=ds.length) (h:∀(i:Nat) (v:V) (d:PyData),vs[i]?=some v->ds[i]?=some d->TrX K H v d):TrX K H (.ref p) (.tuple ds)
 |lst {p:Addr} {vs:List V} {ds:List PyData} (e:H p=some (.lst vs)) (hl:vs.length=ds.length) (h:∀(i:Nat) (v:V) (d:PyData),vs[i]?=some v->ds[i]?=some d->TrX K H v d):TrX K H (.ref p) (.list ds)
theorem TrX.reads(I:Inv X pins σ H s){x:V}{d:PyData}(t:TrX X.K H x d):∀v,RelV x v->∃as,Reads s.heap v d as:=by
 induction t with
 |non=>intro v r;cases r;exact⟨_, .none⟩
 |int i=>intro v r;obtain⟨t,rfl⟩:=r;exact⟨_, .int i t⟩
 |str x h=>intro v r;obtain⟨t,rfl⟩:=r;exact⟨_, .str x t⟩
 |tup e hl h ih=>
  intro v r
  cases r
  obtain⟨its,rv,⟨o,ho,hc,n,hd⟩,_⟩:=I.tuple e
  obtain⟨bs,hb⟩:=zbY (h:=s.heap) rv hl ih
  exact⟨_, .tuple ho hc hd (by simpa using hb)⟩
 |lst e hl h ih=>
  intro v r
  cases r
  obtain⟨its,n,rv,ho,_⟩:=I.lst e
  obtain⟨bs,hb⟩:=zbY (h:=s.heap) rv hl ih
  exact⟨_, .list ho rfl rfl (by simpa using hb)⟩
theorem TrX.can{x:V}{d:PyData}(t:TrX K H x d):d.canLay0=true:=by
 induction t with
 |non=>rfl
 |int i=>rfl
 |str x h=>simp only[PyData.canLay0];exact h
 |tup e hl h ih=>rw[PyData.canLay0];exact zdf hl ih
 |lst e hl h ih=>rw[PyData.canLay0];exact zdf hl ih
theorem zst(hu:X.A.units+64<cLine):OpR X (compareOp .NotEq) (λx y H Q=>∃d e,TrX X.K H x d/\TrX X.K H y e/\min d.depth e.depth<=60/\Q (.bl (!d.eqv e)) H):=by
 intro pins s σ H x y v u Q I rx ry h
 obtain⟨d,e,t1,t2,hd,q⟩:=h
 obtain⟨as,r1⟩:=t1.reads I v rx
 obtain⟨bs,r2⟩:=t2.reads I u ry
 exact SeqAt.compareNe_reads r1 r2 t1.can t2.can () ⟨.bl _,H,I,rfl,q⟩
noncomputable abbrev Hr:=Int×Option WM
noncomputable abbrev Tb:=List (Str×Hr)
structure TbOk(hs:List Str)(ok:Str->Hr->Prop)(tm:Tb):Prop where
 nd:(tm.map (·.1)).Nodup
 mem:∀p∈tm,p.1∈hs/\ok p.1 p.2
section
variable{b:Addr}{k:WKey}{xs:List (WKey×Addr×Value)}
end
inductive Alk(H:Hp):List (Key×V)->List (Key×V)->Prop
 |nil:Alk H [] []
 |cons {k:Key} {v v':V} {d:PyData} {r r':List (Key×V)}:Tr H v d->Tr H v' d->d.depth<=60->Alk H r r'->Alk H ((k,v)::r) ((k,v')::r')
section
open Sem (wp)
open MeetsSeq MeetsSeq2 MeetsSeq3 Builtin
end
abbrev ztc(xs:Array Nat):Prop:=xs.toList.Pairwise (·<·)
noncomputable def ztb(t:SetTable)(h:Int):Nat->SetTable.Probe
 |0=>t.probeStart h
 |n+1=>t.advance (ztb t h n)
noncomputable abbrev zrg(t:SetTable)(h:Int)(n:Nat):Nat:=(ztb t h n).j
def zsq(m:Nat):Prop:=m=7\/m=15\/m=31\/m=63\/m=127\/m=255
def ztw(t:SetTable)(h:Int)(j:Nat):Prop:=∃n,zrg t h n=j/\∀m<n,zrg t h m∈t.place.toList
structure LayT(t:SetTable)(hs:List Int):Prop where
 size:t.place.size=hs.length
 rise:ztc t.place
 bnd:∀j∈t.place.toList,j<=t.mask
 dum:t.dummies= #[]
 mask:zsq t.mask
 reach:∀p∈t.place.toList.zip hs,ztw t p.2 p.1
noncomputable def tM(mask:Nat):SetTable:={mask:=mask,place:= #[],dummies:= #[],finger:=0,led:=false,moves:=0,plain:=false}
abbrev zty(owner:Array (Option Nat))(j:Nat):Prop:=∃k,owner[j]?=some (some k)
structure OwnOk(mask:Nat)(owner:Array (Option Nat))(hs:List Int):Prop where
 size:owner.size=mask+1
 lt:∀(j k:Nat),owner[j]?=some (some k)->k<hs.length
 all:∀k<hs.length,∃j:Nat,owner[j]?=some (some k)
 inj:∀(j j' k:Nat),owner[j]?=some (some k)->owner[j']?=some (some k)->j=j'
 reach:∀(j k:Nat) (h:Int),owner[j]?=some (some k)->hs[k]?=some h->∃n,zrg (tM mask) h n=j/\∀m<n,zty owner (zrg (tM mask) h m)
section
noncomputable abbrev zhM:=List Str
abbrev zt6(prog:Program)(w:World)(h:Heap)(k:zhM)(a:Addr):Prop:=IsTupleKey (PySem.strKind prog w) h k a
noncomputable abbrev zlW(prog:Program)(w:World)(k:zhM):Int:=tupleKeyHash (PySem.strKind prog w) k
noncomputable def zqL(w:World):Bool:=w.params.followText "set-order"
noncomputable def zrT(prog:Program)(w:World)(x:zhM×Addr):Int×Value:=(zlW prog w x.1, .ref x.2)
structure TkSet(prog:Program)(w:World)(h:Heap)(o:Obj)(es:Array (Int×Value))(ep:Nat)(t:SetTable)(xs:List (zhM×Addr)):Prop where
 ex:o.ExactSet
 dat:o.data= .set es ep t
 ents:es.toList=xs.map (zrT prog w)
 lay:LayT t (xs.map λx=>zlW prog w x.1)
 few:xs.length*5<t.mask*3
 led:t.led=!zqL w
 plain:xs≠ []->t.plain=false
 nd:(xs.map (·.1)).Nodup
 is:∀x∈xs,zt6 prog w h x.1 x.2/\x.1≠ []
variable{o:Obj}{es:Array (Int×Value)}{xs:List (zhM×Addr)}{k:zhM}
end
section
variable{o:Obj}{es:Array (Int×Value)}{xs:List (zhM×Addr)}{k:zhM}
end
section
variable{P:Nat->Value->Prop}{St:Nat->Heap->Prop}
end
section
variable{oS:Obj}{es:Array (Int×Value)}
end
structure SRaw{α:Type}(w:World)(ent:α->Int×Value)(o:Obj)(es:Array (Int×Value))(ep:Nat)(t:SetTable)(xs:List α):Prop where
 ex:o.ExactSet
 dat:o.data= .set es ep t
 ents:es.toList=xs.map ent
 fits:t.fits es.size=true
 led:t.led=!zqL w
 plain:xs≠ []->t.plain=false
 rise:ztc t.place
section
variable[Inhabited α]{ent:α->Int×Value}{o:Obj}{es:Array (Int×Value)}{xs:List α}
omit [Inhabited α] in
omit [Inhabited α] in
end
section
open PySem.W
section
variable[Inhabited α]{ent:α->Int×Value}{r:Addr}{o:Obj}{es:Array (Int×Value)}{xs:List α}
end
end
section
open PySem.W PyProof.V
end
section
noncomputable def ztO(w:World)(x:Str×Tok):Int×Value:=(hashStr w x.1, .str x.1 x.2)
structure TxSet(w:World)(o:Obj)(es:Array (Int×Value))(ep:Nat)(t:SetTable)(xs:List (Str×Tok)):Prop where
 ex:o.ExactSet
 dat:o.data= .set es ep t
 ents:es.toList=xs.map (ztO w)
 lay:LayT t (xs.map λx=>hashStr w x.1)
 few:xs.length*5<t.mask*3
 led:t.led=!zqL w
 plain:xs≠ []->t.plain=false
 nd:(xs.map (·.1)).Nodup
variable{o:Obj}{es:Array (Int×Value)}{xs:List (Str×Tok)}
end
structure TkRaw(prog:Program)(w:World)(o:Obj)(es:Array (Int×Value))(ep:Nat)(t:SetTable)(xs:List (zhM×Addr)):Prop where
 ex:o.ExactSet
 dat:o.data= .set es ep t
 ents:es.toList=xs.map (zrT prog w)
 lay:LayT t (xs.map λx=>zlW prog w x.1)
 few:xs.length*5<t.mask*3
 led:t.led=!zqL w
 plain:xs≠ []->t.plain=false
 nd:(xs.map (·.1)).Nodup
section
variable{o:Obj}{es:Array (Int×Value)}{xs:List (zhM×Addr)}
end
section
open PySem.W
section
variable{r:Addr}{o:Obj}{es:Array (Int×Value)}{xs:List (zhM×Addr)}
end
end
section
open PySem.W PyProof.V
end
section
open PySem.W
section
variable{ks:List Str}
end
end
section
open PySem.W PyProof.V
end
section
variable{ks:List Str}
end
section
variable{i1 i2:Expr}{it:Value}
end
section
variable{src:List (Option Nat)}
end
section
variable{o:Obj}{es:Array (Int×Value)}{xs:List (Str×Tok)}
end
section
open PySem.W PyProof.V
section
variable{K:Type}[DecidableEq K]{knd:HeapKind prog w K}{d:Addr}{xs:List (K×Addr×Value)}{k:K}{v:Value}
end
end
section
variable{P:Nat->Value->Prop}{St:Nat->Heap->Prop}
end
section
open Builtin Builtin.Str
theorem zk7:∀(t:Tok) (xs:List Str),Vals (xs.map V.str) (strsFrom t xs)
 |_,[]=> .nil
 |t,x::xs=> .cons ⟨_,rfl⟩ (zk7 _ xs)
def zoe:V->List V->Hp->VK->Prop:=λx vs H Q=>∃z y:Str,x= .str z/\vs=[.str y]/\(y.length==0)=false/\z.length+2<=sizeLine/\∀l,H l=none->Q (.ref l) (upd H l (.lst ((Txt.split z y).map V.str)))
theorem zk1:MtR X "str.split" zoe:=by
 intro pins s σ H x xs v us Q I rx rs h
 obtain⟨z,y,rfl,rfl,hy,hz,q⟩:=h
 obtain⟨t,rfl⟩:=rx
 obtain⟨u,rfl,ru⟩:=zbq rs
 obtain⟨t',rfl⟩:=ru
 have hle:=split_le z y
 cases h1:(decide (z.length<y.length)||decide (strKind z<strKind y))
 ·cases hf:(occurrences z y 0 z.length (z.length+1)).isEmpty
  ·have e:Txt.split z y=partsBetween z (occurrences z y 0 z.length (z.length+1)) y.length:=by unfold Txt.split;rw[V0 (ne_true_of_eq_false h1),V0 (ne_true_of_eq_false hf)]
   rw[e] at q hle
   refine call_meets F.slot_str_split (typeIs_str _ _ _) F.entry_str_split (F.args_str_split_2 _ _) (meets_str_split_sep z y t t' h1 hy hf () ()) ?_
   refine⟨.ref s.heap.objs.size,_,I.laid (a:=s.heap.objs.size) (o:= .lst ((partsBetween z (occurrences z y 0 z.length (z.length+1)) y.length).map V.str)) (λb ob q=>C0 _ q) (K0 _) ?_,rfl,q _ (I.hok.fresh (K0 _))⟩
   exact⟨by rw[B0];lia,_,0,zk7 _ _,M0 _ rfl⟩
  ·have e:Txt.split z y=[z]:=by unfold Txt.split;rw[V0 (ne_true_of_eq_false h1),p0 hf]
   rw[e] at q
   refine call_meets F.slot_str_split (typeIs_str _ _ _) F.entry_str_split (F.args_str_split_2 _ _) (meets_str_split_not_found z y t t' h1 hy hf) ?_
   refine⟨.ref s.heap.objs.size,_,I.laid (a:=s.heap.objs.size) (t':=s.toks) (o:= .lst [V.str z]) (λb ob q=>C0 _ q) (K0 _) ?_,rfl,q _ (I.hok.fresh (K0 _))⟩
   exact⟨by rw[List.length_singleton];lia,[.str z t],0, .cons ⟨t,rfl⟩ .nil,M0 _ rfl⟩
 ·have e:Txt.split z y=[z]:=by unfold Txt.split;rw[p0 h1]
  rw[e] at q
  refine call_meets F.slot_str_split (typeIs_str _ _ _) F.entry_str_split (F.args_str_split_2 _ _) (meets_str_split_cannot_occur z y t t' h1) ?_
  refine⟨.ref s.heap.objs.size,_,I.laid (a:=s.heap.objs.size) (t':=s.toks) (o:= .lst [V.str z]) (λb ob q=>C0 _ q) (K0 _) ?_,rfl,q _ (I.hok.fresh (K0 _))⟩
  exact⟨by rw[List.length_singleton];lia,[.str z t],0, .cons ⟨t,rfl⟩ .nil,M0 _ rfl⟩
theorem zme{a b:Str}(h:a.cps.toList=b.cps.toList):a=b:=Str.ext' (Array.toList_inj.mp h)
theorem zeG(y x z:Str)(r:List Str):(Str.join y (x::z::r)).cps.toList=x.cps.toList ++y.cps.toList ++(Str.join y (z::r)).cps.toList:=by
 show((x ++y)++Str.join y (z::r)).cps.toList=_
 show((x.cps ++y.cps)++(Str.join y (z::r)).cps).toList=_
 rw[Array.toList_append,Array.toList_append]
theorem zhy{c:Nat}:∀{a b r s:List Nat},c∉a->c∉b->a ++c::r=b ++c::s->a=b/\r=s
 |[],[],_,_,_,_,h=>by injection h with _ h;exact⟨rfl,h⟩
 |[],y::b,_,_,_,hb,h=>by injection h with h _;exact absurd (h▸Q0) hb
 |x::a,[],_,_,ha,_,h=>by injection h with h _;exact absurd (h▸Q0) ha
 |x::a,y::b,_,_,ha,hb,h=>by
  injection h with h1 h2
  obtain⟨e1,e2⟩:=zhy (λz=>ha (N0 _ z)) (λz=>hb (N0 _ z)) h2
  exact⟨by rw[h1,e1],e2⟩
theorem zkd{a b r:List Nat}(ha:c∉a)(h:a=b ++ [c]++r):False:=ha (by rw[h];simp)
theorem zkA{c:Nat}:∀{as bs:List Str},as≠ []->bs≠ []->(∀p∈as,c∉p.cps.toList)->(∀p∈bs,c∉p.cps.toList)->Str.join ⟨#[c]⟩ as=Str.join ⟨#[c]⟩ bs->as=bs
 |[a],[b],_,_,_,_,h=>by
  have:a=b:=h
  rw[this]
 |[a],b::d::r,_,_,ha,_,h=>by
  have h:=congrArg (λx:Str=>x.cps.toList) h
  simp only[join_nil,zeG] at h
  exact(zkd (c:=c) (r:=(Str.join ⟨#[c]⟩ (d::r)).cps.toList) (ha a Q0) h).elim
 |a::d::r,[b],_,_,_,hb,h=>by
  have h:=congrArg (λx:Str=>x.cps.toList) h
  simp only[join_nil,zeG] at h
  exact(zkd (c:=c) (r:=(Str.join ⟨#[c]⟩ (d::r)).cps.toList) (hb b Q0) h.symm).elim
 |a::d::r,b::e::s,_,_,ha,hb,h=>by
  have h:=congrArg (λx:Str=>x.cps.toList) h
  simp only[zeG] at h
  rw[V1,V1] at h
  obtain⟨e1,e2⟩:=zhy (c:=c) (ha a Q0) (hb b Q0) h
  have:=zkA (as:=d::r) (bs:=e::s) `Z2 `Z2 (λp hp=>ha p (N0 _ hp)) (λp hp=>hb p (N0 _ hp)) (zme e2)
  rw[zme e1,this]
 |[],_,h,_,_,_,_=>absurd rfl h
 |_::_,[],_,h,_,_,_=>absurd rfl h
theorem zht{as:List Str}(h:as≠ [])(ha:∀p∈as,c∉p.cps.toList):Txt.split (Str.join ⟨#[c]⟩ as) ⟨#[c]⟩=as:=
 zkA (λz=>by have:=split_pos (Str.join ⟨#[c]⟩ as) ⟨#[c]⟩;rw[z] at this;exact absurd this ⋯) h (StrLaws.split_free _ c) ha (StrLaws.join_split _ _)
end
theorem zio:CallR X (.type "int") (λxs H Q=>∃x n,xs=[.str x]/\PySem.intText? x=some n/\x.length<=640/\Q (.int n) H):=by
 intro pins s σ H xs us Q I r h
 obtain⟨x,n,rfl,hn,hl,q⟩:=h
 obtain⟨u,rfl,t,rfl⟩:=zbq r
 exact W.KIN.call_text hn hl ⟨.int n,H,I.tok _,⟨_,rfl⟩,q⟩
theorem zna{m:Nat}(h0:0<m)(h1:m<10^10):PySem.intText? (Str.ofString (toString (-(m:Int))))=some (-(m:Int)):=by
 have hl:(Str.ofString (toString ((m:Nat):Int))).length<=640:=F1 (W.KT.len_num (Int.natCast_nonneg m) ()) ⋯
 have hc:(Str.ofString (toString (-(m:Int)))).cps.toList=45::(Str.ofString (toString ((m:Nat):Int))).cps.toList:=by
  obtain⟨k,rfl⟩:∃k,m=k+1:=⟨m -1,()⟩
  rw[W.KIN.signs_num,signs_ofString]
  show("-"++Nat.repr (k+1)).toList.map Char.toNat=_
  rw[String.toList_append,U0,Nat.toList_repr]
  rfl
 have hd:NumText.AllDigits (Str.ofString (toString ((m:Nat):Int))).cps.toList:=by
  intro c hc
  rw[W.KIN.signs_num] at hc
  obtain⟨ch,hch,e⟩:=T1.mp hc
  have r:=digit_range (Nat.isDigit_of_mem_toDigits ⋯ ⋯ hch)
  rw[←e]
  exact r
 have hne:(Str.ofString (toString ((m:Nat):Int))).cps.toList≠ []:=by
  rw[W.KIN.signs_num]
  intro e
  have h:=PySem.toDigits_len_ge 10 m
  rw[List.map_eq_nil_iff.mp e] at h
  exact absurd h ⋯
 have e:=PySem.intText_neg hc hd hne (by
  show(Str.ofString (toString (-(m:Int)))).cps.size<=4300
  have:=congrArg List.length hc
  rw[Array.length_toList,Z0,Array.length_toList] at this
  have h2:(Str.ofString (toString ((m:Nat):Int))).cps.size<=640:=hl
  lia)
 rw[W.KIN.signs_num,W.KIN.val_back] at e
 exact e
theorem ziS{n:Int}(h:n.natAbs<10^10):PySem.intText? (Str.ofString (toString n))=some n:=by
 rcases Int.le_total 0 n with h0|h0
 ·exact W.KIN.num_reads h0 ()
 ·rcases Int.lt_or_eq_of_le h0 with h1|h1
  ·obtain ⟨m,rfl⟩:∃m:Nat,n= -(m:Int):=⟨n.natAbs,()⟩
   exact zna () ()
  ·subst h1
   exact W.KIN.num_reads (Int.le_refl 0) ⋯
theorem zo0:MtR X "str.removeprefix" (λx vs H Q=>∃z y:Str,x= .str z/\vs=[.str y]/\z.length<=sizeLine/\Q (.str (Txt.removeprefix z y)) H):=by
 intro pins s σ H x xs v us Q I rx rs h
 obtain⟨z,y,rfl,rfl,hz,q⟩:=h
 obtain⟨t,rfl⟩:=rx
 obtain⟨u,rfl,t',rfl⟩:=zbq rs
 exact SC.removeprefix (λt2 k=>⟨.str _,H,I.tok k,⟨_,rfl⟩,q⟩) hz
theorem zfe{P:Nat->Value->Prop}{St:Nat->Heap->Prop}(D:Draws prog w A it fp n P St)(c:Nat):
 Draws prog w A it fp (c+n) (λj v=>∃i,j=c+i/\P i v) (λj h=>∃i,j=c+i/\St i h) where
 live:=λi h ⟨k,_,st⟩=>D.live k h st
 frame:=λi h h' ⟨k,e,st⟩ kk=>⟨k,e,D.frame k h h' st kk⟩
 item:=λi s Q E hi ⟨k,e,st⟩ hQ=>D.item k s Q E () st λx h' tk p s' kk=>hQ x h' tk ⟨k,e,p⟩ ⟨k+1,(),s'⟩ kk
 done:=λs Q E ⟨k,e,st⟩ hQ=>D.done s Q E (by have:k=n:=()
                                            subst this;exact st) hQ
theorem zsn{c0:Nat}{P:Prop}(z:∃j,c0+i+1=c0+j/\h.IsListIter it a j/\P):h.IsListIter it a (i+1):=by
 obtain⟨j,ej,hj,_⟩:=z
 have ej:j=i+1:=()
 subst ej;exact hj
noncomputable def ItS(K:W.Frag)(c0:Nat)(a:Addr)(n:Nat):It:=
 ⟨λi H=>∃xs x,SqL K H a xs/\xs.length=n/\xs[i]?=some x,λi H x H'=>∃T y,x= .ref T/\H T=none/\(∀xs,SqL K H a xs->xs[i]?=some y)/\H'=upd H T (.tup [.int ((c0+i:Nat):Int),y]),λi H=>∃xs,SqL K H a xs/\xs.length=n/\n<=i⟩
theorem zhE(c0:Nat)(a e it:Addr)(n:Nat)(hne:e≠it):
 Turn P w K (.Tuple elts k pos) (ItS K c0 a n) [e,it] e (λi h=>i<=n/\(∃old,IsEnum h e it ((c0+i:Nat):Int) old)/\h.IsListIter it a i) where
 mem:=`Z2
 obj:=λi h st b hb=>by
  obtain⟨_,⟨old,he⟩,o,e',c,d⟩:=st
  rcases I0.mp hb with rfl|hb
  ·exact ⟨_,he,λv z=>by cases z⟩
  ·have:b=it:=by simpa using hb
   subst this
   exact⟨o,e',λv z=>by rw[d] at z;cases z⟩
 keep:=λi h h' st kk=>⟨st.1,let⟨old,he⟩:=st.2.1;⟨old,kk e `Z2 _ he⟩,st.2.2.at λo e'=>kk it `Z2 o e'⟩
 item:=by
  intro X hP hw hK hc i pins s σ H E I hf st hg
  subst hP hw hK
  obtain⟨xs,x,hq,hn,hx⟩:=hg
  obtain⟨its,rv,p,hz⟩:=I.list hq
  obtain⟨u,hu,ru⟩:=rv.get hx
  have pT:s.heap.IsList a its.toArray:=p.isList
  have hil:i<its.length:=by
   rcases A2 i its.length with z|z
   ·exact z
   ·rw[X0 z] at hu;cases hu
  have hlen:its.length=n:=by rw[←rv.length];exact hn
  obtain⟨o1,ho1,hc1,_⟩:=id pT
  have na1:a≠it:=λz=>by
   obtain⟨o2,ho2,hc2,_⟩:=st.2.2
   rw[z,ho2] at ho1;cases ho1;rw[hc2] at hc1;injection hc1 with hc1;exact absurd hc1 ⋯
  have na2:a≠e:=λz=>by
   obtain⟨old,he⟩:=st.2.1
   rw[z,he] at ho1;cases ho1;injection hc1 with hc1;exact absurd hc1 ⋯
  obtain⟨f0,f1,f2,f3,f4,f5⟩:=hf e `Z2
  obtain⟨g0,g1,g2,g3,g4,g5⟩:=hf it `Z2
  have W:=WalksT.enumerateD (zfe (Draws.list (prog:=X.prog) (w:=X.w) (A:=X.A.in1) (I.ok.hd hc) it a na1 its.toArray) c0) e hne (by simp[hne,Ne.symm na2]) `Z2
  obtain⟨old,he⟩:=st.2.1
  unfold pyNext
  refine A0 (wpAny_attempt (wpAny_callSpecial?_slot (name:=Str.ofString "__next__") ⟨_,he,rfl⟩ F.slot_enumerate_next (wpAny_call_entry F.slot_enumerate_next ⟨_,he,rfl⟩ F.entry_enumerate_next (enumerate_next_itemD (zfe (Draws.list (prog:=X.prog) (w:=X.w) (A:=X.A.in1) (I.ok.hd hc) it a na1 its.toArray) c0) he ⟨i,rfl,st.2.2,pT⟩ (by simpa using hil) hne (by simp[hne,Ne.symm na2]) λx' h' t hx0 hOut hS0 hTo hsz hk0=>?_) (F.args_enumerate_next_1 _))))
  obtain⟨i1,e1,hx'⟩:=hx0
  obtain⟨i2,e2,hSt⟩:=hS0
  have z1:i1=i:=()
  have z2:i2=i+1:=()
  rw[z1] at hx';rw[z2] at hSt;clear z1 z2 e1 e2
  refine F0 ?_
  obtain⟨tk,htk⟩:∃tk,tk=t+1:=⟨_,rfl⟩
  rw[←htk]
  obtain⟨T,hTT⟩:∃T,T=s.heap.objs.size:=⟨_,rfl⟩
  have hk:∀(b:Addr) (o:Obj),b∉ [e,it]->s.heap.get? b=some o->h'.get? b=some o:=λb o hb q=>hk0 b o (λz=>hb (by simp[z])) (λz=>hb (by simp[z])) q
  rw[←hTT] at hOut hTo⊢
  have hT:s.heap.objs.size<=T:=Nat.le_of_eq hTT.symm
  have hTup:h'.IsTuple T #[Value.int ((c0+i:Nat):Int) t,x']:=⟨_,hTo,rfl,_,rfl⟩
  have nTe:T≠e:=λz=>by have:=P0 he;rw[←z,hTT] at this;exact absurd this (Z1 _)
  have nTi:T≠it:=λz=>by obtain⟨o2,ho2,_⟩:=st.2.2;have:=P0 ho2;rw[←z,hTT] at this;exact absurd this (Z1 _)
  have hMid:(∃x,IsEnumOut h' e it (((c0+i:Nat):Int)+1) x T)/\(∃j,c0+i+1=c0+j/\h'.IsListIter it a j/\h'.IsList a its.toArray)/\T≠e/\T≠it:=⟨⟨_,hOut⟩,⟨_,rfl,hSt⟩,nTe,nTi⟩
  have ex:x'=u:=by
   have:its.toArray[i]?=some u:=by simpa using hu
   rw[this] at hx';exact(A1 hx').symm
  subst ex
  refine⟨_,rfl,W.go elts k pos (c0+i) T {s with heap:=h',toks:=tk} _ _ hMid λh2 st2 hk2=>?_⟩
  have nT:T∉ [e,it]:=W.apart (c0+i) T h' hMid
  have fT:H T=none:=I.hok.fresh hT
  have ltT:∀{b o},s.heap.get? b=some o->b≠T:=λq z=>by
   have:=P0 q
   rw[z] at this
   exact absurd (C1 this hT) (Z1 _)
  have hTup2:h2.IsTuple T #[Value.int ((c0+i:Nat):Int) t,x']:=by
   obtain⟨o,ho,r⟩:=hTup
   exact⟨o,hk2 T o nT ho,r⟩
  have hND:NoDict h2 T:=λo q=>by rw[hk2 T _ nT hTo] at q;cases q;rfl
  have kk:∀b o,b∉ [e,it]->s.heap.get? b=some o->h2.get? b=some o:=λb o hb q=>hk2 b o hb (hk b o hb q)
  have neT:∀{b u'},H b=some u'->b≠T:=λq z=>by rw[z,fT] at q;cases q
  refine⟨.ref T,upd H T (.tup [.int ((c0+i:Nat):Int),x]),?_,rfl,⟨T,x,rfl,fT,λys hy=>by rw[I.list_inj hy hq];exact hx,rfl⟩,⟨(),st2.1,zsn st2.2⟩,λb hb=>?_⟩
  ·show Inv X pins σ _ {s with heap:=h2,gens:=s.gens,drawn:=s.drawn,toks:=tk}
   refine Inv.step (s:=s) (h':=h2) (t':=tk) (g':=s.gens) (d':=s.drawn) (ch:=[e,it]) I (λb hb=>?_) (λb o _ _ hc e' _=>kk b o hc e') (λb o _ _ hc e' _=>⟨o.slots,kk b o hc e'⟩) (λb o _ e' z=>by rw[zn (ltT e')];exact z) (λb o hc e'=>⟨o,kk b o hc e'⟩) (λb xs z=>by rw[zn (neT z)];exact z) (λb o u' z=>by rw[zn (neT z)];exact z) (λb ps z=>⟨#[],by rw[zn (neT z),z];simp⟩) (λm hm=>?_) (λb u' z=>?_) I.bare
   ·rcases I0.mp hb with rfl|hb
    ·exact ⟨f3,f1,f4,f5⟩
    ·have:b=it:=by simpa using hb
     subst this
     exact⟨g3,g1,g4,g5⟩
   ·obtain ⟨o,es,ep,ho,r⟩:=hm
    refine⟨o,es,ep,kk _ o (λz=>?_) ho,r⟩
    rcases I0.mp z with z|z
    ·exact f1 z.symm
    ·exact g1 ((by simpa using z:X.env.locals=it).symm)
   ·by_cases hb:b=T
    ·subst hb
     rw[upd_same] at z
     cases z
     exact⟨few rfl,[Value.int ((c0+i:Nat):Int) t,x'], .cons ⟨t,rfl⟩ (.cons ru .nil),hTup2,hND⟩
    ·rw[zn hb] at z
     refine(I.hok b u' z).stay (λc v hc q=>kk c v (λy=>?_) q) (λc q=>by rw[zn (neT q)];exact q) λc xs q=>by rw[zn (neT q)];exact q
     have:∃u2,H c=some u2:=by
      rcases hc with rfl|hc
      ·exact ⟨_,z⟩
      ·exact ⟨_,hc⟩
     obtain⟨u2,hu2⟩:=this
     rcases I0.mp y with rfl|y
     ·rw[f0] at hu2;cases hu2
     ·have:c=it:=by simpa using y
      subst this
      rw[g0] at hu2;cases hu2
  ·have:b≠T:=λz=>nT (by rw[←z];exact hb)
   rw[zn this]
   exact(hf b hb).1
 done:=by
   intro X hP hw hK hc i pins s σ H E I hf st hg
   subst hP hw hK
   obtain⟨xs,hq,hn,hx⟩:=hg
   obtain⟨its,rv,p,hz⟩:=I.list hq
   have pT:s.heap.IsList a its.toArray:=p.isList
   have hlen:its.length=n:=by rw[←rv.length];exact hn
   have ei:i=its.toArray.size:=by have:=st.1;simp;lia
   obtain⟨o1,ho1,hc1,_⟩:=id pT
   have na1:a≠it:=λz=>by
    obtain⟨o2,ho2,hc2,_⟩:=st.2.2
    rw[z,ho2] at ho1;cases ho1;rw[hc2] at hc1;injection hc1 with hc1;exact absurd hc1 ⋯
   have na2:a≠e:=λz=>by
    obtain⟨old,he⟩:=st.2.1
    rw[z,he] at ho1;cases ho1;injection hc1 with hc1;exact absurd hc1 ⋯
   obtain⟨f0,f1,f2,f3,f4,f5⟩:=hf e `Z2
   obtain⟨g0,g1,g2,g3,g4,g5⟩:=hf it `Z2
   have W:=WalksT.enumerateD (zfe (Draws.list (prog:=X.prog) (w:=X.w) (A:=X.A.in1) (I.ok.hd hc) it a na1 its.toArray) c0) e hne (by simp[hne,Ne.symm na2]) `Z2
   subst ei
   refine W.done s _ _ ⟨st.2.1,_,rfl,st.2.2,pT⟩ λh' tk kk=>⟨rfl,?_⟩
   refine I.step (g':=s.gens) (d':=s.drawn) (ch:=[e,it]) (λb hb=>?_) (λb o _ _ hc e' _=>kk b o hc e') (λb o _ _ hc e' _=>⟨o.slots,kk b o hc e'⟩) (λ_ _ _ _ z=>z) (λb o hc e'=>⟨o,kk b o hc e'⟩) (λ_ _ z=>z) (λ_ _ _ z=>z) (λb ps z=>⟨#[],by rw[z];simp⟩) (λm hm=>?_) (λb u' z=>?_) I.bare
   ·rcases I0.mp hb with rfl|hb
    ·exact ⟨f3,f1,f4,f5⟩
    ·have:b=it:=by simpa using hb
     subst this
     exact⟨g3,g1,g4,g5⟩
   ·obtain ⟨o,es,ep,ho,r⟩:=hm
    refine⟨o,es,ep,kk _ o (λz=>?_) ho,r⟩
    rcases I0.mp z with z|z
    ·exact f1 z.symm
    ·exact g1 ((by simpa using z:X.env.locals=it).symm)
   ·refine (I.hok b u' z).stay (λc v hc q=>kk c v (λy=>?_) q) (λc q=>q) λc xs q=>q
    have:∃u2,H c=some u2:=by
     rcases hc with rfl|hc
     ·exact ⟨_,z⟩
     ·exact ⟨_,hc⟩
    obtain⟨u2,hu2⟩:=this
    rcases I0.mp y with rfl|y
    ·rw[f0] at hu2;cases hu2
    ·have:c=it:=by simpa using y
     subst this
     rw[g0] at hu2;cases hu2
 self:=λA i s Q E st h=>by
  obtain⟨_,⟨old,he⟩,_⟩:=st
  refine wpAny_pyIter_slot (T:="enumerate") ⟨_,he,rfl⟩ F.slot_enumerate_iter (wpAny_call_entry F.slot_enumerate_iter ⟨_,he,rfl⟩ F.entry_enumerate_iter ?_ (F.args_enumerate_iter_1 _))
  unfold Builtin.«dict_keyiterator.__iter__»
  refine A0 (F0 (F0 ⟨_,rfl,"enumerate",_,⟨_,he,rfl⟩,F.slot_enumerate_next.lookup,h⟩))
section
open Builtin
theorem zjY{newId initId:String}{Bn Bi:Builtin}{args:List Value}{S:PySem.Spec}{Q₁:Value->Shared->Prop}(ft:TypeCalled T newId initId)
 (hct:checkTypeCall T ⟨args,kw⟩=pure Unit.unit) (hcn:checkBuiltinCall newId ⟨.type T::args,kw⟩=pure Unit.unit)
 (entryN:entryFor table newId=some Bn) (entryI:entryFor table initId=some Bi) (g:Meets (Bn ⟨.type T::args,kw⟩) S)
 (h:S A.in1 (wants Q₁ E) s)
 (hnext:∀obj s₁,Q₁ obj s₁->s₁.TypeIs obj T/\argsOk initId ⟨obj::args,kw⟩/\∃Si,Meets (Bi ⟨obj::args,kw⟩) Si/\Si A.in1 (wants (λr s₂=>r= .none/\Q obj s₂) E) s₁):
 wpAny (model prog w) A (call (.type T) args kw) Q E s:=by
 obtain⟨c,tl,hmro⟩:=ft.mro
 have hmade:=ft.made
 have hsub:=ft.sub
 refine wpAny_call (codeAny_of_tree ?_)
 show wpAny _ _ (callAny (.type T) _) _ _ _
 refine F0 ⟨Code.quiet_builtin _ `Y2,codeAny_builtin F.entry_type_call ?_⟩
 rw[Around.under_plain (weight_type_call_type T args kw) (units_type_call_type T args kw)]
 have h1:=ft.notType
 have h2:=ft.canCreate
 repeat (any_goals (first|assumption|wp_step))
 refine codeAny_mono (codeAny_call_builtin ft.plain entryN (wpAny_of_eq hcn (g prog w A.in1 _ s h))) λr s₁ hr=>?_
 cases r with
 |error e=>exact hr
 |ok fl=>
  cases fl with
  |ret obj=>
   obtain⟨hT,hok,Si,gi,hsi⟩:=hnext _ _ hr
   have hli:=ft.init.lookup
   have hbi:=ft.init.bind obj
   repeat (any_goals (first|assumption|wp_step))
   refine codeAny_mono (codeAny_call_builtin ft.init.plain entryI (ft.init.check _ _ _ _ _ _ _ _ hT hok (gi prog w A.in1 _ s₁ hsi))) λr₂ s₂ hr₂=>?_
   cases r₂ with
   |error e=>exact hr₂
   |ok fl₂=>
    cases fl₂ with
    |ret r=>
     obtain⟨rfl,hq⟩:=hr₂
     repeat (any_goals (first|assumption|wp_step))
    |_=>exact hr₂.elim
  |_=>exact hr.elim
end
set_option maxHeartbeats 1000000 in
theorem zgO(l:Addr)(items:Array Value)(n:Nat)(dct:Option Addr)(sl:Array (Option Value))(t:Tok):
 Meets (Builtin.«enumerate.__new__» ⟨[.type "enumerate", .ref l],[("start", .int 3 t)]⟩) (λ_ R s=>s.heap.get? l=some {cls:= .type "list",dict:=dct,data:= .seq items n,slots:=sl}/\
  R (.ok (.ret (.ref (s.heap.push {cls:= .type "list_iterator",data:= .fields #[.ref l, .int 0 0]}).objs.size)))
   {s with heap:=(s.heap.push {cls:= .type "list_iterator",data:= .fields #[.ref l, .int 0 0]}).push {cls:= .type "enumerate",data:= .fields #[.none, .bool false, .ref s.heap.objs.size,rawInt 3, .none, .none]}}):=
 .of_wp λprog w A R s h=>by
  obtain⟨hp,g,d,tk,os⟩:=s;obtain⟨hl,h⟩:=h
  have hsub:=sub_enumerate
  have hL:Heap.IsList (Shared.heap ⟨hp,g,d,tk,os⟩) l items:=⟨_,hl,rfl,n,rfl⟩
  wp_walk using AutoSeq1.wpAny_loadPart' hl
  refine wpAny_stack_any λst=>F0 ?_
  split
  ·rename_i c _ _ _ _ _
   cases(c==Value.type "enumerate")
   ·wp_walk using AutoSeq1.wpAny_loadPart' hl,wpAny_pyIter_list hL
    exact⟨_,rfl,h⟩
   ·wp_walk using AutoSeq1.wpAny_loadPart' hl,wpAny_pyIter_list hL
    exact⟨_,rfl,h⟩
  ·wp_walk using AutoSeq1.wpAny_loadPart' hl,wpAny_pyIter_list hL
   exact⟨_,rfl,h⟩
section
open Builtin
theorem zpa(a b:Value):checkTypeCall "enumerate" ⟨[a],[("start",b)]⟩=pure Unit.unit:=by kernel_rfl
theorem zpN(a b:Value):checkBuiltinCall "enumerate.__new__" ⟨[.type "enumerate",a],[("start",b)]⟩=pure Unit.unit:=by kernel_rfl
theorem zqf{self:Value}{rest:List Value}:
 Meets (Builtin.«object.__init__» ⟨self::rest,kw⟩) (λ_ R s=>s.TypeIs self "enumerate"/\R (.ok (.ret .none)) s):=by
 have hl:=F.called_enumerate.init.lookup
 have hm:=F.called_enumerate.made
 have hne:(some "enumerate.__new__" !=some "object.__new__")=true:=⋯
 refine Meets.of_wp λprog w A R s hs=>?_
 obtain⟨hT,hq⟩:=hs
 cases rest with
 |nil=>
  cases kw with
  |nil=>exact F0 ⟨_,rfl,hq⟩
  |cons a kw=>
   repeat (any_goals (first|assumption|wp_step))
   exact⟨_,rfl,hq⟩
 |cons a rest=>
  repeat (any_goals (first|assumption|wp_step))
  exact⟨_,rfl,hq⟩
theorem zo5(obj a b:Value):argsOk "object.__init__" ⟨[obj,a],[("start",b)]⟩:=by
 unfold argsOk;exact rfl
theorem zhP
 (h:wpAny M A (spliced (backTo pos (starEach (e::rest) env))) (λvs s₁=>wpAny M A (evalAll ((backToKw pos (keywordEach kws env)).map (·.2)))
   (λkvs s₂=>wpAny M A (call (.type T) vs (((backToKw pos (keywordEach kws env)).filterMap (·.1)).zip kvs)) Q E s₂) E s₁) E s)
 (he:autoParam (backTo pos (starEach (e::rest) env)=(false,eval e env)::backTo pos (starEach rest env)) y3)
 (hplain:autoParam ((backTo pos (starEach (e::rest) env)).any (·.1)=false) y3)
 (hall:autoParam ((backToKw pos (keywordEach kws env)).all (·.1.isSome)=true) y3)
 (hkw:autoParam ((backToKw pos (keywordEach kws env)).any (·.1.isNone)=false) y3):
 wpAny M A (callWith pos (.type T) [] (backTo pos (starEach (e::rest) env)) (backToKw pos (keywordEach kws env))) Q E s:=by
 unfold callWith
 refine A0 (wpAny_holding (Y1 (Q:=λa s₁=>wpAny M A (call (.type T) ([]++a.pos) a.kw) Q E s₁) ?_ (λa s₁ h₁=>A0 (wpAny_standAt ?_)) λ_ _ x=>x))
 ·rw[he] at h⊢
  exact evalArgs_kwB hall h
 ·simp only[hplain,hkw,Bool.or_false]
  refine A0 (F0 ?_)
  exact A0 (Y1 h₁ (λr s₂ hr=>A0 (wpAny_holding (wpAny_point (F0 hr)))) λ_ _ x=>x)
theorem zl3{t:Tok}(hL:s.heap.IsList l items)
 (h:∀h',IsEnum h' (s.heap.objs.size+1) s.heap.objs.size 3 .none->h'.IsListIter s.heap.objs.size l 0->h'.objs.size=s.heap.objs.size+2->
   (∀b o,s.heap.get? b=some o->h'.get? b=some o)->Q (.ref (s.heap.objs.size+1)) {s with heap:=h'}):
 wpAny (model prog w) A (call (.type "enumerate") [.ref l] [("start", .int 3 t)]) Q E s:=by
 obtain⟨⟨c,dct,dt,sl⟩,hl,hc,n,hd⟩:=hL
 replace hc:c= .type "list":=hc
 replace hd:dt= .seq items n:=hd
 subst hc hd
 refine zjY F.called_enumerate (zpa _ _) (zpN _ _) F.entry_enumerate_new F.entry_object_init
  (zgO l items n dct sl t) (Q₁:=λobj s₁=>s₁.TypeIs obj "enumerate"/\Q obj s₁) ⟨hl,?_⟩ λobj s₁ hq=>⟨hq.1,zo5 obj _ _,_,zqf,hq.1,rfl,hq.2⟩
 have hz:(s.heap.push {cls:= .type "list_iterator",data:= .fields #[.ref l, .int 0 0]}).objs.size=s.heap.objs.size+1:=Heap.size_push ..
 show _/\_
 rw[hz]
 have he:IsEnum ((s.heap.push {cls:= .type "list_iterator",data:= .fields #[.ref l, .int 0 0]}).push
  {cls:= .type "enumerate",data:= .fields #[.none, .bool false, .ref s.heap.objs.size,rawInt 3, .none, .none]}) (s.heap.objs.size+1) s.heap.objs.size 3 .none:=by
  have:=M0 (s.heap.push {cls:= .type "list_iterator",data:= .fields #[.ref l, .int 0 0]})
   (o:={cls:= .type "enumerate",data:= .fields #[.none, .bool false, .ref s.heap.objs.size,rawInt 3, .none, .none]}) rfl
  rw[hz] at this;exact this
 refine⟨⟨_,he,rfl⟩,h _ he ⟨_,C0 _ (M0 _ rfl),rfl,rfl⟩ (by rw[Heap.size_push,hz]) λb o x=>C0 _ (C0 _ x)⟩
noncomputable def zsL(K:W.Frag)(ta:TA):TI:=λσ H R=>ta σ H λvs H1=>∃a xs,vs=[.ref a]/\SqL K H1 a xs/\R (ItS K 3 a xs.length) H1
theorem zqc{j2:Nat}{p2:Pos}{a:Expr}{p:Pos}(hm:X.mg "enumerate"=none)(ha:QA X [a] ta)(hg:autoParam (Gl X "enumerate") y3)(hs:autoParam (starEach [a] X.env=[(false,eval a X.env)]) y3):QI X (.Tuple elts k pos2) (.Call (.Name "enumerate" p) [a] [⟨some "start", .Constant (.int 3) j2 p2,p3⟩] pos) (zsL X.K ta):=⟨by
 intro pins s σ H R I h
 refine wpAny_Call_Name_kw (zeh I hg hm boot_enumerate ?_)
 refine zhP (thn (ha.o pos pins s σ H _ I h) λus s1 ⟨vs,H1,I1,r1,q1⟩=>kws_cons (thn ((ze (X:=X) (k:=3)).o pins s1 σ H1 (λv H'=>v= .int 3/\H'=H1) I1 ⟨rfl,rfl⟩) λbv s2 ⟨b,H2,I2,rb,eb,eH⟩=>kws_nil ?_)) (by rw[hs];rfl) (by rw[hs];rfl)
 subst eb eH
 obtain⟨tk,rfl⟩:=rb
 obtain⟨l,xs,rfl,hq,q⟩:=q1
 obtain⟨u,rfl,ru⟩:=zbq r1
 cases ru
 obtain⟨its,rv,pl,hz⟩:=I2.list hq
 refine zl3 pl.isList λh' he hit hsz kk=>?_
 have ne1:s2.heap.objs.size+1≠s2.heap.objs.size:=()
 refine(zhE (P:=X.prog) (w:=X.w) (K:=X.K) (elts:=elts) (k:=k) (pos:=pos2) 3 l (s2.heap.objs.size+1) s2.heap.objs.size xs.length ne1).self X.A 0 _ _ _ ⟨X1 _,⟨_,he⟩,hit⟩ ?_
 refine⟨s2.heap.objs.size+1,[s2.heap.objs.size+1,s2.heap.objs.size],_,_,_,rfl,I2.kept (t':=s2.toks) kk,zhE 3 l _ _ xs.length ne1,⟨X1 _,⟨_,he⟩,hit⟩,λb hb=>?_,q⟩
 have hb':s2.heap.objs.size<=b:=by
  rcases I0.mp hb with z|z
  ·rw[z];exact Nat.le_succ _
  ·have z:b=s2.heap.objs.size:=by simpa using z
   rw[z];exact K0 _
 exact I2.fpOk hb' (I2.hok.fresh hb')⟩
end
theorem zpV(hu:X.A.units+64<cLine):OpR X (compareOp .Eq) (λx y H Q=>∃d e,TrX X.K H x d/\TrX X.K H y e/\min d.depth e.depth<=60/\Q (.bl (d.eqv e)) H):=by
 intro pins s σ H x y v u Q I rx ry h
 obtain⟨d,e,t1,t2,hd,q⟩:=h
 obtain⟨as,r1⟩:=t1.reads I v rx
 obtain⟨bs,r2⟩:=t2.reads I u ry
 exact SeqAt.compareEq_reads r1 r2 t1.can t2.can () ⟨.bl _,H,I,rfl,q⟩
theorem TrX.txs{xs:List Str}(e:H p=some (.lst (xs.map V.str)))(h:∀x∈xs,PyData.strOk x=true):TrX K H (.ref p) (.list (xs.map PyData.str)):=by
 refine .lst e `Z2 λi v d hv hd=>?_
 rw[W0] at hv hd
 cases hx:xs[i]? with
 |none=>rw[hx] at hv;cases hv
 |some x=>
  rw[hx] at hv hd
  cases hv;cases hd
  exact .str x (h x (L0 hx))
noncomputable def zaV(X:Cx)(N':List Str)(scope:Scope)(cl:List (Str×Addr))(C:Addr)(s₀:Shared)(H₀:Hp)(fp:List Addr):Cx:=
 {zx X N' scope cl C s₀ H₀ fp with fn:=λx=>scope.names.lookup x==some .cell}
structure CompOkC(N:List Str)(osc:Scope)(N':List Str)(src:List (Option Nat))(scope:Scope):Prop where
 kind:scope.kind= .function
 celled:∀y∈scope.names,y.2= .cell->scope.names.lookup y.1=some .cell
 loc:∀y∈scope.names,y.2= .local->scope.names.lookup y.1=some .local
 frees:∀y∈scope.names,y.2= .free->osc.names.lookup y.1=some .cell\/osc.names.lookup y.1=some .free
 nd:N'.Nodup
 len:src.length=N'.length
 src:∀q∈src.zip N',∀j∈q.1.toList,N[j]?=some q.2/\scope.names.lookup q.2=some .free
theorem zbT:∀(names:List (Str×NameKind)) (n:Nat) (acc:List (Str×Addr)),cellsFrom n names acc=cellsFrom n names []++acc
 |[],_,_=>rfl
 |(x,k)::r,n,acc=>by
  unfold cellsFrom
  split
  ·rw[zbT r (n+1) ((x,n)::acc),zbT r (n+1) [(x,n)],V1];rfl
  ·exact zbT r n acc
theorem zbS:∀(names:List (Str×NameKind)) (n:Nat) (acc:List (Str×Addr)) {x:Str} {c:Addr},(x,c)∈cellsFrom n names acc->(x,c)∈acc\/(x,NameKind.cell)∈names
 |[],_,_,_,_,h=> .inl h
 |(y,k)::r,n,acc,x,c,h=>by
  unfold cellsFrom at h
  split at h
  ·rename_i hk
   rcases zbS r (n+1) ((y,n)::acc) h with z|z
   ·rcases I0.mp z with e|z
    ·cases e
     have:k= .cell:=by simpa using hk
     subst this;exact .inr Q0
    ·exact .inl z
   ·exact .inr (N0 _ z)
  ·rcases zbS r n acc h with z|z
   ·exact .inl z
   ·exact .inr (N0 _ z)
theorem zdE{α:Type}:∀{l r:List (Str×α)} {x:Str},(l ++r).lookup x=match l.lookup x with|some c=>some c|none=>r.lookup x
 |[],_,_=>rfl
 |(y,c)::l,r,x=>by
  rw[List.cons_append,F2,F2]
  cases x==y with
  |true=>rfl
  |false=>exact zdE
theorem zeY{l r:List (Str×α)}{c:α}(h:(l ++r).lookup x=some c):l.lookup x=some c\/(l.lookup x=none/\r.lookup x=some c):=by
 rw[zdE] at h
 cases e:l.lookup x with
 |some d=>rw[e] at h;exact .inl h
 |none=>rw[e] at h;exact .inr ⟨rfl,h⟩
theorem znl{globals:Addr}{cl:List (Str×Addr)}{func:Option Addr}{code:Value}{around:Env}{Q:Env->Shared->Prop}
 (h:∀h',h'.Ns s.heap.objs.size (λ_=>none)->(∀b o,s.heap.get? b=some o->h'.get? b=some o)->CellsOk h' (s.heap.objs.size+1) (cellsFrom (s.heap.objs.size+1) scope.names [])->
   Q (newEnv scope s.heap.objs.size globals (cellsFrom (s.heap.objs.size+1) scope.names []++cl) qual func code (some around) builtinsNs) {s with heap:=h'}):
 wpAny M A (newFunctionEnv scope globals cl [] qual func code (some around)) Q E s:=by
 simp only[newFunctionEnv,Option.isSome_some,if_true]
 refine A0 (wpAny_alloc ?_)
 refine A0 (wpAny_layCells _ (λname kind cells=>by cases hkc:kind==NameKind.cell<;>simp[hkc]) _ _ _ _ ?_)
 have ok:=cellsFrom_ok scope.names (s.heap.push {cls:= .type "dict",data:= .dict #[]}) (s.heap.objs.size+1) [] ⟨λ_ _ hm=>(nomatch hm),List.Pairwise.nil⟩ (by rw[Heap.size_push];exact K0 _)
 rw[Heap.size_push] at ok
 rw[show({s with heap:=s.heap.push {cls:= .type "dict",data:= .dict #[]}}:Shared).heap.objs.size=s.heap.objs.size+1 from Heap.size_push ..]
 rw[List.forIn_nil]
 refine A0 (F0 (F0 ?_))
 rw[zbT]
 exact h _ ((Heap.Ns.new s.heap (.type "dict")).keeps (pushCells_keeps _ _)) (λb o e=>pushCells_keeps _ _ b o (C0 _ e)) ok
theorem zhx:(relabel scope env).names.lookup x=(scope.names.lookup x).map λk=>if (k==NameKind.free&&env.scope.kind== .function&&env.kindOf x==some .cell)then NameKind.cell else k:=by
 have key:∀(l:List (Str×NameKind)),(l.map λ(n,k)=>if (k==NameKind.free&&env.scope.kind== .function&&env.kindOf n==some .cell)then(n,NameKind.cell)else(n,k)).lookup x=
  (l.lookup x).map λk=>if (k==NameKind.free&&env.scope.kind== .function&&env.kindOf x==some .cell)then NameKind.cell else k:=by
  intro l
  induction l with
  |nil=>rfl
  |cons y l ih=>
   obtain⟨n,k⟩:=y
   rw[J1,F2]
   by_cases hq:(k==NameKind.free&&env.scope.kind== .function&&env.kindOf n==some .cell)=true
   ·simp only[hq,if_true,F2]
    cases hx:x==n with
    |true=>
     have e:x=n:=by simpa using hx
     subst e
     simp only[Option.map_some,hq,if_true]
    |false=>exact ih
   ·simp only[hq,G2,if_false,F2]
    cases hx:x==n with
    |true=>
     have e:x=n:=by simpa using hx
     subst e
     simp only[Option.map_some,hq,G2,if_false]
    |false=>exact ih
 exact key _
section
variable{src:List (Option Nat)}{cl:List (Str×Addr)}
theorem zky{tk:Nat}(I:Inv X pins σ H s)(hf:∀b∈fp,zc4 X pins H b)(hlt:∀b∈fp,b<s.heap.objs.size)(ok:CompOkC X.N osc N' src scope)(hsc:X.env.scope=osc)
 (c1:∀x c,cl.lookup x=some c->X.env.cells.lookup x=some c) (c2:∀y∈scope.names,y.2= .free->∃c,cl.lookup y.1=some c)
 (hn:h₁.Ns s.heap.objs.size λ_=>none) (hk:∀b o,s.heap.get? b=some o->h₁.get? b=some o) (okc:CellsOk h₁ (s.heap.objs.size+1) (cellsFrom (s.heap.objs.size+1) scope.names [])):
 Inv (zaV X N' scope (cellsFrom (s.heap.objs.size+1) scope.names []++cl) s.heap.objs.size s H fp) [] (zdy src σ) H {s with heap:=h₁,toks:=tk}:=by
 have hkind:(relabel scope X.env).kind= .function:=ok.kind
 have two:∀x c,(cellsFrom (s.heap.objs.size+1) scope.names []++cl).lookup x=some c->((x,c)∈cellsFrom (s.heap.objs.size+1) scope.names []/\s.heap.objs.size+1<=c/\h₁.IsCell c none/\scope.names.lookup x=some .cell)\/(X.env.cells.lookup x=some c/\c<s.heap.objs.size):=λx c e=>by
  rcases zeY e with e|⟨_,e⟩
  ·have m:=PySem.mem_of_lookup e
   refine .inl ⟨m,(okc.empty x c m).2,(okc.empty x c m).1,?_⟩
   rcases zbS _ _ _ m with z|z
   ·exact absurd z `Z2
   ·exact ok.celled _ z rfl
  ·exact .inr ⟨c1 x c e,let⟨_,ic⟩:=I.cell x c (c1 x c e);ic.lt⟩
 have ltno:∀{a b:Nat} {P:Prop},a<b->b+1<=a->P:=λ{a b P} p q=>absurd (Nat.lt_trans p (Nat.lt_of_succ_le q)) (Z1 _)
 refine⟨⟨I.ok.mod,hkind,I.ok.glob,I.ok.blt,K0 _,λx y c h1 h2=>?_,λx hx=>?_,λx c z e=>?_,I.ok.hd,I.ok.frames, .inl rfl,λb hb=>?_,I.bs,F1 I.ok.bsz I.sz,λb o e hb=>?_,λb hb z=>?_,I.stack,I.stkFree⟩,
  rfl,I.bare,Un.kept hk,⟨_,hn,λi x v h1 h2 h3=>?_⟩,λx c e=>?_,I.hok.fresh (K0 _),λx c e=>?_,λp hp=>absurd (show p∈([]:List (Addr×Obj))from hp) `Z2,I.hok.kept hk,?_⟩
 ·rcases two x c h1 with⟨a1,a2,_⟩|⟨a1,a2⟩<;>rcases two y c h2 with⟨b1,b2,_⟩|⟨b1,b2⟩
  ·exact name_of_addr okc.apart a1 b1
  ·exact ltno b2 a2
  ·exact ltno a2 b2
  ·exact I.ok.inj x y c a1 b1
 ·have hx':(relabel scope X.env).names.lookup x=some .cell\/(relabel scope X.env).names.lookup x=some .free:=hx
  rw[zhx] at hx'
  show∃c,(cellsFrom (s.heap.objs.size+1) scope.names []++cl).lookup x=some c
  rw[zdE]
  cases e:(cellsFrom (s.heap.objs.size+1) scope.names []).lookup x with
  |some c=>exact ⟨c,rfl⟩
  |none=>
   cases hl:scope.names.lookup x with
   |none=>rw[hl] at hx';rcases hx' with z|z<;>cases z
   |some k=>
    have hm:=PySem.mem_of_lookup hl
    cases k with
    |free=>exact c2 _ hm rfl
    |cell=>
     have:=W.cellsFrom_some scope.names (s.heap.objs.size+1) [] (.inl hl)
     rw[e] at this;cases this
    |_=>rw[hl] at hx';rcases hx' with z|z<;>cases z
 ·rcases two x c e with⟨_,a2,_⟩|⟨a1,a2⟩
  ·exact Nat.le_of_succ_le a2
  ·exfalso
   have z':scope.names.lookup x=some .cell:=by
    have:(scope.names.lookup x==some NameKind.cell)=true:=z
    simpa using this
   rcases zeY e with e|⟨e,_⟩
   ·exact ltno a2 (okc.empty x c (PySem.mem_of_lookup e)).2
   ·have:=W.cellsFrom_some scope.names (s.heap.objs.size+1) [] (.inl z')
    rw[e] at this;cases this
 ·obtain ⟨f0,f1,f2,f3,f4,f5⟩:=hf b hb
  refine⟨λz=>absurd (hlt b hb) (by rw[z];exact Z1 _),λx c e=>?_⟩
  rcases two x c e with⟨_,a2,_⟩|⟨a1,a2⟩
  ·rintro rfl
   exact ltno (hlt c hb) a2
  ·exact f4 x c a1
 ·obtain ⟨f0,f1,f2,f3,f4,f5⟩:=hf b hb
  rcases f3 with z|z
  ·exact I.ok.noex b o e z
  ·exact absurd (C1 (P0 e) (F1 I.ok.bsz z)) (Z1 _)
 ·obtain ⟨f0,f1,f2,f3,f4,f5⟩:=hf b hb
  rcases I0.mp (I.stkSub b z)with q|q
  ·exact f1 q
  ·exact f2 q
 ·have hi:∃j,src[i]?=some (some j)/\σ[j]?=some (some v):=by
   unfold zdy at h2
   rw[W0] at h2
   cases e:src[i]? with
   |none=>rw[e] at h2;cases h2
   |some o=>
    rw[e] at h2
    cases o with
    |none=>cases h2
    |some j=>
     refine⟨j,rfl,?_⟩
     have h2':(σ[j]?).join=some v:=A1 h2
     cases e2:σ[j]? with
     |none=>rw[e2] at h2';cases h2'
     |some w=>rw[e2] at h2';exact congrArg some h2'
  obtain⟨j,e1,e2⟩:=hi
  have hz:(some j,x)∈src.zip N':=by
   refine List.mem_iff_getElem?.mpr ⟨i,?_⟩
   rw[List.getElem?_zip_eq_some]
   exact⟨e1,h1⟩
  obtain⟨q1,q2⟩:=ok.src _ hz j `Z2
  have hfr:=PySem.mem_of_lookup q2
  have hk0:=ok.frees _ hfr rfl
  rw[←hsc] at hk0
  obtain⟨m,hns,hl⟩:=I.loc
  obtain⟨u,r,l⟩:=hl j x v q1 e2 (hk0.elim (λz=> .inr (.inl z)) λz=> .inr (.inr z))
  refine⟨u,r,?_⟩
  rcases l with⟨l1,_⟩|⟨_,c,l2,l3⟩
  ·exfalso
   have l1':X.env.scope.names.lookup x=some .local:=l1
   rcases hk0 with z|z
   ·rw[l1'] at z;cases z
   ·rw[l1'] at z;cases z
  ·obtain ⟨d,hd⟩:=c2 _ hfr rfl
   have:d=c:=by
    have:=(c1 _ _ hd).symm.trans l2
    exact A1 this
   subst this
   obtain⟨o,ho,hod⟩:=l3
   refine .inr ⟨zfR q2,d,?_,o,hk _ _ ho,hod⟩
   show(cellsFrom (s.heap.objs.size+1) scope.names []++cl).lookup x=some d
   rw[zdE]
   cases e:(cellsFrom (s.heap.objs.size+1) scope.names []).lookup x with
   |none=>exact hd
   |some c'=>
    exfalso
    rcases zbS _ _ _ (PySem.mem_of_lookup e)with z|z
    ·exact absurd z `Z2
    ·have:=ok.celled _ z rfl
     rw[show scope.names.lookup x=some .free from q2] at this
     cases this
 ·rcases two x c e with⟨_,_,a3,_⟩|⟨a1,_⟩
  ·exact ⟨_,a3⟩
  ·obtain ⟨v,o,ho,hod⟩:=I.cell x c a1
   exact⟨v,o,hk _ _ ho,hod⟩
 ·rcases two x c e with⟨_,a2,_⟩|⟨a1,_⟩
  ·exact I.hok.fresh (Nat.le_of_succ_le a2)
  ·exact I.freeC x c a1
 ·show (zdy src σ).length=N'.length
  unfold zdy
  rw[B0]
  exact ok.len
theorem zkz(I:Inv X pins σ H s)(hf:∀b∈fp,zc4 X pins H b)(hC:s.heap.objs.size<=C)(J:Inv (zaV X N' scope cl C s H fp) [] σ' H' s')(hs:Heap.SameBut C s'.heap h'):
 Inv X pins σ H' {s' with heap:=h'}:=by
 have nC:∀b o,s.heap.get? b=some o->b≠C:=λb o e z=>absurd (C1 (P0 e) (by rw[z];exact hC)) (Z1 _)
 have B:Un (frs X.stack) fp H H' s.heap s'.heap:=J.base
 refine I.call' (ch:=fp) J.os ⟨λb o e n hb hx=>(hs.2 b (nC b o e)).trans (B.keep b o e n hb hx),λb o e n hb hx=>?_,B.free,λb o e hx=>?_,B.tups,B.frzs,B.tbls⟩ (λb ob e=>?_) J.bare λb hb=>?_
 ·obtain ⟨sl,e1⟩:=B.slot b o e n hb hx
  exact⟨sl,(hs.2 b (nC b o e)).trans e1⟩
 ·obtain ⟨o',e1⟩:=B.there b o e hx
  exact⟨o',(hs.2 b (nC b o e)).trans e1⟩
 ·refine (J.hok b ob e).stay (λc w' hc q=>(hs.2 c ?_).trans q) (λ_ q=>q) λ_ _ q=>q
  have hfree:H' C=none:=J.free
  rintro rfl
  rcases hc with rfl|hc
  ·rw[hfree] at e;cases e
  ·rw[hfree] at hc;cases hc
 ·obtain ⟨f0,f1,f2,f3,f4,f5⟩:=hf b hb
  exact⟨f3,f1,f4,f5⟩
end
section
variable{src:List (Option Nat)}
theorem zov(ok:CompOkC X.N osc N' src scope)(hsc:X.env.scope=osc)(hc:X.calm=true)(hi:PI X tg iter wi)
 (hg:∀cl C s₀ H₀ fp,PG (zaV X N' scope cl C s₀ H₀ fp) tg g) (ht:∀cl C s₀ H₀ fp,PIf (zaV X N' scope cl C s₀ H₀ fp) ifs tc) (he:∀cl C s₀ H₀ fp,PE (zaV X N' scope cl C s₀ H₀ fp) elt te)
 (hs:autoParam (∀x,foldedSetIterable iter X.env x=pure x) u5):PE X (.ListComp elt [⟨tg,iter,ifs,0⟩] scope pos) (ziA wi g tc te src):=by
 intro pins s σ H Q I h
 obtain⟨cl,hcl,c1,c2⟩:=zdv (scope:=scope) (env:=X.env) λy hy hyf=>I.ok.has y.1 (by
  have z:=ok.frees y hy hyf
  rw[←hsc] at z
  exact z)
 rw[eval_ListComp]
 refine wpAny_comprehension_free (use:=none) rfl hs hcl ok.kind ok.loc (thn (hi pins s σ H _ I h) λv s1 h1=>thn h1 λitv s2 h2=>?_)
 obtain⟨it,fp,tn,J,H2,e,I2,T,st2,f2,q2⟩:=h2
 subst e
 have hlt2:∀b∈fp,b<s2.heap.objs.size:=λb hb=>by
  obtain⟨o,e,_⟩:=T.obj _ _ st2 b hb
  exact P0 e
 refine wpAny_newObj_type ?_
 have hl:H2 s2.heap.objs.size=none:=I2.hok.fresh (K0 _)
 have I3:Inv X pins σ (upd H2 s2.heap.objs.size (.lst [])) {s2 with heap:=s2.heap.push {cls:= .type "list",dict:=none,data:= .seq ([]:List Value).toArray}}:=
  I2.laid (t':=s2.toks) (λb u e=>C0 _ e) (K0 _) ⟨X1 _,[],0, .nil,M0 _ rfl⟩
 obtain⟨W,⟨m0,w0⟩,turn⟩:=q2 _ hl
 generalize hl2:s2.heap.objs.size=l at *
 generalize hs3:({s2 with heap:=s2.heap.push {cls:= .type "list",dict:=none,data:= .seq ([]:List Value).toArray}}:Shared)=s3 at *
 have f3:∀b∈fp,zc4 X pins (upd H2 l (.lst [])) b:=λb hb=>⟨by rw[zn (R1 (hlt2 b hb))];exact(f2 b hb).1,(f2 b hb).2⟩
 have k3:∀b o,s2.heap.get? b=some o->s3.heap.get? b=some o:=λb o e=>by rw[←hs3];exact C0 _ e
 have hlt3:∀b∈fp,b<s3.heap.objs.size:=λb hb=>by
  obtain⟨o,e,_⟩:=T.obj _ _ st2 b hb
  exact P0 (k3 b o e)
 refine znl λh₁ hns₁ k4' okc=>?_
 have k4:∀b o,s3.heap.get? b=some o->h₁.get? b=some o:=k4'
 have J0:=zky (tk:=s3.toks) I3 f3 hlt3 ok hsc c1 c2 hns₁ k4 okc
 have st4:tn 0 h₁:=T.keep _ _ _ st2 λb hb o e=>k4 b o (k3 b o e)
 generalize hC:s3.heap.objs.size=C at *
 have stat:∀{H':Hp},(∀b∈fp,H' b=none)->∀b∈fp,zc4 (zaV X N' scope (cellsFrom (C+1) scope.names []++cl) C s3 (upd H2 l (.lst [])) fp) [] H' b:=λ{H'} hn b hb=>
  ⟨hn b hb,(J0.ok.exf b hb).1,J0.ok.exfs b hb, .inl hb,(J0.ok.exf b hb).2,λp hp=>absurd (show p∈([]:List (Addr×Obj))from hp) `Z2⟩
 have loop:codeAny (model X.prog X.w) X.A (.compLoop (.ListComp elt [⟨tg,iter,ifs,0⟩] scope pos) 0 (.ref it) (.ref l) (compEnvC scope (cellsFrom (C+1) scope.names []++cl) C X.env))
  (compPost (model X.prog X.w) X.A X.xe none (EP X pins σ Q) (.ref l) C) {s3 with heap:=h₁,toks:=s3.toks}:=by
  refine zdt (λn s'=>∃i ys σ' H',Inv (zaV X N' scope (cellsFrom (C+1) scope.names []++cl) C s3 (upd H2 l (.lst [])) fp) [] σ' H' s'/\tn i s'.heap/\(∀b∈fp,H' b=none)/\H' l=some (.lst ys)/\W i n ys σ' H') ?_ m0
   ⟨0,[],_,_,J0,st4,λb hb=>(f3 b hb).1,upd_same,w0⟩
  rintro n s5 ⟨i,ys,σ5,H5,I5,st5,fr5,hl5,w5⟩
  rcases turn i n ys σ5 H5 w5 hl5 with⟨stop,qn⟩|⟨go,N,hN,step⟩
  ·refine thn (T.done (zaV X N' scope (cellsFrom (C+1) scope.names []++cl) C s3 (upd H2 l (.lst [])) fp) rfl rfl rfl hc i [] s5 σ5 H5 (λ_ _=>False) I5 (stat fr5) st5 stop) λr s6 ⟨hr,I6⟩=>?_
   subst hr
   obtain⟨m,hn,_⟩:=I6.loc
   exact⟨m,hn,λh' hsb=>⟨.ref l,H5,zkz I3 f3 (by rw[←hC];exact K0 _) I6 hsb,rfl,qn⟩⟩
  ·refine thn (T.item (zaV X N' scope (cellsFrom (C+1) scope.names []++cl) C s3 (upd H2 l (.lst [])) fp) rfl rfl rfl hc i [] s5 σ5 H5 (λ_ _=>False) I5 (stat fr5) st5 go) λr s6 ⟨u,hr,h6⟩=>?_
   subst hr
   refine thn h6 λ_ s7 zq=>?_
   obtain⟨x,H7,I7,r7,y7,st7,fr7⟩:=zq
   have I7':=I7.pinned (stat fr7) (T.obj _ _ st7)
   refine thn (hg (cellsFrom (C+1) scope.names []++cl) C s3 _ fp _ s7 σ5 H7 x u _ I7' r7 (step x H7 y7)) λ_ s8 zq=>?_
   obtain⟨σ8,H8,I8,q8⟩:=zq
   refine thn (ht (cellsFrom (C+1) scope.names []++cl) C s3 _ fp _ s8 σ8 H8 _ I8 q8) λb s9 zq=>?_
   obtain⟨H9,I9,q9⟩:=zq
   have back:∀{s':Shared} {H':Hp},Inv (zaV X N' scope (cellsFrom (C+1) scope.names []++cl) C s3 (upd H2 l (.lst [])) fp) ([]++zb7 fp s7.heap) σ8 H' s'->tn (i+1) s'.heap/\∀b∈fp,H' b=none:=λ{s' H'} I'=>by
    refine⟨T.keep _ _ _ st7 λb hb o e=>(I'.pin (b,o) (S0 _ (S0 _ (z6 hb e)))).1,λb hb=>?_⟩
    obtain⟨o,e,d⟩:=T.obj _ _ st7 b hb
    exact(I'.pin (b,o) (S0 _ (S0 _ (z6 hb e)))).2.1
   cases b with
   |false=>
    obtain⟨hl9,n9⟩:=q9
    obtain⟨m',hm,w9⟩:=hN _ _ _ n9
    obtain⟨t9,fr9⟩:=back I9
    exact⟨m',hm,i+1,ys,σ8,H9,I9.unpinned,t9,fr9,hl9,w9⟩
   |true=>
    refine thn (he (cellsFrom (C+1) scope.names []++cl) C s3 _ fp _ s9 σ8 H9 _ I9 q9) λxv s10 zq=>?_
    obtain⟨y,H10,I10,r10,hl10,hz,n10⟩:=zq
    obtain⟨m',hm,w10⟩:=hN _ _ _ n10
    refine thn (zau (X:=zaV X N' scope (cellsFrom (C+1) scope.names []++cl) C s3 (upd H2 l (.lst [])) fp) _ s10 σ8 H10 (.ref l) [y] (.ref l) [xv] (λv H'=>H'=upd H10 l (.lst (ys ++ [y]))) I10 rfl (.cons r10 .nil) ⟨l,ys,y,rfl,rfl,hl10,hz,rfl⟩) λ_ s11 ⟨_,H11,I11,_,e11⟩=>?_
    subst e11
    obtain⟨t11,fr11⟩:=back I11
    exact⟨m',hm,i+1,ys ++ [y],σ8,_,I11.unpinned,t11,fr11,upd_same,w10⟩
 exact codeAny_compStart_list loop (T.self _ 0 _ _ _ st4 loop)
theorem zqd(ok:CompOkC X.N osc N' src scope)(hsc:X.env.scope=osc)(hc:X.calm=true)(hi:QI X tg iter wi)
 (hg:∀cl C s₀ H₀ fp,QG (zaV X N' scope cl C s₀ H₀ fp) tg g) (ht:∀cl C s₀ H₀ fp,QF (zaV X N' scope cl C s₀ H₀ fp) ifs tc) (he:∀cl C s₀ H₀ fp,QE (zaV X N' scope cl C s₀ H₀ fp) elt te)
 (hs:autoParam (∀x,foldedSetIterable iter X.env x=pure x) u5):QE X (.ListComp elt [⟨tg,iter,ifs,0⟩] scope pos) (ziA wi g tc te src):=
 ⟨zov ok hsc hc hi.o (λcl C s₀ H₀ fp=>(hg cl C s₀ H₀ fp).o) (λcl C s₀ H₀ fp=>(ht cl C s₀ H₀ fp).o) (λcl C s₀ H₀ fp=>(he cl C s₀ H₀ fp).o) hs⟩
end
noncomputable def zby:D->List Str| .tup [.str w,a]=> [w,zbc a]|_=> []
noncomputable def zab:D->List Str| .tup [.str w,a]=>if w="not"then ("not":Str)::zby a else [w,zbc a]|_=> []
noncomputable def zbG:List D->List Str|[]=> []|c::cs=>("and":Str)::(zab c ++zbG cs)
noncomputable def ze5:List D->List Str|[]=> []|c::cs=>("if":Str)::(zab c ++zbG cs)
noncomputable def zcd(w h:Str)(tw:List Str)(cs:List D):List Str:=w::h::(tw ++ze5 cs)
def Wd(x:Str):Prop:=(32:Nat)∉x.cps.toList/\(10:Nat)∉x.cps.toList
theorem Wd.of(h:(x.cps.toList.all λc=>decide (c≠32)&&decide (c≠10))=true):Wd x:=by
 rw[T0] at h
 refine⟨λz=>?_,λz=>?_⟩<;>(have:=h _ z;revert this;decide)
theorem Wd.name(h:zm x=true):Wd x:=by
 unfold zm at h
 simp only[R0] at h
 have hl:=T0.mp h.1.2
 refine⟨λz=>?_,λz=>?_⟩<;>(have:=hl _ z;revert this;decide)
theorem zpZ:∀n∈List.range 1999,((zbv ((n:Int) -999)).cps.toList.all λc=>decide (33<=c)&&decide (c<=57))=true:=`Y2
theorem zo7{i:Int}(h1: -999<=i)(h2:i<=999):∀c∈(zbv i).cps.toList,33<=c/\c<=57:=by
 have:=zpZ (i+999).toNat (C2.mpr ())
 rw[show(((i+999).toNat:Nat):Int) -999=i by lia] at this
 intro c hc
 have:=T0.mp this c hc
 simp only[R0,decide_eq_true_eq] at this
 exact this
theorem Wd.num{i:Int}(h1: -999<=i)(h2:i<=999):Wd (zbv i):=by
 refine⟨λz=>?_,λz=>?_⟩<;>(have:=zo7 h1 h2 _ z;lia)
theorem zsJ{i:Int}(h1: -999<=i)(h2:i<=999):PyData.strOk (zbv i)=true:=by
 unfold PyData.strOk
 rw[Array.all_eq_true']
 intro c hc
 have:=zo7 h1 h2 c (by simpa using hc)
 exact D0 ()
theorem zpH{ws:List Str}(h:ws≠ [])(hw:∀x∈ws,Wd x):Txt.split (Str.join " " ws) " "=ws:=zht h λp hp=>(hw p hp).1
theorem zpv{rs:List Str}(h:rs≠ [])(hw:∀x∈rs,(10:Nat)∉x.cps.toList):Txt.split (Str.join "\n" rs) "\n"=rs:=zht h hw
theorem ziI:∀{ws:List Str},(∀x∈ws,Wd x)->(10:Nat)∉(Str.join " " ws).cps.toList
 |[],_=>by show(10:Nat)∉([]:List Nat);simp
 |[x],h=>(h x Q0).2
 |x::y::r,h=>by
  rw[zeG]
  intro z
  rcases G1.mp z with z|z
  ·rcases G1.mp z with z|z
   ·exact (h x Q0).2 z
   ·exact absurd z ⋯
  ·exact ziI (λw hw=>h w (N0 _ hw)) z
theorem zcu{s:Str}:∀{xs ys:List Str},xs≠ []->ys≠ []->Str.join s (xs ++ys)=Str.join s xs ++s ++Str.join s ys
 |[],_,h,_=>absurd rfl h
 |[x],[],_,h=>absurd rfl h
 |[x],y::ys,_,_=>rfl
 |x::z::xs,ys,_,h=>by
  have ih:=zcu (s:=s) (xs:=z::xs) (ys:=ys) `Z2 h
  have e:Str.join s (x::z::xs ++ys)=x ++s ++Str.join s (z::xs ++ys):=rfl
  rw[e,ih,zmx]
  simp only[zbn]
theorem ziV(h:zt d=true):zby d≠ []:=by
 obtain⟨x,e,rfl⟩:=zO d h
 exact List.cons_ne_nil _ _
theorem zls(h:zt d=true):Str.join " " (zby d)=zdb d:=by
 obtain⟨x,e,rfl⟩:=zO d h
 rfl
theorem zhz(h:zo d=true):zab d≠ []:=by
 obtain⟨x,e,rfl⟩:=zai d h
 show(if x="not"then ("not":Str)::zby e else [x,zbc e])≠ []
 split<;>exact List.cons_ne_nil _ _
theorem ziz(h:zo d=true):Str.join " " (zab d)=condT d:=by
 obtain⟨x,e,rfl⟩:=zai d h
 rw[zaE] at h
 show Str.join " " (if x="not"then ("not":Str)::zby e else [x,zbc e])=(if x="not"then "not "++zdb e else x ++" "++zbc e)
 split
 ·rename_i z
  rw[p0 z] at h
  have e1:=zcu (s:=" ") (xs:=[("not":Str)]) (ziV h|>λ_=>List.cons_ne_nil _ _) (ziV h)
  have e2:Str.join " " [("not":Str)]="not":=rfl
  rw[e2,zls h] at e1
  exact e1
 ·rfl
theorem zk3:∀{cs:List D} {c:D},zo c=true->(∀d∈cs,zo d=true)->Str.join " " (zab c ++zbG cs)=Str.join " and " ((c::cs).map condT)
 |[],c,h,_=>by
  show Str.join " " (zab c ++ [])=condT c
  rw[O1];exact ziz h
 |d::cs,c,h,hc=>by
  have ih:=zk3 (hc d Q0) λx hx=>hc x (N0 _ hx)
  have e1:zab c ++zbG (d::cs)=zab c ++([("and":Str)]++(zab d ++zbG cs)):=rfl
  have nz:zab d ++zbG cs≠ []:=λz=>zhz (hc d Q0) (List.append_eq_nil_iff.mp z).1
  rw[e1,zcu (zhz h) `Z2,zcu `Z2 nz,ih,ziz h]
  show _=condT c ++" and "++Str.join " and " (condT d::cs.map condT)
  have e2:(" and ":Str)=" "++("and"++" "):=`Y2
  have e3:Str.join " " [("and":Str)]="and":=rfl
  rw[e2,e3]
  simp only[zbn];rfl
theorem znt{w h:Str}(ht:tw≠ [])(hc:∀d∈cs,zo d=true):Str.join " " (zcd w h tw cs)=zbm w h (Str.join " " tw) (cs.map condT):=by
 have hd:Str.join " " (w::h::tw)=zce w h (Str.join " " tw):=by
  have e1:=zcu (s:=" ") (xs:=[w,h]) (ys:=tw) `Z2 ht
  have e2:Str.join " " [w,h]=w ++" "++h:=rfl
  rw[e2] at e1
  exact e1
 cases cs with
 |nil=>
  show Str.join " " (w::h::(tw ++ []))=zbm w h (Str.join " " tw) []
  rw[O1,hd];rfl
 |cons c cs=>
  have hcc:=hc c Q0
  have hcs:∀d∈cs,zo d=true:=λx hx=>hc x (N0 _ hx)
  have nz:zab c ++zbG cs≠ []:=λz=>zhz hcc (List.append_eq_nil_iff.mp z).1
  have e1:zcd w h tw (c::cs)=(w::h::tw)++([("if":Str)]++(zab c ++zbG cs)):=rfl
  rw[e1,zcu `Z2 `Z2,zcu `Z2 nz,zk3 hcc hcs,hd]
  unfold zbm
  rw[V0 `Z2]
  have e2:(" if ":Str)=" "++("if"++" "):=`Y2
  have e3:Str.join " " [("if":Str)]="if":=rfl
  rw[e2,e3]
  simp only[zbn]
theorem zoL{a:D}(h:zt (.tup [.str x,a])=true):Wd x/\Wd (zbc a):=by
 rcases zaa h with⟨rfl,i,rfl,h0,h9⟩|⟨hx,y,rfl,hy⟩
 ·exact ⟨.of ⋯, .num () ()⟩
 ·refine ⟨?_, .name hy⟩
  rcases za6 hx with rfl|rfl|rfl|rfl<;>exact .of ⋯
theorem zkF(h:zt d=true):∀x∈zby d,Wd x:=by
 obtain⟨y,e,rfl⟩:=zO d h
 intro x hx
 have hx:x∈ [y,zbc e]:=hx
 simp only[I0,U1,or_false] at hx
 rcases hx with rfl|rfl
 ·exact (zoL h).1
 ·exact (zoL h).2
theorem zmj(h:zo d=true):∀x∈zab d,Wd x:=by
 obtain⟨y,e,rfl⟩:=zai d h
 rw[zaE] at h
 intro x hx
 have hx:x∈(if y="not"then ("not":Str)::zby e else [y,zbc e]):=hx
 split at hx
 ·rename_i z
  rw[p0 z] at h
  rcases I0.mp hx with rfl|hx
  ·exact .of ⋯
  ·exact zkF h x hx
 ·rename_i z
  rw[V0 z] at h
  exact zkF h x hx
theorem zpE:∀{cs:List D},(∀d∈cs,zo d=true)->∀x∈zbG cs,Wd x
 |[],_,x,hx=>by cases hx
 |c::cs,h,x,hx=>by
  rcases I0.mp (show x∈("and":Str)::(zab c ++zbG cs)from hx)with rfl|hx
  ·exact .of ⋯
  ·rcases G1.mp hx with hx|hx
   ·exact zmj (h c Q0) x hx
   ·exact zpE (λd hd=>h d (N0 _ hd)) x hx
theorem zpz(h:∀d∈cs,zo d=true):∀x∈ze5 cs,Wd x:=by
 intro x hx
 cases cs with
 |nil=>cases hx
 |cons c cs=>
  rcases I0.mp (show x∈("if":Str)::(zab c ++zbG cs)from hx)with rfl|hx
  ·exact .of ⋯
  ·rcases G1.mp hx with hx|hx
   ·exact zmj (h c Q0) x hx
   ·exact zpE (λd hd=>h d (N0 _ hd)) x hx
theorem zra{w h:Str}(h1:Wd w)(h2:Wd h)(h3:∀x∈tw,Wd x)(hc:∀d∈cs,zo d=true):∀x∈zcd w h tw cs,Wd x:=by
 intro x hx
 rcases I0.mp hx with rfl|hx
 ·exact h1
 ·rcases I0.mp hx with rfl|hx
  ·exact h2
  ·rcases G1.mp hx with hx|hx
   ·exact h3 x hx
   ·exact zpz hc x hx
theorem zrp:∀n∈List.range 1999,([("and":Str),"if","not"].all λy=>decide (y≠zbv ((n:Int) -999)))=true:=`Y2
theorem zk4{i:Int}(h1: -999<=i)(h2:i<=999):zbv i≠"and"/\zbv i≠"if"/\zbv i≠"not":=by
 have:=zrp (i+999).toNat (C2.mpr ())
 rw[show(((i+999).toNat:Nat):Int) -999=i by lia] at this
 simp only[List.all_cons,List.all_nil,Bool.and_true,R0,decide_eq_true_eq] at this
 exact⟨Ne.symm this.1,Ne.symm this.2.1,Ne.symm this.2.2⟩
theorem zhw(h:zm y=true):y≠"and"/\y≠"if"/\y≠"not"/\y≠"never":=by
 refine⟨?_,?_,?_,?_⟩<;>(rintro rfl;revert h;decide +kernel)
theorem zmp{a:D}(h:zt (.tup [.str x,a])=true):(x≠"and"/\x≠"not")/\zbc a≠"and"/\zbc a≠"if":=by
 rcases zaa h with⟨rfl,i,rfl,h0,h9⟩|⟨hx,y,rfl,hy⟩
 ·have:=zk4 (i:=i) () ()
  exact⟨`Y2,this.1,this.2.1⟩
 ·have:=zhw hy
  refine⟨?_,this.1,this.2.1⟩
  rcases za6 hx with rfl|rfl|rfl|rfl<;>decide +kernel
theorem zhF(h:zo d=true):("and":Str)∉zab d:=by
 obtain⟨y,e,rfl⟩:=zai d h
 rw[zaE] at h
 intro hx
 have hx:("and":Str)∈(if y="not"then ("not":Str)::zby e else [y,zbc e]):=hx
 split at hx
 ·rename_i z
  rw[p0 z] at h
  obtain⟨y2,e2,rfl⟩:=zO e h
  have hn:=zmp h
  have hx:("and":Str)∈ [("not":Str),y2,zbc e2]:=hx
  simp only[I0,U1,or_false] at hx
  rcases hx with hx|hx|hx
  ·exact absurd hx `Y2
  ·exact hn.1.1 hx.symm
  ·exact hn.2.1 hx.symm
 ·rename_i z
  rw[V0 z] at h
  have hn:=zmp h
  simp only[I0,U1,or_false] at hx
  rcases hx with hx|hx
  ·exact hn.1.1 hx.symm
  ·exact hn.2.1 hx.symm
noncomputable def zba(mark:Str):List (List Str)->List Str->List (List Str)
 |ps,[]=>ps
 |ps,x::xs=>if x=mark then zba mark (ps ++ [[]]) xs else zba mark (ps.dropLast ++ [(ps.getLastD [])++ [x]]) xs
theorem zfb{mark:Str}:∀{xs:List Str} {ps:List (List Str)} {p:List Str} {ys:List Str},mark∉xs->zba mark (ps ++ [p]) (xs ++ys)=zba mark (ps ++ [p ++xs]) ys
 |[],ps,p,ys,_=>by rw[List.nil_append,O1]
 |x::xs,ps,p,ys,h=>by
  have hx:¬x=mark:=λz=>h (z▸Q0)
  show(if x=mark then _ else zba mark ((ps ++ [p]).dropLast ++ [((ps ++ [p]).getLastD [])++ [x]]) (xs ++ys))=_
  rw[V0 hx,List.dropLast_concat,List.getLastD_concat,zfb λz=>h (N0 _ z),V1];rfl
theorem ziN:∀{cs:List D} {ps:List (List Str)} {p:List Str},(∀d∈cs,zo d=true)->zba "and" (ps ++ [p]) (zbG cs)=ps ++ [p]++cs.map zab
 |[],ps,p,_=>by rw[List.map_nil,O1];rfl
 |c::cs,ps,p,h=>by
  have e:zba "and" (ps ++ [p]) (zbG (c::cs))=zba "and" ((ps ++ [p])++ [[]]) (zab c ++zbG cs):=p0 rfl
  rw[e,zfb (zhF (h c Q0)),List.nil_append,ziN λd hd=>h d (N0 _ hd),J1]
  simp only[V1,List.cons_append,List.nil_append]
theorem zlT{c:D}(h:∀d∈c::cs,zo d=true):zba "and" [[]] (zab c ++zbG cs)=(c::cs).map zab:=by
 have e:=zfb (mark:="and") (ps:=[]) (p:=[]) (ys:=zbG cs) (zhF (h c Q0))
 rw[List.nil_append,List.nil_append] at e
 rw[e]
 exact ziN (ps:=[]) λd hd=>h d (N0 _ hd)
theorem zqy:∀n∈List.range 1000,(decide (1<=(zbv (n:Int)).length)&&decide ((zbv (n:Int)).length<=3)&&(zbv (n:Int)).cps.toList.all (λc=>decide (48<=c)&&decide (c<=57))&&(decide (zbv (n:Int)="0")||decide ((zbv (n:Int)).cps.toList.head?≠some 48)))=true:=`Y2
theorem zpg:∀n∈List.range 1999,(decide (zbv ((n:Int) -999)≠"never")&&decide (zbv ((n:Int) -999)≠"-0")&&decide (Txt.removeprefix (zbv ((n:Int) -999)) "-"=zbv ((((n:Int) -999).natAbs:Nat):Int)))=true:=`Y2
def zr4(x:Str):Prop:=1<=x.length/\x.length<=3/\(∀c∈x.cps.toList,48<=c/\c<=57)/\(x="0"\/x.cps.toList.head?≠some 48)
theorem zkr(h:n<=999):zr4 (zbv (n:Int)):=by
 have:=zqy n (C2.mpr ())
 simp only[R0,Bool.or_eq_true,decide_eq_true_eq,T0] at this
 exact⟨this.1.1.1,this.1.1.2,this.1.2,this.2⟩
theorem zn3{i:Int}(h1: -999<=i)(h2:i<=999):zbv i≠"never"/\zbv i≠"-0"/\zr4 (Txt.removeprefix (zbv i) "-")/\PySem.intText? (zbv i)=some i/\(zbv i).length<=640:=by
 have:=zpg (i+999).toNat (C2.mpr ())
 rw[show(((i+999).toNat:Nat):Int) -999=i by lia] at this
 simp only[R0,decide_eq_true_eq] at this
 refine⟨this.1.1,this.1.2,?_,ziS (),F1 (zeg h1 h2) ⋯⟩
 rw[this.2]
 exact zkr ()
noncomputable def ztD(K:W.Frag)(n:Nat)(t:TGs):TG:=λv σ H Q=>∃a xs,v= .ref a/\SqL K H a xs/\xs.length=n/\t xs σ H Q
theorem zsK{t:TGs}(hc:X.calm=true)(h:PGs X es t)
 (hn:autoParam ((assignEach es X.env).length=n) y3) (hst:autoParam ((assignEach es X.env).findIdx? (·.1)=none) y3):PG X (.Tuple es k pos) (ztD X.K n t):=by
 intro pins s σ H v u Q I r hw
 obtain⟨a,xs,e1,hq,hl,hw⟩:=hw
 subst e1
 cases r
 obtain⟨its,rv,ht,hz⟩:=I.list hq
 rw[assign_Tuple]
 refine A0 (wpAny_standAt ?_)
 unfold unpack
 rw[hst,show(assignEach es X.env).length=its.toArray.size by simp[hn,←hl,rv.length]]
 refine A0 (wpAny_holding (W.kun_itemsOf (I.ok.hd hc) ht.isList λh' hx=>?_))
 have I1:Inv X pins σ H {s with heap:=h'}:=I.kept (t':=s.toks) λb o e=>hx b o (R1 (P0 e)) e
 exact h pins _ σ H xs _ Q I1 (by simpa using rv) hw
theorem ztH(n:Nat)(hc:X.calm=true)(h:QGs X es tgs)(hn:autoParam ((assignEach es X.env).length=n) y3)(hst:autoParam ((assignEach es X.env).findIdx? (·.1)=none) y3):QG X (.Tuple es k pos) (ztD X.K n tgs):=⟨zsK hc h.o hn hst⟩
section
variable{q:Str}{st:Stmt}{ps:List Str}
theorem erA(E:Er K x st)(X:K.In h)(G:h.Ns mainGlobals mg)
 (hb:∀(kV doc pm:Value) (an:Option Addr) (cdv ct:Value) (us:List Value),us.length=ps.length->bindArgs (W.fnOf x x (zbP st) (zbg st) (zc st) .none kV doc pm an cdv ct) ⟨us,[]⟩=pure (ps.zip us)):
 At K mg x st ps E.f9 (W.fnOf x x (zbP st) (zbg st) (zc st) .none E.kV9 E.dc9 E.pm9 E.an9 E.cd9 E.ct9):=
 ⟨zot E.l9 E.c9 E.k9,(zot E.l9 E.c9 E.k9).binds hb,W.mg_of X G E.a9,E.k9⟩
end
theorem zkI{xs:List Str}{vs:List Value}(h:TxV xs vs):Vals (xs.map V.str) vs/\vs.length=xs.length:=by
 induction h with
 |nil=>exact ⟨.nil,rfl⟩
 |cons h ih=>exact ⟨.cons ⟨_,rfl⟩ ih.1,by rw[Z0,Z0,ih.2]⟩
theorem erT{xs:List Str}(E:Et K x xs)(hl:xs.length<=sizeLine)(H:Hp):SqT K H E.f9 (xs.map V.str):=
 .inr ⟨_,_,E.n9,E.l9,rfl,rfl,by show E.us9.size<=sizeLine;rw[←Array.length_toList,(zkI E.d9).2];exact hl,(zkI E.d9).1⟩
noncomputable abbrev ziB:List Str:=["thing"]
noncomputable abbrev zaQ:List Str:=["thing"]
theorem znF:FnScope ziB zaQ (zc zeD):=`V2
noncomputable def zkB:Scope:={kind:= .function,names:=[(".0", .local),("sign", .local)],isGenerator:=false,isCoroutine:=false,more:=[]}
theorem zgz:CompOk ziB (zc zeD) ["sign"] [none] zkB:=⟨rfl,`Y2,`Y2,`Y2,`Y2,rfl,`Y2⟩
noncomputable abbrev zj4:List Str:=["thing"]
noncomputable abbrev zcT:List Str:=["thing"]
theorem zj5:FnScope zj4 zcT (zc zdU):=`V2
noncomputable abbrev zlz:List Str:=["thing","low","high"]
noncomputable abbrev zct:List Str:=["thing","low","high"]
theorem zll:FnScope zlz zct (zc ze9):=`V2
noncomputable abbrev zoz:List Str:=["thing","fewest","most"]
noncomputable abbrev zaP:List Str:=["thing","fewest","most"]
theorem zoi:FnScope zoz zaP (zc zhv):=`V2
noncomputable abbrev zgy:List Str:=["things"]
noncomputable abbrev zb3:List Str:=["things"]
theorem zkE:FnScope zgy zb3 (zc zcY):=`V2
noncomputable def zid:Scope:={kind:= .function,names:=[(".0", .local),("k", .local),("things", .free)],isGenerator:=false,isCoroutine:=false,more:=[]}
theorem zeN:CompOk zgy (zc zcY) ["k","things"] [none,some 0] zid:=⟨rfl,`Y2,`Y2,`Y2,`Y2,rfl,`Y2⟩
noncomputable abbrev zk0:List Str:=["thing","many"]
noncomputable abbrev zbr:List Str:=["thing","many"]
theorem zld:FnScope zk0 zbr (zc zeb):=`V2
noncomputable abbrev zgI:List Str:=["thing","word","about"]
noncomputable abbrev zbh:List Str:=["thing"]
theorem zb8:FnScope zgI zbh (zc zb6):=`V2
noncomputable abbrev znR:List Str:=["thing"]
noncomputable abbrev zev:List Str:=["thing"]
theorem znz:FnScope znR zev (zc zgf):=`V2
noncomputable abbrev zgv:List Str:=["thing"]
noncomputable abbrev zb5:List Str:=["thing"]
theorem zkq:FnScope zgv zb5 (zc zcU):=`V2
noncomputable def zhU:Scope:={kind:= .function,names:=[(".0", .local),("cond", .local),("is_cond", .globalImplicit)],isGenerator:=false,isCoroutine:=false,more:=[]}
theorem ze1:CompOk zgv (zc zcU) ["cond"] [none] zhU:=⟨rfl,`Y2,`Y2,`Y2,`Y2,rfl,`Y2⟩
noncomputable abbrev zm1:List Str:=["cond"]
noncomputable abbrev zbN:List Str:=["cond"]
theorem ziK:FnScope zm1 zbN (zc zf6):=`V2
noncomputable abbrev zlx:List Str:=["thing"]
noncomputable abbrev zdz:List Str:=["thing"]
theorem zlG:FnScope zlx zdz (zc ze6):=`V2
noncomputable abbrev zgF:List Str:=["thing"]
noncomputable abbrev zcN:List Str:=["thing"]
theorem zk6:FnScope zgF zcN (zc zc1):=`V2
noncomputable def zih:Scope:={kind:= .function,names:=[(".0", .local),("cond", .local),("asks_to", .globalImplicit)],isGenerator:=false,isCoroutine:=false,more:=[]}
theorem zeU:CompOk zgF (zc zc1) ["cond"] [none] zih:=⟨rfl,`Y2,`Y2,`Y2,`Y2,rfl,`Y2⟩
noncomputable abbrev zoP:List Str:=["thing"]
noncomputable abbrev zd5:List Str:=["thing"]
theorem zoH:FnScope zoP zd5 (zc zhH):=`V2
noncomputable abbrev znE:List Str:=["thing"]
noncomputable abbrev zeB:List Str:=["thing"]
theorem zn7:FnScope znE zeB (zc zf9):=`V2
noncomputable abbrev zfA:List Str:=["thing"]
noncomputable abbrev zcn:List Str:=["thing"]
theorem zi6:FnScope zfA zcn (zc zcm):=`V2
noncomputable def zhp:Scope:={kind:= .function,names:=[(".0", .local),("name", .local),("is_name", .globalImplicit)],isGenerator:=false,isCoroutine:=false,more:=[]}
theorem zdV:CompOk zfA (zc zcm) ["name"] [none] zhp:=⟨rfl,`Y2,`Y2,`Y2,`Y2,rfl,`Y2⟩
noncomputable abbrev zln:List Str:=["houses","thing"]
noncomputable abbrev zcD:List Str:=["houses","thing"]
theorem zlk:FnScope zln zcD (zc zfi):=`V2
noncomputable abbrev zpb:List Str:=["houses","thing"]
noncomputable abbrev zfS:List Str:=["houses","thing"]
theorem zpX:FnScope zpb zfS (zc zhG):=`V2
noncomputable abbrev zhm:List Str:=["houses","thing"]
noncomputable abbrev zdJ:List Str:=["houses","thing"]
theorem zlr:FnScope zhm zdJ (zc zdM):=`V2
noncomputable def zjX:Scope:={kind:= .function,names:=[(".0", .local),("pair", .local),("is_tie", .globalImplicit),("houses", .free)],isGenerator:=false,isCoroutine:=false,more:=[]}
theorem zfo:CompOk zhm (zc zdM) ["pair","houses"] [none,some 0] zjX:=⟨rfl,`Y2,`Y2,`Y2,`Y2,rfl,`Y2⟩
noncomputable abbrev zeR:List Str:=["thing"]
noncomputable abbrev zbR:List Str:=["thing"]
theorem zie:FnScope zeR zbR (zc zbQ):=`V2
noncomputable def zgL:Scope:={kind:= .function,names:=[(".0", .local),("rule", .local),("is_liking", .globalImplicit)],isGenerator:=false,isCoroutine:=false,more:=[]}
theorem zdR:CompOk zeR (zc zbQ) ["rule"] [none] zgL:=⟨rfl,`Y2,`Y2,`Y2,`Y2,rfl,`Y2⟩
noncomputable abbrev zgw:List Str:=["thing"]
noncomputable abbrev zc3:List Str:=["thing"]
theorem zke:FnScope zgw zc3 (zc zcS):=`V2
noncomputable def zhT:Scope:={kind:= .function,names:=[(".0", .local),("rule", .local),("is_hand", .globalImplicit)],isGenerator:=false,isCoroutine:=false,more:=[]}
theorem zeS:CompOk zgw (zc zcS) ["rule"] [none] zhT:=⟨rfl,`Y2,`Y2,`Y2,`Y2,rfl,`Y2⟩
noncomputable abbrev zfW:List Str:=["thing","goal","houses","ties","likings","hands","many"]
noncomputable abbrev zew:List Str:=["thing"]
theorem zbJ:FnScope zfW zew (zc zdj):=`V2
noncomputable def zkm:Scope:={kind:= .function,names:=[(".0", .local),("rules", .local),("are_likings", .globalImplicit)],isGenerator:=false,isCoroutine:=false,more:=[]}
theorem zgp:CompOk zfW (zc zdj) ["rules"] [none] zkm:=⟨rfl,`Y2,`Y2,`Y2,`Y2,rfl,`Y2⟩
noncomputable def zk5:Scope:={kind:= .function,names:=[(".0", .local),("rules", .local),("are_hands", .globalImplicit)],isGenerator:=false,isCoroutine:=false,more:=[]}
theorem zgC:CompOk zfW (zc zdj) ["rules"] [none] zk5:=⟨rfl,`Y2,`Y2,`Y2,`Y2,rfl,`Y2⟩
noncomputable abbrev zfD:List Str:=["word","most"]
noncomputable abbrev zbA:List Str:=["word","most"]
theorem zjW:FnScope zfD zbA (zc zck):=`V2
noncomputable def zhu:Scope:={kind:= .function,names:=[(".0", .local),("sign", .local)],isGenerator:=false,isCoroutine:=false,more:=[]}
theorem zdX:CompOk zfD (zc zck) ["sign"] [none] zhu:=⟨rfl,`Y2,`Y2,`Y2,`Y2,rfl,`Y2⟩
noncomputable abbrev zgB:List Str:=["words"]
noncomputable abbrev zbV:List Str:=["words"]
theorem zkO:FnScope zgB zbV (zc zcH):=`V2
noncomputable def zh1:Scope:={kind:= .function,names:=[(".0", .local),("word", .local),("is_name", .globalImplicit)],isGenerator:=false,isCoroutine:=false,more:=[]}
theorem ze3:CompOk zgB (zc zcH) ["word"] [none] zh1:=⟨rfl,`Y2,`Y2,`Y2,`Y2,rfl,`Y2⟩
noncomputable abbrev zpR:List Str:=["words","mark","parts","word"]
noncomputable abbrev zfM:List Str:=["words","mark"]
theorem zhQ:FnScope zpR zfM (zc zg5):=`V2
noncomputable abbrev zgM:List Str:=["words","word","about"]
noncomputable abbrev zbj:List Str:=["words"]
theorem zcc:FnScope zgM zbj (zc zcb):=`V2
noncomputable abbrev znd:List Str:=["words","told"]
noncomputable abbrev zeK:List Str:=["words"]
theorem ziT:FnScope znd zeK (zc zf4):=`V2
noncomputable abbrev zg4:List Str:=["words"]
noncomputable abbrev zdq:List Str:=["words"]
theorem zlO:FnScope zg4 zdq (zc zdD):=`V2
noncomputable def zjE:Scope:={kind:= .function,names:=[(".0", .local),("part", .local),("cond_in", .globalImplicit)],isGenerator:=false,isCoroutine:=false,more:=[]}
theorem zfJ:CompOk zg4 (zc zdD) ["part"] [none] zjE:=⟨rfl,`Y2,`Y2,`Y2,`Y2,rfl,`Y2⟩
noncomputable abbrev zkh:List Str:=["words"]
noncomputable abbrev zcX:List Str:=["words"]
theorem zkM:FnScope zkh zcX (zc zd0):=`V2
noncomputable abbrev znk:List Str:=["words"]
noncomputable abbrev zet:List Str:=["words"]
theorem znL:FnScope znk zet (zc zgk):=`V2
noncomputable abbrev zm6:List Str:=["words","end","told","conds"]
noncomputable abbrev zeI:List Str:=["words"]
theorem zeC:FnScope zm6 zeI (zc zgj):=`V2
noncomputable abbrev zpq:List Str:=["houses","words","told"]
noncomputable abbrev zfx:List Str:=["houses","words"]
theorem zk2:FnScope zpq zfx (zc zhA):=`V2
noncomputable abbrev znV:List Str:=["houses","rows","found","number","words","told"]
noncomputable abbrev zeL:List Str:=["houses","rows"]
theorem zde:FnScope znV zeL (zc zf8):=`V2
noncomputable abbrev zhk:List Str:=["told","kind","houses"]
noncomputable abbrev zdB:List Str:=["told","kind","houses"]
theorem zlB:FnScope zhk zdB (zc zdN):=`V2
noncomputable def zjN:Scope:={kind:= .function,names:=[(".0", .local),("place", .cell),("tuple", .globalImplicit),("kind", .free),("told", .free)],isGenerator:=false,isCoroutine:=false,more:=[]}
theorem zfl:CompOkC zhk (zc zdN) ["place","kind","told"] [none,some 1,some 0] zjN:=⟨rfl,`Y2,`Y2,`Y2,`Y2,rfl,`Y2⟩
noncomputable def zjU:Scope:={kind:= .function,names:=[(".0", .local),("at", .local),("rule", .local),("kind", .free),("place", .free)],isGenerator:=false,isCoroutine:=false,more:=[]}
noncomputable def zje:Scope:={kind:= .function,names:=[(".0", .local),("place", .cell),("tuple", .globalImplicit),("kind", .cell),("told", .cell)],isGenerator:=false,isCoroutine:=false,more:=[]}
theorem zdo:CompOk ["place","kind","told"] zje ["at","rule","kind","place"] [none,none,some 1,some 0] zjU:=⟨rfl,`Y2,`Y2,`Y2,`Y2,rfl,`Y2⟩
noncomputable abbrev zen:List Str:=["text","rows","goal","houses","told","ties","town"]
noncomputable abbrev zcP:List Str:=["text"]
theorem zbt:FnScope zen zcP (zc zb0):=`V2
noncomputable def zij:Scope:={kind:= .function,names:=[(".0", .local),("row", .local)],isGenerator:=false,isCoroutine:=false,more:=[]}
theorem ze4:CompOk zen (zc zb0) ["row"] [none] zij:=⟨rfl,`Y2,`Y2,`Y2,`Y2,rfl,`Y2⟩
noncomputable def zh9:Scope:={kind:= .function,names:=[(".0", .local),("at", .local),("pair", .local)],isGenerator:=false,isCoroutine:=false,more:=[]}
theorem zc5:CompOk zen (zc zb0) ["at","pair"] [none,none] zh9:=⟨rfl,`Y2,`Y2,`Y2,`Y2,rfl,`Y2⟩
noncomputable abbrev zkV:List Str:=["cond","word","about"]
noncomputable abbrev za4:List Str:=["cond"]
theorem zcJ:FnScope zkV za4 (zc zef):=`V2
noncomputable abbrev zgu:List Str:=["word","house","told","conds","asked"]
noncomputable abbrev zc0:List Str:=["word","house","told","conds"]
theorem zgH:FnScope zgu zc0 (zc zc2):=`V2
noncomputable def zig:Scope:={kind:= .function,names:=[(".0", .local),("cond", .local),("show_cond", .globalImplicit)],isGenerator:=false,isCoroutine:=false,more:=[]}
theorem zeZ:CompOk zgu (zc zc2) ["cond"] [none] zig:=⟨rfl,`Y2,`Y2,`Y2,`Y2,rfl,`Y2⟩
noncomputable abbrev zjl:List Str:=["worth"]
noncomputable abbrev zci:List Str:=["worth"]
theorem zjM:FnScope zjl zci (zc zdw):=`V2
noncomputable abbrev zcV:List Str:=["town","goal","houses","ties","likings","hands","rows"]
noncomputable abbrev zcI:List Str:=["town"]
theorem zam:FnScope zcV zcI (zc zbp):=`V2
noncomputable def zh2:Scope:={kind:= .function,names:=[(".0", .local),("one", .local),("other", .local)],isGenerator:=false,isCoroutine:=false,more:=[]}
theorem zda:CompOk zcV (zc zbp) ["one","other"] [none,none] zh2:=⟨rfl,`Y2,`Y2,`Y2,`Y2,rfl,`Y2⟩
noncomputable def zh6:Scope:={kind:= .function,names:=[(".0", .local),("house", .local),("rules", .local),("conds", .local),("worth", .local),("show_rule", .globalImplicit),("show_worth", .globalImplicit)],isGenerator:=false,isCoroutine:=false,more:=[]}
theorem zbf:CompOk zcV (zc zbp) ["house","rules","conds","worth"] [none,none,none,none] zh6:=⟨rfl,`Y2,`Y2,`Y2,`Y2,rfl,`Y2⟩
noncomputable def zh0:Scope:={kind:= .function,names:=[(".0", .local),("house", .local),("rules", .local),("conds", .local),("act", .local),("show_rule", .globalImplicit)],isGenerator:=false,isCoroutine:=false,more:=[]}
theorem zbd:CompOk zcV (zc zbp) ["house","rules","conds","act"] [none,none,none,none] zh0:=⟨rfl,`Y2,`Y2,`Y2,`Y2,rfl,`Y2⟩
noncomputable abbrev zkg:List Str:=["_law_script","_law_k","_law_cell"]
noncomputable abbrev zcG:List Str:=["_law_script","_law_k"]
theorem zd6:FnScope zkg zcG (zc zeo):=`V2
noncomputable abbrev zjZ:List Str:=["_law_hand_here","_law_many","_law_digit","_law_turn","_law_mixed","_law_odd"]
noncomputable abbrev zao:List Str:=["_law_hand_here","_law_many"]
theorem zbs:FnScope zjZ zao (zc zej):=`V2
noncomputable abbrev zku:List Str:=["_law_hand_here","_law_some"]
noncomputable abbrev zan:List Str:=["_law_hand_here","_law_some"]
theorem zj8:FnScope zku zan (zc zdT):=`V2
noncomputable abbrev zfr:List Str:=["_law_hand_here","_law_many","_law_letters","_law_first","_law_step","_law_names_here","_law_kept","_law_spot","_law_k"]
noncomputable abbrev zcj:List Str:=["_law_hand_here","_law_many"]
theorem zaz:FnScope zfr zcj (zc zcg):=`V2
noncomputable def zhg:Scope:={kind:= .function,names:=[(".0", .local),("_law_k", .local),("_law_first", .free),("_law_letters", .free),("_law_step", .free)],isGenerator:=false,isCoroutine:=false,more:=[]}
theorem zdW:CompOk zfr (zc zcg) ["_law_k","_law_first","_law_letters","_law_step"] [none,some 3,some 2,some 4] zhg:=⟨rfl,`Y2,`Y2,`Y2,`Y2,rfl,`Y2⟩
noncomputable abbrev zlc:List Str:=["_law_hand_here","_law_houses","_law_marks","_law_to","_law_way","_law_cond_here"]
noncomputable abbrev zcK:List Str:=["_law_hand_here","_law_houses","_law_marks","_law_to"]
theorem zaL:FnScope zlc zcK (zc zel):=`V2
noncomputable abbrev zfK:List Str:=["_law_hand_here","_law_houses","_law_marks","_law_to","_law_many"]
noncomputable abbrev zbF:List Str:=["_law_hand_here","_law_houses","_law_marks","_law_to"]
theorem zfG:FnScope zfK zbF (zc zco):=`V2
noncomputable def zhl:Scope:={kind:= .function,names:=[(".0", .local),("_law_k", .local),("_law_cond", .globalImplicit),("_law_hand_here", .free),("_law_houses", .free),("_law_marks", .free),("_law_to", .free)],isGenerator:=false,isCoroutine:=false,more:=[]}
theorem zee:CompOk zfK (zc zco) ["_law_k","_law_hand_here","_law_houses","_law_marks","_law_to"] [none,some 0,some 1,some 2,some 3] zhl:=⟨rfl,`Y2,`Y2,`Y2,`Y2,rfl,`Y2⟩
noncomputable abbrev zhB:List Str:=["_law_hand_here","_law_houses","_law_marks","_law_some","_law_k","_law_value"]
noncomputable abbrev zbC:List Str:=["_law_hand_here","_law_houses","_law_marks"]
theorem zbE:FnScope zhB zbC (zc zcF):=`V2
noncomputable abbrev zjk:List Str:=["_law_hand_here","_law_houses","_law_marks","_law_some","_law_k","_law_act"]
noncomputable abbrev zcf:List Str:=["_law_hand_here","_law_houses","_law_marks"]
theorem zch:FnScope zjk zcf (zc zdr):=`V2
noncomputable abbrev zkl:List Str:=["_law_hand_here","_law_houses","_law_more","_law_ties_here","_law_k","_law_a","_law_b"]
noncomputable abbrev zcL:List Str:=["_law_hand_here","_law_houses","_law_more"]
theorem zbu:FnScope zkl zcL (zc zea):=`V2
noncomputable abbrev zd9:List Str:=["_law_hand_here","_law_many","_law_names_here","_law_houses","_law_marks","_law_ties_here","_law_goal","_law_rising","_law_likings_here","_law_hands_here"]
noncomputable abbrev zcZ:List Str:=["_law_hand_here"]
theorem zal:FnScope zd9 zcZ (zc zb4):=`V2
noncomputable def zhZ:Scope:={kind:= .function,names:=[(".0", .local),("_law_house", .local),("_law_likings", .globalImplicit),("_law_hand_here", .free),("_law_marks", .free),("_law_names_here", .free)],isGenerator:=false,isCoroutine:=false,more:=[]}
theorem zeP:CompOk zd9 (zc zb4) ["_law_house","_law_hand_here","_law_marks","_law_names_here"] [none,some 0,some 4,some 2] zhZ:=⟨rfl,`Y2,`Y2,`Y2,`Y2,rfl,`Y2⟩
noncomputable def zh7:Scope:={kind:= .function,names:=[(".0", .local),("_law_house", .local),("_law_hands", .globalImplicit),("_law_hand_here", .free),("_law_marks", .free),("_law_names_here", .free)],isGenerator:=false,isCoroutine:=false,more:=[]}
theorem ze2:CompOk zd9 (zc zb4) ["_law_house","_law_hand_here","_law_marks","_law_names_here"] [none,some 0,some 4,some 2] zh7:=⟨rfl,`Y2,`Y2,`Y2,`Y2,rfl,`Y2⟩
noncomputable abbrev zf0:List Str:=["_law_cond_here"]
noncomputable abbrev z8:List Str:=["_law_cond_here"]
theorem zdn:FnScope zf0 z8 (zc zbL):=`V2
noncomputable abbrev zge:List Str:=["_law_word","_law_house","_law_told","_law_conds_here","_law_text","_law_k","_law_cond_here"]
noncomputable abbrev za5:List Str:=["_law_word","_law_house","_law_told","_law_conds_here"]
theorem zaH:FnScope zge za5 (zc zbI):=`V2
noncomputable abbrev zkX:List Str:=["_law_town_here","_law_goal","_law_houses","_law_ties_here","_law_likings_here","_law_hands_here","_law_rows_here","_law_pair","_law_house","_law_some","_law_conds_here","_law_value","_law_act"]
noncomputable abbrev zcQ:List Str:=["_law_town_here"]
theorem zJ:FnScope zkX zcQ (zc zd1):=`V2
noncomputable abbrev zgs:List Str:=["_law_found","_law_due"]
noncomputable abbrev za1:List Str:=["_law_found","_law_due"]
theorem zgE:FnScope zgs za1 (zc zcR):=`V2
noncomputable def zib:Scope:={kind:= .function,names:=[(".0", .local),("_law_one", .local),("_law_other", .local),("_law_same", .globalImplicit)],isGenerator:=false,isCoroutine:=false,more:=[]}
theorem zc7:CompOk zgs (zc zcR) ["_law_one","_law_other"] [none,none] zib:=⟨rfl,`Y2,`Y2,`Y2,`Y2,rfl,`Y2⟩
noncomputable abbrev ztU:List Str:=["_law_script","_law_ahead","_law_k","_law_hand_here","_law_town_here","_law_text","_law_told"]
noncomputable abbrev zpA:List Str:=["_law_script"]
theorem zgD:FnScope ztU zpA (zc zmR):=`V2
set_option genInjectivity false in
set_option genSizeOfSpec false in
set_option genSizeOf false in
structure Ev(K:W.Frag)(mg:Str->Option Value) where
 a_is_name:Addr
 d_is_name:FuncData
 is_name:At K mg "is_name" zeD zaQ a_is_name d_is_name
 a_is_number:Addr
 d_is_number:FuncData
 is_number:At K mg "is_number" zdU zcT a_is_number d_is_number
 a_is_whole:Addr
 d_is_whole:FuncData
 is_whole:At K mg "is_whole" ze9 zct a_is_whole d_is_whole
 a_is_row:Addr
 d_is_row:FuncData
 is_row:At K mg "is_row" zhv zaP a_is_row d_is_row
 a_is_rising:Addr
 d_is_rising:FuncData
 is_rising:At K mg "is_rising" zcY zb3 a_is_rising d_is_rising
 a_is_worded:Addr
 d_is_worded:FuncData
 is_worded:At K mg "is_worded" zeb zbr a_is_worded d_is_worded
 a_is_plain_cond:Addr
 d_is_plain_cond:FuncData
 is_plain_cond:At K mg "is_plain_cond" zb6 zbh a_is_plain_cond d_is_plain_cond
 a_is_cond:Addr
 d_is_cond:FuncData
 is_cond:At K mg "is_cond" zgf zev a_is_cond d_is_cond
 a_are_conds:Addr
 d_are_conds:FuncData
 are_conds:At K mg "are_conds" zcU zb5 a_are_conds d_are_conds
 a_asks_to:Addr
 d_asks_to:FuncData
 asks_to:At K mg "asks_to" zf6 zbN a_asks_to d_asks_to
 a_is_worth:Addr
 d_is_worth:FuncData
 is_worth:At K mg "is_worth" ze6 zdz a_is_worth d_is_worth
 a_is_liking:Addr
 d_is_liking:FuncData
 is_liking:At K mg "is_liking" zc1 zcN a_is_liking d_is_liking
 a_is_act:Addr
 d_is_act:FuncData
 is_act:At K mg "is_act" zhH zd5 a_is_act d_is_act
 a_is_hand:Addr
 d_is_hand:FuncData
 is_hand:At K mg "is_hand" zf9 zeB a_is_hand d_is_hand
 a_are_houses:Addr
 d_are_houses:FuncData
 are_houses:At K mg "are_houses" zcm zcn a_are_houses d_are_houses
 a_is_house:Addr
 d_is_house:FuncData
 is_house:At K mg "is_house" zfi zcD a_is_house d_is_house
 a_is_tie:Addr
 d_is_tie:FuncData
 is_tie:At K mg "is_tie" zhG zfS a_is_tie d_is_tie
 a_are_ties:Addr
 d_are_ties:FuncData
 are_ties:At K mg "are_ties" zdM zdJ a_are_ties d_are_ties
 a_are_likings:Addr
 d_are_likings:FuncData
 are_likings:At K mg "are_likings" zbQ zbR a_are_likings d_are_likings
 a_are_hands:Addr
 d_are_hands:FuncData
 are_hands:At K mg "are_hands" zcS zc3 a_are_hands d_are_hands
 a_is_town:Addr
 d_is_town:FuncData
 is_town:At K mg "is_town" zdj zew a_is_town d_is_town
 a_is_figures:Addr
 d_is_figures:FuncData
 is_figures:At K mg "is_figures" zck zbA a_is_figures d_is_figures
 a_all_names:Addr
 d_all_names:FuncData
 all_names:At K mg "all_names" zcH zbV a_all_names d_all_names
 a_parted:Addr
 d_parted:FuncData
 parted:At K mg "parted" zg5 zfM a_parted d_parted
 a_plain_cond_in:Addr
 d_plain_cond_in:FuncData
 plain_cond_in:At K mg "plain_cond_in" zcb zbj a_plain_cond_in d_plain_cond_in
 a_cond_in:Addr
 d_cond_in:FuncData
 cond_in:At K mg "cond_in" zf4 zeK a_cond_in d_cond_in
 a_conds_in:Addr
 d_conds_in:FuncData
 conds_in:At K mg "conds_in" zdD zdq a_conds_in d_conds_in
 a_worths_in:Addr
 d_worths_in:FuncData
 worths_in:At K mg "worths_in" zd0 zcX a_worths_in d_worths_in
 a_acts_in:Addr
 d_acts_in:FuncData
 acts_in:At K mg "acts_in" zgk zet a_acts_in d_acts_in
 a_rule_in:Addr
 d_rule_in:FuncData
 rule_in:At K mg "rule_in" zgj zeI a_rule_in d_rule_in
 a_row_in:Addr
 d_row_in:FuncData
 row_in:At K mg "row_in" zhA zfx a_row_in d_row_in
 a_rows_in:Addr
 d_rows_in:FuncData
 rows_in:At K mg "rows_in" zf8 zeL a_rows_in d_rows_in
 a_rules_in:Addr
 d_rules_in:FuncData
 rules_in:At K mg "rules_in" zdN zdB a_rules_in d_rules_in
 a_read_town:Addr
 d_read_town:FuncData
 read_town:At K mg "read_town" zb0 zcP a_read_town d_read_town
 a_show_cond:Addr
 d_show_cond:FuncData
 show_cond:At K mg "show_cond" zef za4 a_show_cond d_show_cond
 a_show_rule:Addr
 d_show_rule:FuncData
 show_rule:At K mg "show_rule" zc2 zc0 a_show_rule d_show_rule
 a_show_worth:Addr
 d_show_worth:FuncData
 show_worth:At K mg "show_worth" zdw zci a_show_worth d_show_worth
 a_show_town:Addr
 d_show_town:FuncData
 show_town:At K mg "show_town" zbp zcI a_show_town d_show_town
 a__law_hand:Addr
 d__law_hand:FuncData
 _law_hand:At K mg "_law_hand" zeo zcG a__law_hand d__law_hand
 a__law_take:Addr
 d__law_take:FuncData
 _law_take:At K mg "_law_take" zej zao a__law_take d__law_take
 a__law_pick:Addr
 d__law_pick:FuncData
 _law_pick:At K mg "_law_pick" zdT zan a__law_pick d__law_pick
 a__law_names:Addr
 d__law_names:FuncData
 _law_names:At K mg "_law_names" zcg zcj a__law_names d__law_names
 a__law_cond:Addr
 d__law_cond:FuncData
 _law_cond:At K mg "_law_cond" zel zcK a__law_cond d__law_cond
 a__law_conds:Addr
 d__law_conds:FuncData
 _law_conds:At K mg "_law_conds" zco zbF a__law_conds d__law_conds
 a__law_likings:Addr
 d__law_likings:FuncData
 _law_likings:At K mg "_law_likings" zcF zbC a__law_likings d__law_likings
 a__law_hands:Addr
 d__law_hands:FuncData
 _law_hands:At K mg "_law_hands" zdr zcf a__law_hands d__law_hands
 a__law_ties:Addr
 d__law_ties:FuncData
 _law_ties:At K mg "_law_ties" zea zcL a__law_ties d__law_ties
 a__law_town:Addr
 d__law_town:FuncData
 _law_town:At K mg "_law_town" zb4 zcZ a__law_town d__law_town
 a__law_cond_text:Addr
 d__law_cond_text:FuncData
 _law_cond_text:At K mg "_law_cond_text" zbL z8 a__law_cond_text d__law_cond_text
 a__law_rule_text:Addr
 d__law_rule_text:FuncData
 _law_rule_text:At K mg "_law_rule_text" zbI za5 a__law_rule_text d__law_rule_text
 a__law_rows:Addr
 d__law_rows:FuncData
 _law_rows:At K mg "_law_rows" zd1 zcQ a__law_rows d__law_rows
 a__law_same:Addr
 d__law_same:FuncData
 _law_same:At K mg "_law_same" zcR za1 a__law_same d__law_same
 a_law:Addr
 d_law:FuncData
 law:At K mg "law" zmR zpA a_law d_law
 v_LONGEST:Value
 m_LONGEST:mg "LONGEST"=some v_LONGEST
 r_LONGEST:RelV (.int 8) v_LONGEST
 v_MOST_CONDS:Value
 m_MOST_CONDS:mg "MOST_CONDS"=some v_MOST_CONDS
 r_MOST_CONDS:RelV (.int 4) v_MOST_CONDS
 v_LONGEST_ASKED:Value
 m_LONGEST_ASKED:mg "LONGEST_ASKED"=some v_LONGEST_ASKED
 r_LONGEST_ASKED:RelV (.int 99) v_LONGEST_ASKED
 v_GREATEST_WORTH:Value
 m_GREATEST_WORTH:mg "GREATEST_WORTH"=some v_GREATEST_WORTH
 r_GREATEST_WORTH:RelV (.int 999) v_GREATEST_WORTH
 v_MOST_HOUSES:Value
 m_MOST_HOUSES:mg "MOST_HOUSES"=some v_MOST_HOUSES
 r_MOST_HOUSES:RelV (.int 10) v_MOST_HOUSES
 v_MOST_RULES:Value
 m_MOST_RULES:mg "MOST_RULES"=some v_MOST_RULES
 r_MOST_RULES:RelV (.int 90) v_MOST_RULES
 v_MOST_FIGURES:Value
 m_MOST_FIGURES:mg "MOST_FIGURES"=some v_MOST_FIGURES
 r_MOST_FIGURES:RelV (.int 3) v_MOST_FIGURES
 a_TAKEN:Addr
 m_TAKEN:mg "TAKEN"=some (.ref a_TAKEN)
 t_TAKEN:∀H,SqT K H a_TAKEN [.str "if", .str "and", .str "not", .str "never"]
 a_NAMING:Addr
 m_NAMING:mg "NAMING"=some (.ref a_NAMING)
 t_NAMING:∀H,SqT K H a_NAMING [.str "by", .str "from", .str "to", .str "mark"]
 a_KINDS:Addr
 m_KINDS:mg "KINDS"=some (.ref a_KINDS)
 t_KINDS:∀H,SqT K H a_KINDS [.str "tie", .str "like", .str "hand"]
 y_KINDS:∃o,K.lookup a_KINDS=some o/\o.cls= .type "tuple"/\o.dict=none
 all:mg "all"=none
 any:mg "any"=none
 bool:mg "bool"=none
 enumerate:mg "enumerate"=none
 int:mg "int"=none
 isinstance:mg "isinstance"=none
 len:mg "len"=none
 list:mg "list"=none
 max:mg "max"=none
 min:mg "min"=none
 range:mg "range"=none
 sorted:mg "sorted"=none
 str:mg "str"=none
 tuple:mg "tuple"=none
 zip:mg "zip"=none
section
theorem zi1(Y:Ev K mg):FnOk P w K mg base CX0 1 Y.a_is_number Y.d_is_number zcT (zae zom):=by
 refine Y.is_number.fn.okQ zj5 (λvs H Q E h=>?_) `X2
 ·obtain ⟨v,d,rfl,_⟩:=h;rfl
 ·obtain ⟨v,d,rfl,hd,q⟩:=h
  obtain⟨t,ht,h1,h2,h3,h4⟩:=hd.isi (K:=K)
  have q:=q H (Same.refl H)
  refine⟨_,(zj (zw (zaO (zp zaI Y.isinstance zI (za (qv 0) (za (zga Y.int zdQ) zb))) (zbe (zol (zp zaI Y.isinstance zI (za (qv 0) (za (zga Y.bool zmV) zb)))))))),?_⟩
  refine⟨_,rfl,_,_,_,_,rfl,ht,h2,_,rfl,?_⟩
  refine zak (λe=>?_) (λe=>?_)
  ·refine ⟨_,rfl,_,_,_,_,rfl,ht,h3,_,rfl,?_⟩
   cases d<;>first|exact q|cases e
  ·cases d<;>first|exact q|exact absurd rfl e
noncomputable def zjc:Sp:=λvs H Q _=>∃v d lo hi,vs=[v, .int lo, .int hi]/\Rep H v d/\∀H',Same H H'->Q (.bl (zcs d lo hi)) H'
theorem zgo(Y:Ev K mg):FnOk P w K mg base CX0 2 Y.a_is_whole Y.d_is_whole zct zjc:=by
 have G_is_number:FnOk P w K mg base CX0 1 Y.a_is_number Y.d_is_number zcT (zae zom):=zi1 Y
 refine Y.is_whole.fn.okQ zll (λvs H Q E h=>?_) `X2
 ·obtain ⟨v,d,lo,hi,rfl,_⟩:=h;rfl
 ·obtain ⟨v,d,lo,hi,rfl,hd,q⟩:=h
  refine⟨_,(zj (zw (zaO (zf G_is_number `n3 Y.is_number.mg Y.is_number.kp Y.is_number.b .nil zi (za (qv 0) zb)) (zbe (zgT zgA zgA (qv 1) (qv 0) (qv 2)))))),?_⟩
  refine⟨_,rfl,v,d,rfl,hd,λH1 s1=>?_⟩
  have q:=q H1 s1
  refine⟨_,rfl,zak (λe=>?_) (λe=>?_)⟩
  ·cases hd with
   |int i=>
    refine⟨_,rfl,_,rfl,_,_,rfl,rfl,_,rfl,zak (λe1=>?_) (λe1=>?_)⟩
    ·refine ⟨_,rfl,_,_,rfl,rfl,?_⟩
     have:zcs (.int i) lo hi=decide (i<=hi):=by show(decide (lo<=i)&&decide (i<=hi))=_;rw[e1];rfl
     rw[this] at q;exact q
    ·have:zcs (.int i) lo hi=false:=by show(decide (lo<=i)&&decide (i<=hi))=_;rw[tru e1];rfl
     rw[this] at q;exact q
   |_=>cases e
  ·have:zcs d lo hi=false:=by cases d<;>first|rfl|exact absurd rfl e
   rw[this] at q;exact q
noncomputable def zeO:Sp:=λvs H Q _=>∃v d lo hi,vs=[v, .int lo, .int hi]/\Rep H v d/\∀H',Same H H'->Q (.bl (zW d lo hi)) H'
theorem za7(Y:Ev K mg):FnOk P w K mg base CX0 1 Y.a_is_row Y.d_is_row zaP zeO:=by
 refine Y.is_row.fn.okQ zoi (λvs H Q E h=>?_) `X2
 ·obtain ⟨v,d,lo,hi,rfl,_⟩:=h;rfl
 ·obtain ⟨v,d,lo,hi,rfl,hd,q⟩:=h
  have q:=q H (Same.refl H)
  obtain⟨t,ht,h1,h2,h3,h4⟩:=hd.isi (K:=K)
  refine⟨_,(zj (zw (zaO (zp zaI Y.isinstance zI (za (qv 0) (za (zga Y.tuple zX) zb))) (zbe (zgT zgA zgA (qv 1) (zp zH Y.len zaC (za (qv 0) zb)) (qv 2)))))),?_⟩
  refine⟨_,rfl,_,_,_,_,rfl,ht,h1,_,rfl,zak (λe=>?_) (λe=>?_)⟩
  ·cases hd with
   | @tup p vs ds hp l b r=>
     refine⟨_,rfl,_,rfl, .inl ⟨p,vs,rfl, .inr (.inl (.inl hp)),_,_,rfl,rfl,_,rfl,zak (λe1=>?_) (λe1=>?_)⟩⟩
     ·refine ⟨_,rfl,_,_,rfl,rfl,?_⟩
      have:zW (.tup ds) lo hi=decide ((vs.length:Int)<=hi):=by show(decide (lo<=(ds.length:Int))&&decide ((ds.length:Int)<=hi))=_;rw[←l,e1];rfl
      rw[this] at q;exact q
     ·have:zW (.tup ds) lo hi=false:=by show(decide (lo<=(ds.length:Int))&&decide ((ds.length:Int)<=hi))=_;rw[←l,tru e1];rfl
      rw[this] at q;exact q
   |_=>cases e
  ·have:zW d lo hi=false:=by cases d<;>first|rfl|exact absurd rfl e
   rw[this] at q;exact q
noncomputable def zfH:Sp:=λvs H Q _=>∃v d n,vs=[v, .int n]/\1<=n/\Rep H v d/\∀H',Same H H'->Q (.bl (z9 d n)) H'
theorem zdO(Y:Ev K mg):FnOk P w K mg base CX0 2 Y.a_is_worded Y.d_is_worded zbr zfH:=by
 have G_is_row:FnOk P w K mg base CX0 1 Y.a_is_row Y.d_is_row zaP zeO:=za7 Y
 refine Y.is_worded.fn.okQ zld (λvs H Q E h=>?_) `X2
 ·obtain ⟨v,d,n,rfl,_⟩:=h;rfl
 ·obtain ⟨v,d,n,rfl,hn,hd,q⟩:=h
  refine⟨_,(zj (zw (zaO (zf G_is_row `n3 Y.is_row.mg Y.is_row.kp Y.is_row.b .nil zi (za (qv 0) (za (qv 1) (za (qv 1) zb)))) (zbe (zp zaI Y.isinstance zI (za (zN zR (qv 0) ze) (za (zga Y.str zd2) zb))))))),?_⟩
  refine⟨_,rfl,_,rfl,_,rfl,v,d,n,n,rfl,hd,λH1 s1=>?_⟩
  have q:=q H1 s1
  have hd1:=hd.same s1
  refine⟨_,rfl,zak (λe=>?_) (λe=>?_)⟩
  ·have e0:=e
   unfold z9 at q
   rw[e] at q
   cases hd1 with
   | @tup p vs ds hp l b r=>
     match ds,vs,l with
     |[],_,_=>
      exfalso
      simp[zW] at e0
      lia
     |d0::ds,x::vs,l=>
      have h0:Rep H1 x d0:=r 0 x d0 rfl rfl
      obtain⟨t,ht,h1,h2,h3,h4⟩:=h0.isi (K:=K)
      refine⟨_,rfl,p,x::vs,0,x,rfl,rfl, .inl (.inl hp),at0,_,_,_,_,rfl,ht,h4,?_⟩
      cases d0<;>exact q
   |_=>cases e
  ·unfold z9 at q
   rw[tru e] at q;exact q
theorem zbo(Y:Ev K mg):FnOk P w K mg base CX0 1 Y.a_is_name Y.d_is_name zaQ (zae zD):=by
 refine Y.is_name.fn.okQ znF (λvs H Q E h=>?_) `X2
 ·obtain ⟨v,d,rfl,_⟩:=h;rfl
 ·obtain ⟨v,d,rfl,hd,q⟩:=h
  refine⟨_,(zh (zar (t_w (zdu (zaW (zay (zp zaI Y.isinstance zI (za (qv 0) (za (zga Y.str zd2) zb))))) (zdc (zaW (zmY zgA zgA ze (zp zH Y.len zaC (za (qv 0) zb)) (zbB Y.m_LONGEST Y.r_LONGEST)))))) (zj (zw zei)) zS)
   (zj (zw (zaO (zp (zav rfl) Y.all zca (za (zaB (src:=[none]) zgz rfl rfl (zrV (qv 0)) (λ_ _ _ _ _=>(zl 0 zgz.nd)) (λ_ _ _ _ _=>zaJ) (λ_ _ _ _ _=>(zgT zeF zeF zy (qv 0) zy))) zb)) (zbe (zbH zdL (qv 0) (zbB (v:= .ref Y.a_TAKEN) Y.m_TAKEN rfl))))))),?_⟩
  obtain⟨t,ht,_,_,_,h4⟩:=hd.isi (K:=K)
  refine⟨_,rfl,_,_,_,_,rfl,ht,h4,_,rfl,?_⟩
  cases hd with
  |str x hx=>
   have hz:x.length<=sizeLine:=Nat.le_of_lt (zE hx)
   refine⟨_,rfl, .inr ⟨x,rfl,hz,_,_,rfl,rfl,_,rfl,?_⟩⟩
   refine zak (λh1=>?_) (λh1=>?_)
   ·have h1':1<=x.length:=by
     have:=B1 h1
     lia
    refine⟨_,_,rfl,rfl,_,rfl,?_⟩
    cases h8:decide ((x.length:Int)<=8)with
    |false=>
     have e:zm x=false:=by
      have h8':=of_decide_eq_false h8
      have:decide (x.length<=8)=false:=G0 ()
      unfold zm
      rw[this]
      simp
     have q:=q H (Same.refl H)
     rw[zbx] at q
     rw[e] at q
     exact q
    |true=>
     have h8':x.length<=8:=by
      have:=B1 h8
      lia
     refine⟨_,rfl,x,rfl,?_⟩
     refine zaD zoF (λl i ys σ' H'=>(∃o,σ'=[o])/\ys=(x.cps.toList.take i).map (λc=>V.bl (zaM c))/\H'=upd H l (.lst ys)) ?_ (λ_ _ _ _ _ _ _=>trivial) ?_ ?_
     ·exact λl hl=>⟨⟨_,rfl⟩,rfl,rfl⟩
     ·rintro l i y ys σ' H' hl hi ⟨c,hc,rfl⟩ ⟨⟨o,rfl⟩,rfl,rfl⟩ hl'
      repeat (first|with_reducible_and_instances refine⟨_,rfl,?_⟩|refine⟨_,rfl,?_⟩|refine⟨_,_,rfl,rfl,?_⟩|refine⟨_,_,_,_,rfl,rfl,SqL.of (by assumption),rfl,?_⟩|refine⟨_,_,_,_,rfl,rfl,(by assumption),rfl,?_⟩|refine .inl ⟨_,rfl,?_⟩|refine .inr ⟨_,rfl,?_⟩|refine⟨(by first|assumption|decide|lia|exact few rfl|exact .inl ⟨⋯,⋯⟩|exact .inr ⟨⋯,⋯⟩|exact .inl ⟨(),()⟩|exact .inr ⟨(),()⟩|exact⟨(),()⟩),?_⟩)
      have hc':x.cps.toList[i]?=some c:=by simpa using hc
      have tk:(x.cps.toList.take i).map (λc=>V.bl (zaM c))++ [V.bl (zaM c)]=(x.cps.toList.take (i+1)).map (λc=>V.bl (zaM c)):=by
       rw[N1,hc']
       simp
      have ll:((x.cps.toList.take i).map (λc=>V.bl (zaM c))).length<sizeLine:=Nat.lt_of_le_of_lt (by rw[B0,K1];lia) (zE (n:=8) ⋯)
      rw[zuo]
      refine zak (λha=>⟨_,_,rfl,rfl,hl',ll,⟨_,rfl⟩,?_,zi8⟩) (λha=>⟨hl',ll,⟨_,rfl⟩,?_,zi8⟩)
      ·rw[zur,←tk]
       congr 2
       unfold zaM
       have ha':¬c<97:=by simpa using ha
       by_cases hq:122<c
       ·rw[D0 hq,G0 (show¬c<=122 by lia)];simp
       ·rw[G0 hq,D0 (show c<=122 by lia),D0 (show 97<=c by lia)];rfl
      ·rw[←tk]
       congr 2
       unfold zaM
       have ha':c<97:=by simpa using ha
       rw[G0 (show¬97<=c by lia)];rfl
     ·rintro l ys σ' H' hl ⟨⟨o,rfl⟩,rfl,rfl⟩ hl'
      have tk:(x.cps.toList.take x.length).map (λc=>V.bl (zaM c))=(x.cps.toList.map zaM).map V.bl:=by
       rw[List.take_of_length_le (by simp[Str.length]),List.map_map]
       rfl
      rw[tk] at hl'
      rw[tk]
      refine⟨l,_,rfl,SqL.of hl',_,rfl,?_⟩
      have sm:Same H (upd H l (.lst ((x.cps.toList.map zaM).map V.bl))):=Same.new hl
      have ea:(x.cps.toList.map zaM).all id=x.cps.toList.all zaM:=by rw[List.all_map];rfl
      rw[ea]
      refine zak (λhA=>?_) (λhA=>?_)
      ·refine ⟨_,rfl,Y.a_TAKEN,_,rfl, .inr (Y.t_TAKEN _),rfl,rfl,?_⟩
       have e:zm x=!inV (.str x) (zoG.map V.str):=by
        unfold zm inV
        rw[hA,D0 h1',D0 h8',List.any_map]
        simp only[Bool.true_and]
        congr 2
       have q:=q _ sm
       rw[zbx] at q
       rw[e] at q
       exact q
      ·have e:zm x=false:=by
        unfold zm
        have:x.cps.toList.all zaM=false:=by simpa using hA
        rw[this]
        simp
       have q:=q _ sm
       rw[zbx] at q
       rw[e] at q
       exact q
   ·have e:zm x=false:=by
     have h1':¬(1:Int)<=(x.length:Int):=λz=>h1 (D0 z)
     have:decide (1<=x.length)=false:=G0 ()
     unfold zm
     rw[this]
     simp
    have q:=q H (Same.refl H)
    rw[zbx] at q
    rw[e] at q
    exact⟨_,rfl,q⟩
  |_=>exact q H (Same.refl H)
theorem zgg(Y:Ev K mg):FnOk P w K mg base CX0 3 Y.a_is_plain_cond Y.d_is_plain_cond zbh (zae zt):=by
 have G_is_worded:FnOk P w K mg base CX0 2 Y.a_is_worded Y.d_is_worded zbr zfH:=zdO Y
 have G_is_whole:FnOk P w K mg base CX0 2 Y.a_is_whole Y.d_is_whole zct zjc:=zgo Y
 have G_is_name:FnOk P w K mg base CX0 1 Y.a_is_name Y.d_is_name zaQ (zae zD):=zbo Y
 refine Y.is_plain_cond.fn.okQ zb8 (λvs H Q E h=>?_) `X2
 ·obtain ⟨v,d,rfl,_⟩:=h;rfl
 ·obtain ⟨v,d,rfl,hd,q⟩:=h
  refine⟨_,(zh (zar (zaW (zay (zf G_is_worded `n3 Y.is_worded.mg Y.is_worded.kp Y.is_worded.b .nil zi (za (qv 0) (za ze zb))))) (zj (zw zei)) zS)
   (zh (zeT (qv 0) (zdi 2 rfl (zu (zl 1 zb8.nd) (zu (zl 2 zb8.nd) zaA))))
   (zh (zar (zM zaX (qv 1) zy) (zj (zw (zf G_is_whole `n3 Y.is_whole.mg Y.is_whole.kp Y.is_whole.b .nil zi (za (qv 2) (za ze (za (zbB Y.m_LONGEST_ASKED Y.r_LONGEST_ASKED) zb)))))) zS)
   (zj (zw (zaO (zbH zdh (qv 1) (zbB (v:= .ref Y.a_NAMING) Y.m_NAMING rfl)) (zbe (zf G_is_name `n3 Y.is_name.mg Y.is_name.kp Y.is_name.b .nil zi (za (qv 2) zb))))))))),?_⟩
  refine⟨_,rfl,v,d,2,rfl,⋯,hd,λH1 s1=>⟨_,rfl,?_⟩⟩
  have hd1:=hd.same s1
  cases hw:z9 d 2 with
  |false=>
   have q:=q H1 s1
   rw[zj2 hw] at q
   exact q
  |true=>
   obtain⟨x,e,rfl⟩:=zjz hw
   obtain⟨p,v0,v1,rfl,hp,r0,r1⟩:=hd1.of2
   cases r0 with
   |str _ hx=>
   refine⟨_,rfl,p,_,rfl, .inl (.inl hp),rfl,_,_,rfl,_,_,rfl,rfl,?_⟩
   refine⟨_,rfl,rfl,_,rfl,zak (λel=>?_) (λel=>?_)⟩
   ·have el':x="long":=by
     have:=B1 el
     exact V.str.inj this
    refine⟨_,rfl,v1,e,0,99,rfl,r1,λH2 s2=>?_⟩
    have q:=q H2 (s1.trans s2)
    rw[zcB] at q
    rw[p0 el'] at q
    exact q
   ·have el':¬x="long":=λz=>el (D0 (by rw[z]))
    refine⟨_,rfl,Y.a_NAMING,_,rfl, .inr (Y.t_NAMING _),rfl,rfl,_,rfl,zak (λen=>?_) (λen=>?_)⟩
    ·refine ⟨_,rfl,v1,e,rfl,r1,λH2 s2=>?_⟩
     have q:=q H2 (s1.trans s2)
     rw[zcB] at q
     rw[V0 el',ziC,en] at q
     exact q
    ·have q:=q H1 s1
     rw[zcB] at q
     rw[V0 el',ziC,tru en] at q
     exact q
theorem zl4(Y:Ev K mg):FnOk P w K mg base CX0 4 Y.a_is_cond Y.d_is_cond zev (zae zo):=by
 have G_is_worded:FnOk P w K mg base CX0 2 Y.a_is_worded Y.d_is_worded zbr zfH:=zdO Y
 have G_is_plain_cond:FnOk P w K mg base CX0 3 Y.a_is_plain_cond Y.d_is_plain_cond zbh (zae zt):=zgg Y
 refine Y.is_cond.fn.okQ znz (λvs H Q E h=>?_) `X2
 ·obtain ⟨v,d,rfl,_⟩:=h;rfl
 ·obtain ⟨v,d,rfl,hd,q⟩:=h
  refine⟨_,(zh (zar (t_w (zms (zay (zf G_is_worded `n3 Y.is_worded.mg Y.is_worded.kp Y.is_worded.b .nil zi (za (qv 0) (za ze zb)))) (zjV (zM zaX (zN zR (qv 0) ze) zy)))) (zj (zw (zf G_is_plain_cond `n3 Y.is_plain_cond.mg Y.is_plain_cond.kp Y.is_plain_cond.b .nil zi (za (zN zR (qv 0) ze) zb)))) zS)
   (zj (zw (zf G_is_plain_cond `n3 Y.is_plain_cond.mg Y.is_plain_cond.kp Y.is_plain_cond.b .nil zi (za (qv 0) zb))))),?_⟩
  refine⟨_,rfl,v,d,2,rfl,⋯,hd,λH1 s1=>⟨_,rfl,?_⟩⟩
  have hd1:=hd.same s1
  cases hw:z9 d 2 with
  |false=>
   refine⟨_,rfl,v,d,rfl,hd1,λH2 s2=>?_⟩
   have q:=q H2 (s1.trans s2)
   rw[zqN hw] at q
   rw[zj2 hw]
   exact q
  |true=>
   obtain⟨x,e,rfl⟩:=zjz hw
   obtain⟨p,v0,v1,rfl,hp,r0,r1⟩:=hd1.of2
   cases r0 with
   |str _ hx=>
   refine⟨_,rfl,p,_,0,_,rfl,rfl, .inl (.inl hp),at0,rfl,_,rfl,zak (λel=>?_) (λel=>?_)⟩
   ·have el':x="not":=V.str.inj (B1 el)
    refine⟨_,rfl,p,_,1,_,rfl,rfl, .inl (.inl hp),at1,v1,e,rfl,r1,λH2 s2=>?_⟩
    have q:=q H2 (s1.trans s2)
    rw[zaE] at q
    rw[p0 el'] at q
    exact q
   ·have el':¬x="not":=λz=>el (D0 (by rw[z]))
    refine⟨_,rfl,_,_,rfl,hd1,λH2 s2=>?_⟩
    have q:=q H2 (s1.trans s2)
    rw[zaE] at q
    rw[V0 el'] at q
    exact q
theorem zfu(Y:Ev K mg):FnOk P w K mg base CX0 5 Y.a_are_conds Y.d_are_conds zb5 (zae zad):=by
 have G_is_row:FnOk P w K mg base CX0 1 Y.a_is_row Y.d_is_row zaP zeO:=za7 Y
 have G_is_cond:FnOk P w K mg base CX0 4 Y.a_is_cond Y.d_is_cond zev (zae zo):=zl4 Y
 refine Y.are_conds.fn.okQ zkq (λvs H Q E h=>?_) `X2
 ·obtain ⟨v,d,rfl,_⟩:=h;rfl
 ·obtain ⟨v,d,rfl,hd,q⟩:=h
  refine⟨_,(zj (zw (zaO (zf G_is_row `n3 Y.is_row.mg Y.is_row.kp Y.is_row.b .nil zi (za (qv 0) (za ze (za (zbB Y.m_MOST_CONDS Y.r_MOST_CONDS) zb)))) (zbe (zp (zav rfl) Y.all zca (za (zaB (src:=[none]) ze1 rfl rfl (zb2 (qv 0)) (λ_ _ _ _ _=>(zl 0 ze1.nd)) (λ_ _ _ _ _=>zaJ) (λ_ _ _ _ _=>(zf G_is_cond `n3 Y.is_cond.mg Y.is_cond.kp Y.is_cond.b .nil zi (za (qv 0) zb)))) zb)))))),?_⟩
  refine⟨_,rfl,v,d,0,4,rfl,hd,λH1 s1=>⟨_,rfl,zak (λe=>?_) (λe=>?_)⟩⟩
  ·have hd1:=hd.same s1
   cases d with
   |tup ds=>
    obtain⟨p,vs,rfl,hp,r,b⟩:=hd1.ofT
    have h4:decide (ds.length<=4)=true:=by
     simp[zW] at e
     exact D0 ()
    refine⟨_,rfl,p,rfl,⟨vs, .inl (.inl hp)⟩,?_⟩
    refine zaY (g:=zo) (ok:=λH=>SqT K H p vs) zaT (λH' s=> .inl (.inl (s _ _ hp))) r b rfl (λx d H2 Q1 s2 rx _ q1=>?_) (λl H2 s2 _ hl=>?_)
    ·exact ⟨_,rfl,x,d,rfl,rx,q1⟩
    ·refine ⟨l,_,rfl,SqL.of hl,?_⟩
     have q:=q H2 (s1.trans s2)
     rw[zep] at q
     rw[h4,←za3] at q
     exact q
   |_=>cases e
  ·have q:=q H1 s1
   have:zad d=false:=by
    cases d with
    |tup ds=>
     have:decide (ds.length<=4)=false:=by
      simp[zW] at e
      exact G0 ()
     rw[zep,this];rfl
    |_=>rfl
   rw[this] at q
   exact q
noncomputable def zj1(c:D->Bool)(g:D->Bool):Sp:=λvs H Q _=>∃v d,vs=[v]/\Rep H v d/\c d=true/\∀H',Same H H'->Q (.bl (g d)) H'
theorem zfB{c g:D->Bool}(Y:Ev K mg)(G_asks_to:FnOk P w K mg base CX0 k Y.a_asks_to Y.d_asks_to zbN (zj1 c g))(c' g':D->Bool)
 (hc:∀d,c' d=true->∃x e,d= .tup [.str x,e]) (h1:∀x e,c' (.tup [.str x,e])=true->x="not"->c e=true/\g e=g' (.tup [.str x,e])) (h2:∀x e,c' (.tup [.str x,e])=true->¬x="not"->decide (V.str x=V.str "to")=g' (.tup [.str x,e])):
 FnOk P w K mg base CX0 (k+1) Y.a_asks_to Y.d_asks_to zbN (zj1 c' g'):=by
 refine Y.asks_to.fn.okQ ziK (λvs H Q E h=>?_) `X2
 ·obtain ⟨v,d,rfl,_⟩:=h;rfl
 ·obtain ⟨v,d,rfl,hd,hcd,q⟩:=h
  obtain⟨x,e,rfl⟩:=hc d hcd
  obtain⟨p,v0,v1,rfl,hp,r0,r1⟩:=hd.of2
  cases r0 with
  |str _ hx=>
  refine⟨_,(zh (zar (zM zaX (zN zR (qv 0) ze) zy) (zj (zw (zf G_asks_to hr Y.asks_to.mg Y.asks_to.kp Y.asks_to.b .nil zi (za (zN zR (qv 0) ze) zb)))) zS)
   (zj (zw (zbH zaX (zN zR (qv 0) ze) zy)))),?_⟩
  refine⟨_,rfl,p,_,0,_,rfl,rfl, .inl (.inl hp),at0,rfl,_,rfl,zak (λel=>?_) (λel=>?_)⟩
  ·obtain ⟨ce,ge⟩:=h1 x e hcd (V.str.inj (B1 el))
   refine⟨_,rfl,p,_,1,_,rfl,rfl, .inl (.inl hp),at1,v1,e,rfl,r1,ce,λH' s'=>?_⟩
   rw[ge]
   exact q H' s'
  ·have ge:=h2 x e hcd λz=>el (D0 (by rw[z]))
   refine⟨_,rfl,p,_,0,_,rfl,rfl, .inl (.inl hp),at0,rfl,?_⟩
   rw[ge]
   exact q H (Same.refl H)
theorem zpS(Y:Ev K mg):FnOk P w K mg base CX0 1 Y.a_asks_to Y.d_asks_to zbN (zj1 (λ_=>false) (λ_=>false)):=by
 refine Y.asks_to.fn.okQ ziK (λvs H Q E h=>?_) `X2
 ·obtain ⟨v,d,rfl,_,z,_⟩:=h;cases z
 ·obtain ⟨v,d,rfl,_,z,_⟩:=h;cases z
theorem zlo(Y:Ev K mg):FnOk P w K mg base CX0 3 Y.a_asks_to Y.d_asks_to zbN (zj1 zo zcy):=by
 refine zfB (c:=zt) (g:=zem) Y ?_ zo zcy zai ?_ ?_
 ·refine zfB Y (zpS Y) zt zem zO ?_ ?_
  ·intro x e h z
   subst z
   exact absurd h (by rw[zcp];exact Y0)
  ·intro x e _ _
   rw[zg8];rfl
 ·intro x e h z
  subst z
  exact⟨h,rfl⟩
 ·intro x e h z
  rw[zg8]
  show _=(if x="not"then zem e else decide (x="to"))
  rw[V0 z]
theorem zkY(Y:Ev K mg):FnOk P w K mg base CX0 3 Y.a_is_worth Y.d_is_worth zdz (zae zT):=by
 have G_is_whole:FnOk P w K mg base CX0 2 Y.a_is_whole Y.d_is_whole zct zjc:=zgo Y
 refine Y.is_worth.fn.okQ zlG (λvs H Q E h=>?_) `X2
 ·obtain ⟨v,d,rfl,_⟩:=h;rfl
 ·obtain ⟨v,d,rfl,hd,q⟩:=h
  refine⟨_,(zj (zw (ztk (zbH zed (qv 0) za9) (zbe (zf G_is_whole `n3 Y.is_whole.mg Y.is_whole.kp Y.is_whole.b .nil zi (za (qv 0) (za (zpG zhO (zbB Y.m_GREATEST_WORTH Y.r_GREATEST_WORTH)) (za (zbB Y.m_GREATEST_WORTH Y.r_GREATEST_WORTH) zb)))))))),?_⟩
  refine⟨_,rfl,rfl,_,rfl,zak (λe=>?_) (λe=>?_)⟩
  ·have e':v= .non:=B1 e
   subst e'
   cases hd
   exact q H (Same.refl H)
  ·have e':¬v= .non:=λz=>e (D0 z)
   refine⟨_,rfl,_,rfl,v,d,-999,999,rfl,hd,λH' s'=>?_⟩
   have q:=q H' s'
   cases hd<;>first|exact absurd rfl e'|exact q
theorem ziY(Y:Ev K mg):FnOk P w K mg base CX0 6 Y.a_is_liking Y.d_is_liking zcN (zae z7):=by
 have G_is_row:FnOk P w K mg base CX0 1 Y.a_is_row Y.d_is_row zaP zeO:=za7 Y
 have G_are_conds:FnOk P w K mg base CX0 5 Y.a_are_conds Y.d_are_conds zb5 (zae zad):=zfu Y
 have G_is_worth:FnOk P w K mg base CX0 3 Y.a_is_worth Y.d_is_worth zdz (zae zT):=zkY Y
 have G_asks_to:FnOk P w K mg base CX0 3 Y.a_asks_to Y.d_asks_to zbN (zj1 zo zcy):=zlo Y
 refine Y.is_liking.fn.okQ zk6 (λvs H Q E h=>?_) `X2
 ·obtain ⟨v,d,rfl,_⟩:=h;rfl
 ·obtain ⟨v,d,rfl,hd,q⟩:=h
  refine⟨_,(zh (zar (t_w (zdu (zaW (zay (zf G_is_row `n3 Y.is_row.mg Y.is_row.kp Y.is_row.b .nil zi (za (qv 0) (za ze (za ze zb)))))) (zdc (zaW (zay (zf G_are_conds `n3 Y.are_conds.mg Y.are_conds.kp Y.are_conds.b .nil zi (za (zN zR (qv 0) ze) zb))))))) (zj (zw zei)) zS)
   (zj (zw (zaO (zf G_is_worth `n3 Y.is_worth.mg Y.is_worth.kp Y.is_worth.b .nil zi (za (zN zR (qv 0) ze) zb)) (zbe (zol (zp (znQ rfl) Y.any zsS (za (zaB (src:=[none]) zeU rfl rfl (zb2 (zN zR (qv 0) ze)) (λ_ _ _ _ _=>(zl 0 zeU.nd)) (λ_ _ _ _ _=>zaJ) (λ_ _ _ _ _=>(zf G_asks_to `n3 Y.asks_to.mg Y.asks_to.kp Y.asks_to.b .nil zi (za (qv 0) zb)))) zb)))))))),?_⟩
  refine⟨_,rfl,v,d,2,2,rfl,hd,λH1 s1=>⟨_,rfl,?_⟩⟩
  have hd1:=hd.same s1
  cases hw:zW d 2 2 with
  |false=>
   have q:=q H1 s1
   rw[zm5 hw] at q
   exact q
  |true=>
   obtain⟨c,e,rfl⟩:=zq8 hw
   obtain⟨p,v0,v1,rfl,hp,r0,r1⟩:=hd1.of2
   refine⟨_,rfl,p,_,0,_,rfl,rfl, .inl (.inl hp),at0,v0,c,rfl,r0,λH2 s2=>⟨_,rfl,?_⟩⟩
   cases hcs:zad c with
   |false=>
    have q:=q H2 (s1.trans s2)
    rw[zes] at q
    rw[hcs] at q
    exact q
   |true=>
    refine⟨_,rfl,p,_,1,_,rfl,rfl, .inl (.inl (s2 _ _ hp)),at1,v1,e,rfl,r1.same s2,λH3 s3=>⟨_,rfl,zak (λe1=>?_) (λe1=>?_)⟩⟩
    ·cases c with
     |tup ds=>
      have r03:=(r0.same s2).same s3
      obtain⟨pc,vs,rfl,hpc,rc,bc⟩:=r03.ofT
      have hall:∀d∈ds,zo d=true:=by
       rw[zep] at hcs
       rw[R0,T0] at hcs
       exact hcs.2
      refine⟨_,rfl,p,_,0,_,rfl,rfl, .inl (.inl (s3 _ _ (s2 _ _ hp))),at0,pc,rfl,⟨vs, .inl (.inl hpc)⟩,?_⟩
      refine zaY (g:=zcy) (ok:=λH=>SqT K H pc vs) zaT (λH' s=> .inl (.inl (s _ _ hpc))) rc bc rfl (λx d H4 Q1 s4 rx hdm q1=>?_) (λl H4 s4 _ hl=>?_)
      ·exact ⟨_,rfl,x,d,rfl,rx,hall d hdm,q1⟩
      ·refine ⟨l,_,rfl,SqL.of hl,_,rfl,?_⟩
       have q:=q H4 (((s1.trans s2).trans s3).trans s4)
       rw[zes] at q
       rw[hcs,e1] at q
       have ea:zfE (.tup ds)=(ds.map zcy).any id:=by
        show ds.any zcy=_
        rw[List.any_map];rfl
       rw[ea] at q
       exact q
     |_=>cases hcs
    ·have q:=q H3 ((s1.trans s2).trans s3)
     rw[zes] at q
     rw[hcs,tru e1] at q
     exact q
theorem ziE(Y:Ev K mg):FnOk P w K mg base CX0 3 Y.a_is_act Y.d_is_act zd5 (zae zZ):=by
 have G_is_worded:FnOk P w K mg base CX0 2 Y.a_is_worded Y.d_is_worded zbr zfH:=zdO Y
 have G_is_name:FnOk P w K mg base CX0 1 Y.a_is_name Y.d_is_name zaQ (zae zD):=zbo Y
 refine Y.is_act.fn.okQ zoH (λvs H Q E h=>?_) `X2
 ·obtain ⟨v,d,rfl,_⟩:=h;rfl
 ·obtain ⟨v,d,rfl,hd,q⟩:=h
  refine⟨_,(zh (zar (zay (zf G_is_worded `n3 Y.is_worded.mg Y.is_worded.kp Y.is_worded.b .nil zi (za (qv 0) (za ze zb)))) (zj (zw (zbH zaX (zN zR (qv 0) ze) zy))) zS)
   (zj (zw (zaO (zf G_is_worded `n3 Y.is_worded.mg Y.is_worded.kp Y.is_worded.b .nil zi (za (qv 0) (za ze zb))) (zaO (zbH zdh (zN zR (qv 0) ze) (zaf (za zy (za zy zb)))) (zbe (zf G_is_name `n3 Y.is_name.mg Y.is_name.kp Y.is_name.b .nil zi (za (zN zR (qv 0) ze) zb)))))))),?_⟩
  refine⟨_,rfl,v,d,1,rfl,⋯,hd,λH1 s1=>⟨_,rfl,?_⟩⟩
  have hd1:=hd.same s1
  cases hw:z9 d 1 with
  |true=>
   obtain⟨x,rfl⟩:=zrn hw
   obtain⟨p,v0,rfl,hp,r0⟩:=hd1.of1
   cases r0 with
   |str _ hx=>
   refine⟨_,rfl,p,_,0,_,rfl,rfl, .inl (.inl hp),at0,rfl,?_⟩
   have q:=q H1 s1
   have e:zZ (.tup [.str x])=decide (V.str x=V.str "keep"):=by rw[zg8];rfl
   rw[e] at q
   exact q
  |false=>
   refine⟨_,rfl,v,d,2,rfl,⋯,hd1,λH2 s2=>⟨_,rfl,zak (λew=>?_) (λew=>?_)⟩⟩
   ·obtain ⟨x,e,rfl⟩:=zjz ew
    obtain⟨p,v0,v1,rfl,hp,r0,r1⟩:=(hd1.same s2).of2
    cases r0 with
    |str _ hx=>
    refine⟨_,rfl,p,_,0,_,rfl,rfl, .inl (.inl hp),at0,⋯,λpt hpt=>⟨pt,_,rfl, .inr (.inl (.inl upd_same)),rfl,rfl,_,rfl,?_⟩⟩
    have es:(if false=true then !inV (V.str x) [V.str "put",V.str "strike"] else inV (V.str x) [V.str "put",V.str "strike"])=(decide (x="put")||decide (x="strike")):=zr3
    rw[es]
    have s3:Same H2 (upd H2 pt (.tup [V.str "put",V.str "strike"])):=Same.new hpt
    refine zak (λe1=>?_) (λe1=>?_)
    ·refine ⟨_,rfl,p,_,1,_,rfl,rfl, .inl (.inl (s3 _ _ hp)),at1,v1,e,rfl,r1.same s3,λH4 s4=>?_⟩
     have q:=q H4 (((s1.trans s2).trans s3).trans s4)
     rw[zl8] at q
     rw[e1] at q
     exact q
    ·have q:=q _ ((s1.trans s2).trans s3)
     rw[zl8] at q
     rw[tru e1] at q
     exact q
   ·have q:=q H2 (s1.trans s2)
    rw[zsw hw (tru ew)] at q
    exact q
theorem zl0(Y:Ev K mg):FnOk P w K mg base CX0 6 Y.a_is_hand Y.d_is_hand zeB (zae zaG):=by
 have G_is_row:FnOk P w K mg base CX0 1 Y.a_is_row Y.d_is_row zaP zeO:=za7 Y
 have G_are_conds:FnOk P w K mg base CX0 5 Y.a_are_conds Y.d_are_conds zb5 (zae zad):=zfu Y
 have G_is_act:FnOk P w K mg base CX0 3 Y.a_is_act Y.d_is_act zd5 (zae zZ):=ziE Y
 refine Y.is_hand.fn.okQ zn7 (λvs H Q E h=>?_) `X2
 ·obtain ⟨v,d,rfl,_⟩:=h;rfl
 ·obtain ⟨v,d,rfl,hd,q⟩:=h
  refine⟨_,(zj (zw (zaO (zf G_is_row `n3 Y.is_row.mg Y.is_row.kp Y.is_row.b .nil zi (za (qv 0) (za ze (za ze zb)))) (zaO (zf G_are_conds `n3 Y.are_conds.mg Y.are_conds.kp Y.are_conds.b .nil zi (za (zN zR (qv 0) ze) zb)) (zbe (zf G_is_act `n3 Y.is_act.mg Y.is_act.kp Y.is_act.b .nil zi (za (zN zR (qv 0) ze) zb))))))),?_⟩
  refine⟨_,rfl,v,d,2,2,rfl,hd,λH1 s1=>⟨_,rfl,zak (λhw=>?_) (λhw=>?_)⟩⟩
  ·obtain ⟨c,e,rfl⟩:=zq8 hw
   obtain⟨p,v0,v1,rfl,hp,r0,r1⟩:=(hd.same s1).of2
   refine⟨_,rfl,p,_,0,_,rfl,rfl, .inl (.inl hp),at0,v0,c,rfl,r0,λH2 s2=>⟨_,rfl,zak (λe1=>?_) (λe1=>?_)⟩⟩
   ·refine ⟨_,rfl,p,_,1,_,rfl,rfl, .inl (.inl (s2 _ _ hp)),at1,v1,e,rfl,r1.same s2,λH3 s3=>?_⟩
    have q:=q H3 ((s1.trans s2).trans s3)
    rw[zjt] at q
    rw[e1] at q
    exact q
   ·have q:=q H2 (s1.trans s2)
    rw[zjt] at q
    rw[tru e1] at q
    exact q
  ·have q:=q H1 s1
   rw[zqb (tru hw)] at q
   exact q
noncomputable def zlY:Sp:=λvs H Q _=>∃v ds,vs=[v]/\Rep H v (.tup ds)/\(ds.all zpI=true\/ds.all zgX=true)/\∀H',Same H H'->Q (.bl (zaF ds)) H'
theorem zfO(Y:Ev K mg):FnOk P w K mg base CX0 1 Y.a_is_rising Y.d_is_rising zb3 zlY:=by
 refine Y.is_rising.fn.okQ zkE (λvs H Q E h=>?_) `X2
 ·obtain ⟨v,ds,rfl,_⟩:=h;rfl
 ·obtain ⟨v,ds,rfl,hd,hk,q⟩:=h
  obtain⟨p,vs,rfl,hp,r,b⟩:=hd.ofT
  refine⟨_,(zj (zw (zp (zav rfl) Y.all zca (za (zaB (src:=[none,some 0]) zeN rfl rfl (zdF Y.range (za (zU zsi (zp zH Y.len zaC (za (qc 0) zb)) ze) zb)) (λ_ _ _ _ _=>(zl 0 zeN.nd)) (λ_ _ _ _ _=>zaJ) (λ_ _ _ _ _=>(zbH (zsx hr.units0) (zN (zmm (K:=K) rfl) (qc 1) (qv 0)) (zN (zmm (K:=K) rfl) (qc 1) (zU zaS (qv 0) ze))))) zb)))),?_⟩
  have hl:=r.1
  refine⟨_,rfl, .inl ⟨p,vs,rfl, .inr (.inl (.inl hp)),_,_,rfl,rfl,_,rfl,?_,?_,?_⟩⟩
  ·lia
  ·lia
  have e:((vs.length:Int) -1).toNat=ds.length -1:=()
  rw[e]
  refine zaD zc9 (λl i ys σ' H'=>(∃o,σ'=[o,some (.ref p)])/\ys=((List.range i).map λk=>ltD (ds.getD k .non) (ds.getD (k+1) .non)).map V.bl/\Same H H') ?_ (λ_ _ _ _ _ _ _=>trivial) ?_ ?_
  ·exact λl hl=>⟨⟨_,rfl⟩,rfl,Same.new hl⟩
  ·rintro l i y ys σ' H1 hl' hi rfl ⟨⟨o,rfl⟩,rfl,s1⟩ hl1
   have hi1:i+1<ds.length:=()
   obtain⟨v0,g0,r0⟩:=zmP r (show i<ds.length by lia)
   obtain⟨v1,g1,r1⟩:=zmP r hi1
   have hp1:=s1 _ _ hp
   have e0:atI vs (0+(i:Int))=some v0:=by rw[Int.zero_add];exact zbi g0
   have e1:atI vs (0+(i:Int)+1)=some v1:=by rw[Int.zero_add];exact zbi (j:=i+1) g1
   refine⟨_,rfl,_,rfl,p,vs,_,v0,rfl,rfl, .inl (.inl hp1),e0,_,rfl,_,rfl,_,_,rfl,rfl,p,vs,_,v1,rfl,rfl, .inl (.inl hp1),e1,?_⟩
   have fin:∀(b:Bool),b=ltD (ds.getD i .non) (ds.getD (i+1) .non)->H1 l=some (.lst (((List.range i).map λk=>ltD (ds.getD k .non) (ds.getD (k+1) .non)).map V.bl))/\(((List.range i).map λk=>ltD (ds.getD k .non) (ds.getD (k+1) .non)).map V.bl).length<sizeLine/\
    (∃o',[some (V.int (0+(i:Int))),some (.ref p)]=[o',some (V.ref p)])/\((List.range i).map λk=>ltD (ds.getD k .non) (ds.getD (k+1) .non)).map V.bl ++ [V.bl b]=((List.range (i+1)).map λk=>ltD (ds.getD k .non) (ds.getD (k+1) .non)).map V.bl/\
    Same H (upd H1 l (.lst (((List.range i).map λk=>ltD (ds.getD k .non) (ds.getD (k+1) .non)).map V.bl ++ [V.bl b]))):=λb hb=>by
    refine⟨hl1,?_,⟨_,rfl⟩,?_,?_⟩
    ·rw[B0,B0,List.length_range]
     exact zE ()
    ·rw[List.range_succ,U0,U0,hb];rfl
    ·exact λc o e=>by
      rw[zn (zB e hl')]
      exact s1 _ _ e
   rcases hk with hk|hk
   ·have k0:=T0.mp hk (ds.getD i .non) (by simp[List.getD,show i<ds.length by lia])
    have k1:=T0.mp hk (ds.getD (i+1) .non) (by simp[List.getD,hi1])
    generalize ds.getD i .non=d0 at *
    generalize ds.getD (i+1) .non=d1 at *
    cases r0 with
    |str x _=>cases r1 with
     |str y _=>exact .inl ⟨x,y,rfl,rfl,fin _ rfl⟩
     |_=>cases k1
    |_=>cases k0
   ·have k0:=T0.mp hk (ds.getD i .non) (by simp[List.getD,show i<ds.length by lia])
    have k1:=T0.mp hk (ds.getD (i+1) .non) (by simp[List.getD,hi1])
    generalize ds.getD i .non=d0 at *
    generalize ds.getD (i+1) .non=d1 at *
    obtain⟨a,b',rfl⟩:∃a b,d0= .tup [.str a, .str b]:=by
     unfold zgX at k0;split at k0
     ·exact ⟨_,_,rfl⟩
     ·cases k0
    obtain⟨c,d',rfl⟩:∃a b,d1= .tup [.str a, .str b]:=by
     unfold zgX at k1;split at k1
     ·exact ⟨_,_,rfl⟩
     ·cases k1
    obtain⟨q0,x0,x1,rfl,hq0,y0,y1⟩:=r0.of2
    obtain⟨q1,z0,z1,rfl,hq1,w0,w1⟩:=r1.of2
    cases y0 with|str _ _=>
    cases y1 with|str _ _=>
    cases w0 with|str _ _=>
    cases w1 with|str _ _=>
    exact .inr ⟨q0,q1,(a,b'),(c,d'),rfl,rfl,s1 _ _ hq0,s1 _ _ hq1,fin _ rfl⟩
  ·rintro l ys σ' H1 hl' ⟨⟨o,rfl⟩,rfl,s1⟩ hl1
   refine⟨l,_,rfl,SqL.of hl1,?_⟩
   rw[za3]
   exact q H1 s1
theorem zqs(h:ds.all zD=true):ds.all zpI=true:=by
 rw[T0] at h⊢
 intro d hd
 have:=h d hd
 cases d<;>first|rfl|exact this
theorem zh3(Y:Ev K mg):FnOk P w K mg base CX0 2 Y.a_are_houses Y.d_are_houses zcn (zae zap):=by
 have G_is_row:FnOk P w K mg base CX0 1 Y.a_is_row Y.d_is_row zaP zeO:=za7 Y
 have G_is_name:FnOk P w K mg base CX0 1 Y.a_is_name Y.d_is_name zaQ (zae zD):=zbo Y
 have G_is_rising:FnOk P w K mg base CX0 1 Y.a_is_rising Y.d_is_rising zb3 zlY:=zfO Y
 refine Y.are_houses.fn.okQ zi6 (λvs H Q E h=>?_) `X2
 ·obtain ⟨v,d,rfl,_⟩:=h;rfl
 ·obtain ⟨v,d,rfl,hd,q⟩:=h
  refine⟨_,(zj (zw (zaO (zf G_is_row `n3 Y.is_row.mg Y.is_row.kp Y.is_row.b .nil zi (za (qv 0) (za ze (za (zbB Y.m_MOST_HOUSES Y.r_MOST_HOUSES) zb)))) (zaO (zp (zav rfl) Y.all zca (za (zaB (src:=[none]) zdV rfl rfl (zb2 (qv 0)) (λ_ _ _ _ _=>(zl 0 zdV.nd)) (λ_ _ _ _ _=>zaJ) (λ_ _ _ _ _=>(zf G_is_name `n3 Y.is_name.mg Y.is_name.kp Y.is_name.b .nil zi (za (qv 0) zb)))) zb)) (zbe (zf G_is_rising `n3 Y.is_rising.mg Y.is_rising.kp Y.is_rising.b .nil zi (za (qv 0) zb))))))),?_⟩
  refine⟨_,rfl,v,d,1,10,rfl,hd,λH1 s1=>⟨_,rfl,zak (λe=>?_) (λe=>?_)⟩⟩
  ·have hd1:=hd.same s1
   cases d with
   |tup ds=>
    obtain⟨p,vs,rfl,hp,r,b⟩:=hd1.ofT
    have hrow:(decide (1<=ds.length)&&decide (ds.length<=10))=true:=by
     simp[zW] at e⊢
     lia
    refine⟨_,rfl,p,rfl,⟨vs, .inl (.inl hp)⟩,?_⟩
    refine zaY (g:=zD) (ok:=λH=>SqT K H p vs) zaT (λH' s=> .inl (.inl (s _ _ hp))) r b rfl (λx d H2 Q1 s2 rx _ q1=>⟨_,rfl,x,d,rfl,rx,q1⟩) (λl H2 s2 _ hl=>?_)
    refine⟨l,_,rfl,SqL.of hl,_,rfl,?_⟩
    rw[za3]
    refine zak (λen=>?_) (λen=>?_)
    ·refine ⟨_,rfl,_,ds,rfl,hd1.same s2, .inl (zqs en),λH3 s3=>?_⟩
     have q:=q H3 ((s1.trans s2).trans s3)
     have ea:zap (.tup ds)=zaF ds:=by
      show(decide (1<=ds.length)&&decide (ds.length<=10)&&ds.all zD&&zaF ds)=_
      rw[hrow,en];rfl
     rw[ea] at q
     exact q
    ·have q:=q H2 (s1.trans s2)
     have ea:zap (.tup ds)=false:=by
      show(decide (1<=ds.length)&&decide (ds.length<=10)&&ds.all zD&&zaF ds)=_
      rw[hrow,tru en];rfl
     rw[ea] at q
     exact q
   |_=>cases e
  ·have q:=q H1 s1
   have ea:zap d=false:=by
    cases d with
    |tup ds=>
     have hrow:(decide (1<=ds.length)&&decide (ds.length<=10))=false:=by
      cases hz:(decide (1<=ds.length)&&decide (ds.length<=10))with
      |false=>rfl
      |true=>
       exfalso
       simp[zW] at e hz
       lia
     show(decide (1<=ds.length)&&decide (ds.length<=10)&&ds.all zD&&zaF ds)=_
     rw[hrow];rfl
    |_=>rfl
   rw[ea] at q
   exact q
def HsAt(H:Hp)(v:V)(hs:List Str):Prop:=∃p,v= .ref p/\H p=some (.tup (hs.map V.str))/\hs.length<=10/\∀x∈hs,zm x=true
theorem HsAt.same(h:HsAt H v hs)(s:Same H H'):HsAt H' v hs:=let⟨p,e,g,r⟩:=h;⟨p,e,s _ _ g,r⟩
noncomputable def zjK:Sp:=λvs H Q _=>∃u v d hs,vs=[u,v]/\HsAt H u hs/\Rep H v d/\∀H',Same H H'->Q (.bl (zaj hs d)) H'
theorem zgq(Y:Ev K mg):FnOk P w K mg base CX0 2 Y.a_is_house Y.d_is_house zcD zjK:=by
 have G_is_name:FnOk P w K mg base CX0 1 Y.a_is_name Y.d_is_name zaQ (zae zD):=zbo Y
 refine Y.is_house.fn.okQ zlk (λvs H Q E h=>?_) `X2
 ·obtain ⟨u,v,d,hs,rfl,_⟩:=h;rfl
 ·obtain ⟨u,v,d,hs,rfl,⟨p,rfl,hp,hl,hn⟩,hd,q⟩:=h
  refine⟨_,(zj (zw (zaO (zf G_is_name `n3 Y.is_name.mg Y.is_name.kp Y.is_name.b .nil zi (za (qv 1) zb)) (zbe (zbH zdh (qv 1) (qv 0)))))),?_⟩
  refine⟨_,rfl,v,d,rfl,hd,λH1 s1=>⟨_,rfl,zak (λe=>?_) (λe=>?_)⟩⟩
  ·cases d with
   |str x=>
    cases hd
    refine⟨_,rfl,_,rfl,p,_,rfl, .inr (.inl (.inl (s1 _ _ hp))),rfl,zfU,?_⟩
    have q:=q H1 s1
    have ea:zaj hs (.str x)=inV (.str x) (hs.map V.str):=by
     show(zm x&&hs.any λy=>decide (y=x))=_
     rw[zq9,show zm x=true from e];rfl
    rw[ea] at q
    exact q
   |_=>cases e
  ·have q:=q H1 s1
   have ea:zaj hs d=false:=by
    show(zD d&&inD hs d)=false
    rw[tru e];rfl
   rw[ea] at q
   exact q
noncomputable def zrz:Sp:=λvs H Q _=>∃u v d hs,vs=[u,v]/\HsAt H u hs/\Rep H v d/\∀H',Same H H'->Q (.bl (zcq hs d)) H'
theorem znB(Y:Ev K mg):FnOk P w K mg base CX0 3 Y.a_is_tie Y.d_is_tie zfS zrz:=by
 have G_is_row:FnOk P w K mg base CX0 1 Y.a_is_row Y.d_is_row zaP zeO:=za7 Y
 have G_is_house:FnOk P w K mg base CX0 2 Y.a_is_house Y.d_is_house zcD zjK:=zgq Y
 refine Y.is_tie.fn.okQ zpX (λvs H Q E h=>?_) `X2
 ·obtain ⟨u,v,d,hs,rfl,_⟩:=h;rfl
 ·obtain ⟨u,v,d,hs,rfl,hu,hd,q⟩:=h
  refine⟨_,(zh (zar (zaW (zay (zf G_is_row `n3 Y.is_row.mg Y.is_row.kp Y.is_row.b .nil zi (za (qv 1) (za ze (za ze zb)))))) (zj (zw zei)) zS)
   (zj (zw (zaO (zf G_is_house `n3 Y.is_house.mg Y.is_house.kp Y.is_house.b .nil zi (za (qv 0) (za (zN zR (qv 1) ze) zb))) (zaO (zf G_is_house `n3 Y.is_house.mg Y.is_house.kp Y.is_house.b .nil zi (za (qv 0) (za (zN zR (qv 1) ze) zb))) (zbe (zbH zir (zN zR (qv 1) ze) (zN zR (qv 1) ze)))))))),?_⟩
  refine⟨_,rfl,v,d,2,2,rfl,hd,λH1 s1=>⟨_,rfl,?_⟩⟩
  cases hw:zW d 2 2 with
  |false=>
   have q:=q H1 s1
   have ea:zcq hs d=false:=by
    unfold zcq
    split
    ·simp[zW] at hw
    ·rfl
   rw[ea] at q
   exact q
  |true=>
   obtain⟨a,b,rfl⟩:=zq8 hw
   obtain⟨p,v0,v1,rfl,hp,r0,r1⟩:=(hd.same s1).of2
   have et:zcq hs (.tup [a,b])=(zaj hs a&&zaj hs b&&ltD a b):=rfl
   refine⟨_,rfl,_,rfl,p,_,0,_,rfl,rfl, .inl (.inl hp),at0,u,v0,a,hs,rfl,hu.same s1,r0,λH2 s2=>⟨_,rfl,zak (λe1=>?_) (λe1=>?_)⟩⟩
   ·refine ⟨_,rfl,_,rfl,p,_,1,_,rfl,rfl, .inl (.inl (s2 _ _ hp)),at1,u,v1,b,hs,rfl,(hu.same s1).same s2,r1.same s2,λH3 s3=>⟨_,rfl,zak (λe2=>?_) (λe2=>?_)⟩⟩
    ·have n1:zD a=true:=(R0 _ _▸(show(zD a&&inD hs a)=true from e1)).1
     have n2:zD b=true:=(R0 _ _▸(show(zD b&&inD hs b)=true from e2)).1
     cases a with
     |str x=>cases b with
      |str y=>
       cases r0
       cases r1
       have hp3:=s3 _ _ (s2 _ _ hp)
       refine⟨_,rfl,p,_,0,_,rfl,rfl, .inl (.inl hp3),at0,_,rfl,p,_,1,_,rfl,rfl, .inl (.inl hp3),at1,x,y,rfl,rfl,?_⟩
       have q:=q H3 ((s1.trans s2).trans s3)
       rw[et,e1,e2] at q
       exact q
      |_=>cases n2
     |_=>cases n1
    ·have q:=q H3 ((s1.trans s2).trans s3)
     rw[et,e1,tru e2] at q
     exact q
   ·have q:=q H2 (s1.trans s2)
    rw[et,tru e1] at q
    exact q
theorem zoQ(h:zcq hs d=true):zgX d=true:=by
 unfold zcq at h
 split at h
 ·rename_i a b
  rw[R0,R0] at h
  have n1:zD a=true:=by have:=h.1.1;unfold zaj at this;rw[R0] at this;exact this.1
  have n2:zD b=true:=by have:=h.1.2;unfold zaj at this;rw[R0] at this;exact this.1
  cases a with
  |str x=>cases b with
   |str y=>rfl
   |_=>cases n2
  |_=>cases n1
 ·cases h
noncomputable def zpo:Sp:=λvs H Q _=>∃u v d hs,vs=[u,v]/\HsAt H u hs/\Rep H v d/\∀H',Same H H'->Q (.bl (zbX hs d)) H'
theorem zjS{g:D->Bool}{ok:Hp->Prop}{src:List (Option Nat)}{Q:VK}(wk:Wk J vs.length (λi x=>vs[i]?=some x) ok)(hok:∀H',Same H H'->ok H')(r:RepL H vs ds)(hl:ds.length<=1000)(e:zdy src σ=none::σr)
 (he:∀(x:V) (d:D) (H1:Hp) (Q1:VK),Same H H1->Rep H1 x d->d∈ds->(∀H2,Same H1 H2->Q1 (.bl (g d)) H2)->te (some x::σr) H1 Q1)
 (q:∀l H',Same H H'->H l=none->H' l=some (.lst ((ds.map g).map V.bl))->Q (.ref l) H'):zdx (zb1 0) znO te src σ Q J H:=by
 refine zaD wk (λl i ys σ' H'=>(∃o,σ'=o::σr)/\ys=((ds.take i).map g).map V.bl/\Same H H') ?_ ?_ ?_ ?_
 ·exact λl h'=>⟨⟨none,e⟩,rfl,Same.new h'⟩
 ·exact λl i ys σ' H' _ p=>hok H' p.2.2
 ·rintro l i y ys σ' H1 h' hi hy ⟨⟨o,rfl⟩,rfl,s1⟩ hl'
  obtain⟨d,hd,rd⟩:=r.get hy
  refine he y d H1 _ s1 (rd.same s1) (L0 hd) λH2 s2=>?_
  refine⟨s2 _ _ hl',?_,⟨_,rfl⟩,?_,?_⟩
  ·rw[B0,B0,K1]
   exact zE ()
  ·rw[N1,hd]
   simp
  ·exact λc o e=>by
    rw[zn (zB e h')]
    exact s2 _ _ (s1 _ _ e)
 ·rintro l ys σ' H1 h' ⟨⟨o,rfl⟩,rfl,s1⟩ hl'
  rw[r.1,B2] at hl'
  exact q l H1 s1 h' hl'
theorem zkt(Y:Ev K mg):FnOk P w K mg base CX0 4 Y.a_are_ties Y.d_are_ties zdJ zpo:=by
 have G_is_tie:FnOk P w K mg base CX0 3 Y.a_is_tie Y.d_is_tie zfS zrz:=znB Y
 have G_is_rising:FnOk P w K mg base CX0 1 Y.a_is_rising Y.d_is_rising zb3 zlY:=zfO Y
 refine Y.are_ties.fn.okQ zlr (λvs H Q E h=>?_) `X2
 ·obtain ⟨u,v,d,hs,rfl,_⟩:=h;rfl
 ·obtain ⟨u,v,d,hs,rfl,hu,hd,q⟩:=h
  obtain⟨t,ht,h1,_,_,_⟩:=hd.isi (K:=K)
  refine⟨_,(zj (zw (zaO (zp zaI Y.isinstance zI (za (qv 1) (za (zga Y.tuple zX) zb))) (zaO (zp (zav rfl) Y.all zca (za (zaB (src:=[none,some 0]) zfo rfl rfl (zb2 (qv 1)) (λ_ _ _ _ _=>(zl 0 zfo.nd)) (λ_ _ _ _ _=>zaJ) (λ_ _ _ _ _=>(zf G_is_tie `n3 Y.is_tie.mg Y.is_tie.kp Y.is_tie.b .nil zi (za (qc 1) (za (qv 0) zb))))) zb)) (zbe (zf G_is_rising `n3 Y.is_rising.mg Y.is_rising.kp Y.is_rising.b .nil zi (za (qv 1) zb))))))),?_⟩
  refine⟨_,rfl,_,_,_,_,rfl,ht,h1,_,rfl,zak (λe=>?_) (λe=>?_)⟩
  ·cases d with
   |tup ds=>
    obtain⟨p,vs,rfl,hp,r,b⟩:=hd.ofT
    refine⟨_,rfl,p,rfl,⟨vs, .inl (.inl hp)⟩,?_⟩
    refine zjS (g:=zcq hs) (σr:=[some u]) (ok:=λH=>SqT K H p vs) zaT (λH' s=> .inl (.inl (s _ _ hp))) r b rfl (λx d H2 Q1 s2 rx _ q1=>⟨_,rfl,_,rfl,u,x,d,hs,rfl,hu.same s2,rx,q1⟩) (λl H2 s2 _ hl=>?_)
    refine⟨l,_,rfl,SqL.of hl,_,rfl,?_⟩
    rw[za3]
    have et:zbX hs (.tup ds)=(ds.all (zcq hs)&&zaF ds):=rfl
    refine zak (λen=>?_) (λen=>?_)
    ·refine ⟨_,rfl,_,ds,rfl,hd.same s2, .inr (T0.mpr λd hd=>zoQ (T0.mp en d hd)),λH3 s3=>?_⟩
     have q:=q H3 (s2.trans s3)
     rw[et,en] at q
     exact q
    ·have q:=q H2 s2
     rw[et,tru en] at q
     exact q
   |_=>cases e
  ·have q:=q H (Same.refl H)
   have et:zbX hs d=false:=by cases d<;>first|rfl|exact absurd rfl e
   rw[et] at q
   exact q
theorem zg3(Y:Ev K mg):FnOk P w K mg base CX0 7 Y.a_are_likings Y.d_are_likings zbR (zae zK):=by
 have G_is_row:FnOk P w K mg base CX0 1 Y.a_is_row Y.d_is_row zaP zeO:=za7 Y
 have G_is_liking:FnOk P w K mg base CX0 6 Y.a_is_liking Y.d_is_liking zcN (zae z7):=ziY Y
 refine Y.are_likings.fn.okQ zie (λvs H Q E h=>?_) `X2
 ·obtain ⟨v,d,rfl,_⟩:=h;rfl
 ·obtain ⟨v,d,rfl,hd,q⟩:=h
  refine⟨_,(zj (zw (zaO (zf G_is_row `n3 Y.is_row.mg Y.is_row.kp Y.is_row.b .nil zi (za (qv 0) (za ze (za (zbB Y.m_MOST_RULES Y.r_MOST_RULES) zb)))) (zbe (zp (zav rfl) Y.all zca (za (zaB (src:=[none]) zdR rfl rfl (zb2 (qv 0)) (λ_ _ _ _ _=>(zl 0 zdR.nd)) (λ_ _ _ _ _=>zaJ) (λ_ _ _ _ _=>(zf G_is_liking `n3 Y.is_liking.mg Y.is_liking.kp Y.is_liking.b .nil zi (za (qv 0) zb)))) zb)))))),?_⟩
  refine⟨_,rfl,v,d,0,90,rfl,hd,λH1 s1=>⟨_,rfl,zak (λe=>?_) (λe=>?_)⟩⟩
  ·have hd1:=hd.same s1
   cases d with
   |tup ds=>
    obtain⟨p,vs,rfl,hp,r,b⟩:=hd1.ofT
    have h90:decide (ds.length<=90)=true:=by
     simp[zW] at e
     exact D0 ()
    refine⟨_,rfl,p,rfl,⟨vs, .inl (.inl hp)⟩,?_⟩
    refine zaY (g:=z7) (ok:=λH=>SqT K H p vs) zaT (λH' s=> .inl (.inl (s _ _ hp))) r b rfl (λx d H2 Q1 s2 rx _ q1=>⟨_,rfl,x,d,rfl,rx,q1⟩) (λl H2 s2 _ hl=>?_)
    refine⟨l,_,rfl,SqL.of hl,?_⟩
    rw[za3]
    have q:=q H2 (s1.trans s2)
    have et:zK (.tup ds)=ds.all z7:=by
     show(decide (ds.length<=90)&&ds.all z7)=_
     rw[h90];rfl
    rw[et] at q
    exact q
   |_=>cases e
  ·have q:=q H1 s1
   have et:zK d=false:=by
    cases d with
    |tup ds=>
     have h90:decide (ds.length<=90)=false:=by
      simp[zW] at e
      exact G0 ()
     show(decide (ds.length<=90)&&ds.all z7)=_
     rw[h90];rfl
    |_=>rfl
   rw[et] at q
   exact q
theorem zjy(Y:Ev K mg):FnOk P w K mg base CX0 7 Y.a_are_hands Y.d_are_hands zc3 (zae zah):=by
 have G_is_row:FnOk P w K mg base CX0 1 Y.a_is_row Y.d_is_row zaP zeO:=za7 Y
 have G_is_hand:FnOk P w K mg base CX0 6 Y.a_is_hand Y.d_is_hand zeB (zae zaG):=zl0 Y
 refine Y.are_hands.fn.okQ zke (λvs H Q E h=>?_) `X2
 ·obtain ⟨v,d,rfl,_⟩:=h;rfl
 ·obtain ⟨v,d,rfl,hd,q⟩:=h
  refine⟨_,(zj (zw (zaO (zf G_is_row `n3 Y.is_row.mg Y.is_row.kp Y.is_row.b .nil zi (za (qv 0) (za ze (za (zbB Y.m_MOST_RULES Y.r_MOST_RULES) zb)))) (zbe (zp (zav rfl) Y.all zca (za (zaB (src:=[none]) zeS rfl rfl (zb2 (qv 0)) (λ_ _ _ _ _=>(zl 0 zeS.nd)) (λ_ _ _ _ _=>zaJ) (λ_ _ _ _ _=>(zf G_is_hand `n3 Y.is_hand.mg Y.is_hand.kp Y.is_hand.b .nil zi (za (qv 0) zb)))) zb)))))),?_⟩
  refine⟨_,rfl,v,d,0,90,rfl,hd,λH1 s1=>⟨_,rfl,zak (λe=>?_) (λe=>?_)⟩⟩
  ·have hd1:=hd.same s1
   cases d with
   |tup ds=>
    obtain⟨p,vs,rfl,hp,r,b⟩:=hd1.ofT
    have h90:decide (ds.length<=90)=true:=by
     simp[zW] at e
     exact D0 ()
    refine⟨_,rfl,p,rfl,⟨vs, .inl (.inl hp)⟩,?_⟩
    refine zaY (g:=zaG) (ok:=λH=>SqT K H p vs) zaT (λH' s=> .inl (.inl (s _ _ hp))) r b rfl (λx d H2 Q1 s2 rx _ q1=>⟨_,rfl,x,d,rfl,rx,q1⟩) (λl H2 s2 _ hl=>?_)
    refine⟨l,_,rfl,SqL.of hl,?_⟩
    rw[za3]
    have q:=q H2 (s1.trans s2)
    have et:zah (.tup ds)=ds.all zaG:=by
     show(decide (ds.length<=90)&&ds.all zaG)=_
     rw[h90];rfl
    rw[et] at q
    exact q
   |_=>cases e
  ·have q:=q H1 s1
   have et:zah d=false:=by
    cases d with
    |tup ds=>
     have h90:decide (ds.length<=90)=false:=by
      simp[zW] at e
      exact G0 ()
     show(decide (ds.length<=90)&&ds.all zaG)=_
     rw[h90];rfl
    |_=>rfl
   rw[et] at q
   exact q
theorem zt9(h:zW d 5 5=true):∃a b c e f,d= .tup [a,b,c,e,f]:=by
 cases d with
 |tup ds=>
  have hl:ds.length=5:=by
   simp[zW] at h
   lia
  match ds,hl with
  |[a,b,c,e,f],_=>exact ⟨a,b,c,e,f,rfl⟩
 |_=>cases h
theorem zkN(h:zap d=true):∃xs:List Str,d= .tup (xs.map D.str)/\xs.length<=10/\1<=xs.length/\∀x∈xs,zm x=true:=by
 cases d with
 |tup ds=>
  have h':(decide (1<=ds.length)&&decide (ds.length<=10)&&ds.all zD&&zaF ds)=true:=h
  simp only[R0,decide_eq_true_eq] at h'
  obtain⟨xs,rfl,hx⟩:=zhs h'.1.2
  exact⟨xs,rfl,by simpa using h'.1.1.2,by simpa using h'.1.1.1,hx⟩
 |_=>cases h
theorem zko:zW d n n=zdS d n:=by
 cases d with
 |tup ds=>
  show(decide ((n:Int)<=(ds.length:Int))&&decide ((ds.length:Int)<=(n:Int)))=decide (ds.length=n)
  by_cases h:ds.length=n
  ·rw[D0 h,D0 (),D0 ()];rfl
  ·rw[G0 h]
   by_cases h2:n<=ds.length
   ·rw[D0 (),G0 (show¬((ds.length:Int)<=(n:Int)) by lia)];rfl
   ·rw[G0 (show¬((n:Int)<=(ds.length:Int)) by lia)];rfl
 |_=>rfl
theorem ziD(h:zdS d n=true):∃ds,d= .tup ds:=by
 cases d<;>first|exact⟨_,rfl⟩|cases h
theorem zlL(Y:Ev K mg):FnOk P w K mg base CX0 8 Y.a_is_town Y.d_is_town zew (zae zer):=by
 have G_is_row:FnOk P w K mg base CX0 1 Y.a_is_row Y.d_is_row zaP zeO:=za7 Y
 have G_are_houses:FnOk P w K mg base CX0 2 Y.a_are_houses Y.d_are_houses zcn (zae zap):=zh3 Y
 have G_is_house:FnOk P w K mg base CX0 2 Y.a_is_house Y.d_is_house zcD zjK:=zgq Y
 have G_are_ties:FnOk P w K mg base CX0 4 Y.a_are_ties Y.d_are_ties zdJ zpo:=zkt Y
 have G_are_likings:FnOk P w K mg base CX0 7 Y.a_are_likings Y.d_are_likings zbR (zae zK):=zg3 Y
 have G_are_hands:FnOk P w K mg base CX0 7 Y.a_are_hands Y.d_are_hands zc3 (zae zah):=zjy Y
 refine Y.is_town.fn.okQ zbJ (λvs H Q E h=>?_) `X2
 ·obtain ⟨v,d,rfl,_⟩:=h;rfl
 ·obtain ⟨v,d,rfl,hd,q⟩:=h
  refine⟨_,(zh (zar (zaW (zay (zf G_is_row `n3 Y.is_row.mg Y.is_row.kp Y.is_row.b .nil zi (za (qv 0) (za ze (za ze zb)))))) (zj (zw zei)) zS)
   (zh (zeT (qv 0) (zdi 5 rfl (zu (zl 1 zbJ.nd) (zu (zl 2 zbJ.nd) (zu (zl 3 zbJ.nd) (zu (zl 4 zbJ.nd) (zu (zl 5 zbJ.nd) zaA)))))))
   (zh (zar (t_w (zdu (zaW (zay (zf G_are_houses `n3 Y.are_houses.mg Y.are_houses.kp Y.are_houses.b .nil zi (za (qv 2) zb)))) (zdu (zaW (zay (zf G_is_house `n3 Y.is_house.mg Y.is_house.kp Y.is_house.b .nil zi (za (qv 2) (za (qv 1) zb))))) (zdc (zaW (zay (zf G_are_ties `n3 Y.are_ties.mg Y.are_ties.kp Y.are_ties.b .nil zi (za (qv 2) (za (qv 3) zb))))))))) (zj (zw zei)) zS)
   (zh (zL 6 zbJ.nd (zp zH Y.len zaC (za (qv 2) zb)))
   (zh (zar (t_w (zdu (zaW (zay (zf G_is_row `n3 Y.is_row.mg Y.is_row.kp Y.is_row.b .nil zi (za (qv 4) (za (qv 6) (za (qv 6) zb)))))) (zdc (zaW (zay (zf G_is_row `n3 Y.is_row.mg Y.is_row.kp Y.is_row.b .nil zi (za (qv 5) (za (qv 6) (za (qv 6) zb))))))))) (zj (zw zei)) zS)
   (zj (zw (zaO (zp (zav rfl) Y.all zca (za (zaB (src:=[none]) zgp rfl rfl (zb2 (qv 4)) (λ_ _ _ _ _=>(zl 0 zgp.nd)) (λ_ _ _ _ _=>zaJ) (λ_ _ _ _ _=>(zf G_are_likings `n3 Y.are_likings.mg Y.are_likings.kp Y.are_likings.b .nil zi (za (qv 0) zb)))) zb)) (zbe (zp (zav rfl) Y.all zca (za (zaB (src:=[none]) zgC rfl rfl (zb2 (qv 5)) (λ_ _ _ _ _=>(zl 0 zgC.nd)) (λ_ _ _ _ _=>zaJ) (λ_ _ _ _ _=>(zf G_are_hands `n3 Y.are_hands.mg Y.are_hands.kp Y.are_hands.b .nil zi (za (qv 0) zb)))) zb))))))))))),?_⟩
  refine⟨_,rfl,v,d,5,5,rfl,hd,λH1 s1=>⟨_,rfl,?_⟩⟩
  cases hw:zW d 5 5 with
  |false=>
   have q:=q H1 s1
   have ea:zer d=false:=by
    unfold zer
    split
    ·simp[zW] at hw
    ·rfl
   rw[ea] at q
   exact q
  |true=>
   obtain⟨dg,dh,dt,dl,da,rfl⟩:=zt9 hw
   have et:zer (.tup [dg,dh,dt,dl,da])=(zap dh&&zaj (zbl dh) dg&&zbX (zbl dh) dt&&zdS dl (zbl dh).length&&zdS da (zbl dh).length&&zhW zK dl&&zhW zah da):=rfl
   obtain⟨p,x1,x2,x3,x4,x5,rfl,hp,r1,r2,r3,r4,r5⟩:=zsc (hd.same s1)
   refine⟨_,rfl,p,_,rfl, .inl (.inl hp),rfl,_,_,rfl,_,_,rfl,_,_,rfl,_,_,rfl,_,_,rfl,rfl,?_⟩
   refine⟨_,rfl,x2,dh,rfl,r2,λH2 s2=>⟨_,rfl,?_⟩⟩
   cases eh:zap dh with
   |false=>
    have q:=q H2 (s1.trans s2)
    rw[et,eh] at q
    exact q
   |true=>
    obtain⟨xs,rfl,hx10,hx1,hxn⟩:=zkN eh
    obtain⟨ph,rfl,hph⟩:=zfq (r2.same s2)
    rw[strs_map] at et
    have HS:HsAt H2 (.ref ph) xs:=⟨ph,rfl,hph,hx10,hxn⟩
    refine⟨_,rfl,_,rfl,_,x1,dg,xs,rfl,HS,r1.same s2,λH3 s3=>⟨_,rfl,?_⟩⟩
    cases eg:zaj xs dg with
    |false=>
     have q:=q H3 ((s1.trans s2).trans s3)
     rw[et,eh,eg] at q
     exact q
    |true=>
     refine⟨_,rfl,_,rfl,_,x3,dt,xs,rfl,HS.same s3,(r3.same s2).same s3,λH4 s4=>⟨_,rfl,?_⟩⟩
     have S4:=((s1.trans s2).trans s3).trans s4
     cases ett:zbX xs dt with
     |false=>
      have q:=q H4 S4
      rw[et,eh,eg,ett] at q
      exact q
     |true=>
      have hph4:=s4 _ _ (s3 _ _ hph)
      refine⟨_,rfl, .inl ⟨ph,_,rfl, .inr (.inl (.inl hph4)),?_⟩⟩
      have hz:((xs.map V.str).length:Int)=(xs.length:Int):=by rw[B0]
      rw[hz]
      have T4:=(s2.trans s3).trans s4
      refine⟨_,rfl,_,rfl,_,rfl,x4,dl,(xs.length:Int),(xs.length:Int),rfl,r4.same T4,λH5 s5=>⟨_,rfl,?_⟩⟩
      rw[zko]
      cases el:zdS dl xs.length with
      |false=>
       have q:=q H5 (S4.trans s5)
       rw[et,eh,eg,ett,el] at q
       exact q
      |true=>
       refine⟨_,rfl,_,rfl,_,rfl,x5,da,(xs.length:Int),(xs.length:Int),rfl,(r5.same T4).same s5,λH6 s6=>⟨_,rfl,?_⟩⟩
       rw[zko]
       cases ea:zdS da xs.length with
       |false=>
        have q:=q H6 ((S4.trans s5).trans s6)
        rw[et,eh,eg,ett,el,ea] at q
        exact q
       |true=>
        obtain⟨ls,rfl⟩:=ziD el
        obtain⟨as,rfl⟩:=ziD ea
        have T6:=(T4.trans s5).trans s6
        obtain⟨pl,vl,rfl,hpl,rl,bl⟩:=(r4.same T6).ofT
        obtain⟨pa,va,rfl,hpa,ra,ba⟩:=(r5.same T6).ofT
        refine⟨_,rfl,pl,rfl,⟨vl, .inl (.inl hpl)⟩,?_⟩
        refine zaY (g:=zK) (ok:=λH=>SqT K H pl vl) zaT (λH' s=> .inl (.inl (s _ _ hpl))) rl bl rfl (λx d H2 Q1 s2 rx _ q1=>⟨_,rfl,x,d,rfl,rx,q1⟩) (λl H7 s7 _ hl=>?_)
        refine⟨l,_,rfl,SqL.of hl,_,rfl,?_⟩
        rw[za3]
        have S7:=((S4.trans s5).trans s6).trans s7
        refine zak (λen=>?_) (λen=>?_)
        ·refine ⟨_,rfl,pa,rfl,⟨va, .inl (.inl (s7 _ _ hpa))⟩,?_⟩
         refine zaY (g:=zah) (ok:=λH=>SqT K H pa va) zaT (λH' s=> .inl (.inl (s _ _ (s7 _ _ hpa)))) (ra.mono (.of s7)) ba rfl (λx d H2 Q1 s2 rx _ q1=>⟨_,rfl,x,d,rfl,rx,q1⟩) (λl2 H8 s8 _ hl2=>?_)
         refine⟨l2,_,rfl,SqL.of hl2,?_⟩
         rw[za3]
         have q:=q H8 (S7.trans s8)
         have e7:zhW zK (.tup ls)=true:=en
         rw[et,eh,eg,ett,el,ea,e7] at q
         exact q
        ·have q:=q H7 S7
         have e7:zhW zK (.tup ls)=false:=tru en
         rw[et,eh,eg,ett,el,ea,e7] at q
         exact q
noncomputable def zd7:Sp:=λvs H Q _=>∃(a:Addr) (k n:Int),vs=[.ref a, .int k]/\Hand H a n/\n<2^40/\0<k/\k<1073741824/\∀d H',0<=d->d<k->Hand H' a (n+1)->Keep a H H'->Q (.int d) H'
theorem zdG(Y:Ev K mg):FnOk P w K mg base CX0 1 Y.a__law_take Y.d__law_take zao zd7:=by
 refine Y._law_take.fn.okQ zbs (λvs H Q E h=>?_) `X2
 ·obtain ⟨a,k,n,rfl,_⟩:=h
  rfl
 ·obtain ⟨a,k,n,rfl,⟨x,m,t,hH,m0,m1,t0,t1⟩,hn,k0,k1,q⟩:=h
  refine⟨_,(zh (zar (zM zmh (zN zA (qv 0) ze) ze) (zh (zL 2 zbs.nd (zU zdp (zN zA (qv 0) ze) (qv 1)))
   (zh (zeT (zU zjG (zN zA (qv 0) ze) (qv 1)) (zof (qv 0) ze zhi))
   (zj (zw (qv 2))))) zS)
   (zh (zeT (zU zaS (zN zA (qv 0) ze) ze) (zof (qv 0) ze zhi))
   (zh (zL 3 zbs.nd (zN zA (qv 0) ze))
   (zh (zL 4 zbs.nd (zU zdp (zU zbO (zN zA (qv 0) ze) (zU zaS (zU zaS ze (zU zbO (zU zbO ze (qv 3)) (qv 3))) (zU zbO ze (qv 3)))) ze))
   (zh (zL 5 zbs.nd (zU zaS (zU zaS (zU zdp (qv 4) ze) (zU zbO (qv 3) ze)) ze))
   (zh (zL 4 zbs.nd (zU zdp (zU zbO (qv 4) (qv 5)) ze))
   (zj (zw (zU zdp (zU zaS (zU zjG (qv 4) ze) (zU zjG (qv 4) ze)) (qv 1)))))))))),?_⟩
  repeat (first|with_reducible_and_instances refine⟨_,rfl,?_⟩|refine⟨_,rfl,?_⟩|refine⟨_,_,rfl,rfl,?_⟩|refine⟨_,_,_,_,rfl,rfl,SqL.of (by assumption),rfl,?_⟩|refine⟨_,_,_,_,rfl,rfl,(by assumption),rfl,?_⟩|refine .inl ⟨_,rfl,?_⟩|refine .inr ⟨_,rfl,?_⟩|refine⟨(by first|assumption|decide|lia|exact few rfl|exact .inl ⟨⋯,⋯⟩|exact .inr ⟨⋯,⋯⟩|exact .inl ⟨(),()⟩|exact .inr ⟨(),()⟩|exact⟨(),()⟩),?_⟩)
  refine zak (λhx=>?_) (λhx=>?_)
  ·repeat (first|with_reducible_and_instances refine⟨_,rfl,?_⟩|refine⟨_,rfl,?_⟩|refine⟨_,_,rfl,rfl,?_⟩|refine⟨_,_,_,_,rfl,rfl,SqL.of (by assumption),rfl,?_⟩|refine⟨_,_,_,_,rfl,rfl,(by assumption),rfl,?_⟩|refine .inl ⟨_,rfl,?_⟩|refine .inr ⟨_,rfl,?_⟩|refine⟨(by first|assumption|decide|lia|exact few rfl|exact .inl ⟨⋯,⋯⟩|exact .inr ⟨⋯,⋯⟩|exact .inl ⟨(),()⟩|exact .inr ⟨(),()⟩|exact⟨(),()⟩),?_⟩)
   exact q _ _ (Int.emod_nonneg _ ()) (Int.emod_lt_of_pos _ k0) ⟨_,m,t,upd_same,m0,m1,t0,()⟩ (Keep.upd _ _ _)
  ·refine ⟨_,rfl,a,_,_,_,rfl,rfl,SqL.of hH,rfl,_,_,rfl,rfl,_,rfl,a,_,_,_,rfl,rfl,hH,rfl,?_⟩
   have h2:upd H a (.lst [.int x, .int m, .int (t+1)]) a=some (.lst [.int x, .int m, .int (t+1)]):=upd_same
   repeat (first|with_reducible_and_instances refine⟨_,rfl,?_⟩|refine⟨_,rfl,?_⟩|refine⟨_,_,rfl,rfl,?_⟩|refine⟨_,_,_,_,rfl,rfl,SqL.of (by assumption),rfl,?_⟩|refine⟨_,_,_,_,rfl,rfl,(by assumption),rfl,?_⟩|refine .inl ⟨_,rfl,?_⟩|refine .inr ⟨_,rfl,?_⟩|refine⟨(by first|assumption|decide|lia|exact few rfl|exact .inl ⟨⋯,⋯⟩|exact .inr ⟨⋯,⋯⟩|exact .inl ⟨(),()⟩|exact .inr ⟨(),()⟩|exact⟨(),()⟩),?_⟩)
   exact q _ _ (Int.emod_nonneg _ ()) (Int.emod_lt_of_pos _ k0) ⟨_,m,_,upd_same,m0,m1,(),()⟩ (Keep.upd _ _ _)
noncomputable def zcC(K:W.Frag):Sp:=λvs H Q _=>∃(a:Addr) (n:Int),Hand H a n/\n<2^40/\
 ((∃(b:Addr) (xs:List V),vs=[.ref a, .ref b]/\b≠a/\SqL K H b xs/\0<xs.length/\xs.length<1000/\∀v H',v∈xs->Hand H' a (n+1)->Keep a H H'->Q v H')\/
  (∃z:Str,vs=[.ref a, .str z]/\0<z.length/\z.length<1000/\∀c H',c∈z.cps.toList->Hand H' a (n+1)->Keep a H H'->Q (.str (one c)) H'))
theorem zdK(Y:Ev K mg):FnOk P w K mg base CX0 2 Y.a__law_pick Y.d__law_pick zan (zcC K):=by
 have G__law_take:FnOk P w K mg base CX0 1 Y.a__law_take Y.d__law_take zao zd7:=zdG Y
 refine Y._law_pick.fn.okQ zj8 (λvs H Q E h=>?_) `X2
 ·obtain ⟨a,n,_,_,⟨b,xs,rfl,_⟩|⟨z,rfl,_⟩⟩:=h<;>rfl
 ·obtain ⟨a,n,hH,hn,h⟩:=h
  have hl:∀m:Nat,m<1000->m<=sizeLine:=λm h=>Nat.le_of_lt (zE (Nat.le_of_lt h))
  rcases h with⟨b,xs,rfl,hb,hS,x0,x1,q⟩|⟨z,rfl,z0,z1,q⟩
  ·refine ⟨_,(zj (zw (zN zpK (qv 1) (zf G__law_take `n3 Y._law_take.mg Y._law_take.kp Y._law_take.b .nil zi (za (qv 0) (za (zp zH Y.len zaC (za (qv 1) zb)) zb)))))),?_⟩
   refine⟨_,rfl,_,rfl,_,rfl, .inl ⟨b,xs,rfl, .inl hS,a,_,n,rfl,hH,hn,(),(),λd H' h0 h1 hH' kp=>?_⟩⟩
   obtain⟨v,e,hv⟩:=zgS h0 h1
   exact .inl ⟨b,xs,d,v,rfl,rfl,kp.sqL hb hS,e,q v H' hv hH' kp⟩
  ·refine ⟨_,(zj (zw (zN zpK (qv 1) (zf G__law_take `n3 Y._law_take.mg Y._law_take.kp Y._law_take.b .nil zi (za (qv 0) (za (zp zH Y.len zaC (za (qv 1) zb)) zb)))))),?_⟩
   refine⟨_,rfl,_,rfl,_,rfl, .inr ⟨z,rfl,hl _ z1,a,_,n,rfl,hH,hn,(),(),λd H' h0 h1 hH' kp=>?_⟩⟩
   obtain⟨c,e,hc⟩:=zgS (xs:=z.cps.toList) h0 (by simpa[Str.length] using h1)
   exact .inr (.inr ⟨z,d,c,rfl,rfl,hl _ z1,e,q c H' hc hH' kp⟩)
noncomputable def zpj(K:W.Frag):Sp:=λvs H Q _=>∃(b:Addr) (ns:List Int) (k:Int),vs=[.ref b, .int k]/\SqL K H b (ns.map V.int)/\0<=k/\k<1000/\∀a H',H a=none->Hand H' a 0->Same H H'->Q (.ref a) H'
theorem zri(Y:Ev K mg):FnOk P w K mg base CX0 1 Y.a__law_hand Y.d__law_hand zcG (zpj K):=by
 refine Y._law_hand.fn.okQ zd6 (λvs H Q E h=>?_) `X2
 ·obtain ⟨a,k,n,rfl,_⟩:=h
  rfl
 ·obtain ⟨b,ns,k,rfl,hS,k0,k1,q⟩:=h
  refine⟨_,(zh (zL 2 zd6.nd ze)
   (zh (zar (zM zoE (qv 1) (zp zH Y.len zaC (za (qv 0) zb))) (zj (zL 2 zd6.nd (zN zA (qv 0) (qv 1)))) zS)
   (zj (zw (zbb (za (zU zbO (qv 2) (zG zdk Y.int zdQ (za (zbH ztr (qv 2) (zU zsd ze ze)) zb))) (za (zU zaS (zU zaS (zU zdp (qv 2) ze) (zU zbO ze (qv 1))) ze) (za ze zb)))))))),?_⟩
  refine⟨_,rfl,_,rfl, .inl ⟨b,_,rfl, .inl hS,_,_,rfl,rfl,_,rfl,?_⟩⟩
  refine zak (λhx=>?_) (λhx=>?_)
  ·have hx':k<((ns.map V.int).length:Int):=B1 hx
   obtain⟨v,e,hv⟩:=zgS k0 hx'
   obtain⟨c,_,rfl⟩:=T1.mp hv
   refine⟨_,rfl,_,rfl,b,_,k,_,rfl,rfl,hS,e,?_⟩
   repeat (first|with_reducible_and_instances refine⟨_,rfl,?_⟩|refine⟨_,rfl,?_⟩|refine⟨_,_,rfl,rfl,?_⟩|refine⟨_,_,_,_,rfl,rfl,SqL.of (by assumption),rfl,?_⟩|refine⟨_,_,_,_,rfl,rfl,(by assumption),rfl,?_⟩|refine .inl ⟨_,rfl,?_⟩|refine .inr ⟨_,rfl,?_⟩|refine⟨(by first|assumption|decide|lia|exact few rfl|exact .inl ⟨⋯,⋯⟩|exact .inr ⟨⋯,⋯⟩|exact .inl ⟨(),()⟩|exact .inr ⟨(),()⟩|exact⟨(),()⟩),?_⟩)
   intro p hp
   exact q p _ hp ⟨_,_,_,upd_same,(),(),⋯,⋯⟩ (λb' o hb'=>by rw[zn (zB hb' hp)];exact hb')
  ·repeat (first|with_reducible_and_instances refine⟨_,rfl,?_⟩|refine⟨_,rfl,?_⟩|refine⟨_,_,rfl,rfl,?_⟩|refine⟨_,_,_,_,rfl,rfl,SqL.of (by assumption),rfl,?_⟩|refine⟨_,_,_,_,rfl,rfl,(by assumption),rfl,?_⟩|refine .inl ⟨_,rfl,?_⟩|refine .inr ⟨_,rfl,?_⟩|refine⟨(by first|assumption|decide|lia|exact few rfl|exact .inl ⟨⋯,⋯⟩|exact .inr ⟨⋯,⋯⟩|exact .inl ⟨(),()⟩|exact .inr ⟨(),()⟩|exact⟨(),()⟩),?_⟩)
   intro p hp
   exact q p _ hp ⟨_,_,_,upd_same,(),(),⋯,⋯⟩ (λb' o hb'=>by rw[zn (zB hb' hp)];exact hb')
noncomputable def zj7:Sp:=λvs H Q _=>∃(a:Addr) (n:Int) (m:Nat),vs=[.ref a, .int m]/\Hand H a n/\n<2^39/\4<=m/\m<=13/\∀(l:Addr) (xs:List Str) (H':Hp),H l=none->H' l=some (.lst (xs.map V.str))->xs.length=m->(∀x∈xs,zm x=true)->xs.Nodup->(∀x∈xs,x≠"nowhere")->Hand H' a (n+4)->Keep a H H'->Q (.ref l) H'
theorem znu(Y:Ev K mg):FnOk P w K mg base CX0 3 Y.a__law_names Y.d__law_names zcj zj7:=by
 have G__law_take:FnOk P w K mg base CX0 1 Y.a__law_take Y.d__law_take zao zd7:=zdG Y
 have G__law_pick:FnOk P w K mg base CX0 2 Y.a__law_pick Y.d__law_pick zan (zcC K):=zdK Y
 refine Y._law_names.fn.okQ zaz (λvs H Q E h=>?_) `X2
 ·obtain ⟨a,n,m,rfl,_⟩:=h;rfl
 ·obtain ⟨a,n,m,rfl,hH,hn,m4,m13,q⟩:=h
  refine⟨_,(zh (ziZ 2 zaz.nd zy)
   (zh (ziZ 3 zaz.nd (zf G__law_take `n3 Y._law_take.mg Y._law_take.kp Y._law_take.b .nil zi (za (qv 0) (za ze zb))))
   (zh (ziZ 4 zaz.nd (zf G__law_pick `n3 Y._law_pick.mg Y._law_pick.kp Y._law_pick.b .nil zi (za (qv 0) (za (zhc [V.int 1,V.int 3,V.int 5,V.int 7,V.int 9,V.int 11] `Y2) zb))))
   (zh (ziw 5 (src:=[none,some 3,some 2,some 4]) zdW rfl rfl zaz.nd (zdF Y.range (za (qv 1) zb)) (λ_ _ _ _ _=>(zl 0 zdW.nd)) (λ_ _ _ _ _=>zaJ) (λ_ _ _ _ _=>(zU zkG (zN zlg (qc 2) (zU zdp (zU zaS (qc 1) (zU zbO (qc 3) (qv 0))) ze)) (zU zaS ze (zU zdp (zU zaS (zU zbO (qv 0) (qv 0)) (qc 1)) ze)))))
   (zka (zar (zM zaX (zf G__law_take `n3 Y._law_take.mg Y._law_take.kp Y._law_take.b .nil zi (za (qv 0) (za ze zb))) ze) (zh (zL 6 zaz.nd (zhc [V.str "goal",V.str "to",V.str "by",V.str "houses",V.str "tie",V.str "like",V.str "hand",V.str "keep",V.str "put",V.str "mark",V.str "long",V.str "from",V.str "strike"] `Y2))
   (zh (zL 7 zaz.nd (zf G__law_take `n3 Y._law_take.mg Y._law_take.kp Y._law_take.b .nil zi (za (qv 0) (za ze zb))))
   (zj (zcz U2 rfl (zdF Y.range (za (zp (zin rfl) Y.min zi5 (za (qv 1) (za ze zb))) zb)) (zl 8 zaz.nd) (zj (zeT (zN zA (qv 6) (zU zdp (zU zaS (qv 7) (zU zbO ze (qv 8))) ze)) (zof (qv 5) (qv 8) zhi))))))) zS)
   (zj (zw (qv 5)))))))),?_⟩
  refine⟨_,rfl,a,26,n,rfl,hH,(),⋯,⋯,λf' H1 f0 f26 hH1 k1=>?_⟩
  obtain⟨f,rfl⟩:∃f:Nat,f'=(f:Int):=⟨f'.toNat,()⟩
  refine⟨_,rfl,⋯,λpl hpl=>⟨a,n+1,hH1.new hpl,(), .inl ⟨pl,_,rfl,hH1.ne hpl,SqL.of upd_same,⋯,⋯,λv H2 hv hH2 k2=>?_⟩⟩⟩
  obtain⟨st,rfl,st0,st11⟩:∃st:Nat,v= .int (st:Int)/\st∈zoJ/\st<=11:=by
   simp only[I0,U1,or_false] at hv
   rcases hv with rfl|rfl|rfl|rfl|rfl|rfl
   ·exact ⟨1,rfl,⋯,⋯⟩
   ·exact ⟨3,rfl,⋯,⋯⟩
   ·exact ⟨5,rfl,⋯,⋯⟩
   ·exact ⟨7,rfl,⋯,⋯⟩
   ·exact ⟨9,rfl,⋯,⋯⟩
   ·exact ⟨11,rfl,⋯,⋯⟩
  have kp2:Keep a H H2:=k1.trans ((Keep.new hpl).trans k2)
  refine⟨_,rfl,m,rfl,(),(),?_⟩
  refine zaD zc9 (λl i ys σ' H'=>(∃o,σ'=[o,some (.int (f:Int)),some (.str zbW),some (.int (st:Int))])/\ys=((List.range i).map (nmS f st)).map V.str/\Hand H' a (n+1+1)/\Keep a H2 H') ?_ (λ_ _ _ _ _ _ _=>trivial) ?_ ?_
  ·exact λl hl=>⟨⟨_,rfl⟩,rfl,hH2.new hl,Keep.new hl⟩
  ·rintro l i y ys σ' H' hl hi rfl ⟨⟨o,rfl⟩,rfl,hH',k'⟩ hl'
   have hi13:i<13:=by have:i<m:=()
                      lia
   have hr26:(f+st*i)%26<26:=Nat.mod_lt _ ⋯
   have ei:((f:Int)+(st:Int)*(0+(i:Int)))%26=(((f+st*i)%26:Nat):Int):=by rw[Int.zero_add];push_cast;rfl
   have ec:atI zbW.cps.toList (((f:Int)+(st:Int)*(0+(i:Int)))%26)=some (97+(f+st*i)%26):=by
    rw[ei];exact zbi (zhb _ (C2.mpr hr26))
   have en:(1+((0+(i:Int))*(0+(i:Int))+(f:Int))%8)=((1+(i*i+f)%8:Nat):Int):=by rw[Int.zero_add];push_cast;rfl
   have g8:(i*i+f)%8<8:=Nat.mod_lt _ ⋯
   refine⟨_,rfl,_,rfl,_,rfl,_,rfl,_,_,rfl,rfl, .inl ⟨(),()⟩,_,_,rfl,rfl,_,_,rfl,rfl,(by decide:(0:Int)<26),zbW,_,_,rfl,rfl,by rw[zkx];decide,ec,_,rfl,_,rfl,_,_,rfl,rfl, .inl ⟨(),()⟩,_,rfl,_,_,rfl,rfl,_,_,rfl,rfl,(by decide:(0:Int)<8),_,_,rfl,rfl,one (97+(f+st*i)%26),_,rfl,rfl,by rw[en];lia,by rw[en];lia,by rw[zmr];decide,by rw[zmr];decide,?_⟩
   have nl:=hH2.ne hl
   refine⟨hl',?_,⟨_,rfl⟩,?_,hH'.updNe nl,k'.updNew hl⟩
   ·rw[B0,B0,List.length_range];exact zE ()
   ·rw[en,Q2,List.range_succ,U0,U0];rfl
  ·rintro l ys σ' H3 hl ⟨⟨o,rfl⟩,rfl,hH3,k3⟩ hl'
   have nl:=hH2.ne hl
   rw[Q2] at hl'
   have e0:(List.range m).map (nmS f st)=(List.range m).map (zbz f st 0 0):=by
    apply List.map_congr_left
    intro k _
    unfold zbz
    rw[V0 ()]
   have hln:H l=none:=by
    cases e:H l with
    |none=>rfl
    |some o=>exact absurd (kp2 l o nl e) (by rw[hl];exact λz=>nomatch z)
   refine⟨λσ' H'=>(∃o6 o7 o8,σ'=[some (.ref a),some (.int m),some (.str zbW),some (.int (f:Int)),some (.int (st:Int)),some (.ref l),o6,o7,o8])/\(∃sp j:Nat,H' l=some (.lst (((List.range m).map (zbz f st sp j)).map V.str))/\sp<13/\j<=4)/\Hand H' a (n+4)/\Keep a H H',?_,?_⟩
   ·refine ⟨_,rfl,a,6,n+1+1,rfl,hH3,(),⋯,⋯,λd H4 d0 d6 hH4 k4=>⟨rfl,_,rfl,zak (λ_=>?_) (λ_=>?_)⟩⟩
    ·have hl4:=k4 _ _ nl hl'
     have kp4:Keep a H H4:=(kp2.trans k3).trans k4
     refine⟨⋯,λpk hpk=>?_⟩
     have npl:pk≠l:=λz=>by rw[z,hl4] at hpk;cases hpk
     have npa:=hH4.ne hpk
     refine⟨_,rfl,a,13,n+1+1+1,rfl,hH4.new hpk,(),⋯,⋯,λsp' H5 sp0 sp13 hH5 k5=>?_⟩
     obtain⟨sp,rfl⟩:∃f:Nat,sp'=(f:Int):=⟨sp'.toNat,()⟩
     refine⟨_,rfl,_,_,rfl,_,rfl,?_,?_,?_⟩
     ·split<;>lia
     ·split<;>lia
     have e4:(if(4:Int)<(m:Int)then(4:Int)else(m:Int)).toNat=4:=by split<;>lia
     rw[e4]
     refine zcE zc9 (λi σ' H'=>(∃o8,σ'=[some (.ref a),some (.int m),some (.str zbW),some (.int (f:Int)),some (.int (st:Int)),some (.ref l),some (.ref pk),some (.int (sp:Int)),o8])/\H' l=some (.lst (((List.range m).map (zbz f st sp i)).map V.str))/\Hand H' a (n+4)/\Keep a H H'/\H' pk=some (.lst (zeW.map V.str))) ?_ (λ_ _ _ _=>trivial) ?_ ?_
     ·refine ⟨⟨_,rfl⟩,?_,hH5.mono (),kp4.trans ((Keep.new hpk).trans k5),k5 _ _ npa upd_same⟩
      have e0':(List.range m).map (nmS f st)=(List.range m).map (zbz f st sp 0):=by
       apply List.map_congr_left
       intro k _
       unfold zbz
       rw[V0 ()]
      rw[←e0']
      exact k5 _ _ nl (by rw[zn (Ne.symm npl)];exact hl4)
     ·rintro i y σ' H6 hi4 rfl ⟨⟨o8,rfl⟩,hz,hH6,k6,hp6⟩
      have ek:((sp:Int)+3*(0+(i:Int)))%13=(((sp+3*i)%13:Nat):Int):=by rw[Int.zero_add];push_cast;rfl
      have ev:atI (zeW.map V.str) (((sp:Int)+3*(0+(i:Int)))%13)=some (.str (kwS sp i)):=by
       rw[ek];exact zbi (by rw[W0,zqn];rfl)
      have hix:ixN (((List.range m).map (zbz f st sp i)).map V.str).length (0+(i:Int))=some i:=by
       unfold ixN
       rw[p0 (),p0 (by rw[B0,B0,List.length_range];lia)]
       congr 1
       lia
      refine⟨_,rfl,_,rfl,_,rfl,_,_,rfl,rfl, .inl ⟨⋯,⋯⟩,_,_,rfl,rfl,_,_,rfl,rfl,(by decide:(0:Int)<13),pk,_,_,_,rfl,rfl,SqL.of hp6,ev,_,rfl,_,rfl,l,_,_,i,rfl,rfl,hz,hix,?_⟩
      refine⟨⟨_,rfl⟩,?_,hH6.updNe nl,k6.updNew hln,by rw[zn npl];exact hp6⟩
      rw[upd_same,←List.map_set,zpu ()]
     ·rintro σ' H6 ⟨⟨o8,rfl⟩,hz,hH6,k6,_⟩
      exact⟨⟨_,_,_,rfl⟩,⟨sp,4,hz,(),⋯⟩,hH6,k6⟩
    ·rw[e0] at hl'
     exact⟨⟨_,_,_,rfl⟩,⟨0,0,k4 _ _ nl hl',⋯,⋯⟩,hH4.mono (),(kp2.trans k3).trans k4⟩
   ·rintro σ' H' ⟨⟨o6,o7,o8,rfl⟩,⟨sp,j,hz,hsp,hj⟩,hH',k'⟩
    refine⟨_,rfl,q l _ H' hln hz (by rw[B0,List.length_range]) (λx hx=>?_) (zj6 () st0 hsp hj m13) (λx hx=>?_) hH' k'⟩
    ·obtain ⟨k,_,rfl⟩:=T1.mp hx
     exact zrc _ _ _ _ _
    ·obtain ⟨k,_,rfl⟩:=T1.mp hx
     exact znC _ _ _ _ _
def NL(O:List Str)(H:Hp)(l:Addr):Prop:=∃xs:List Str,H l=some (.lst (xs.map V.str))/\0<xs.length/\xs.length<=100/\∀x∈xs,zm x=true/\x∈O
theorem NL.keep(h:NL O H l)(k:Keep a H H')(n:l≠a):NL O H' l:=let⟨xs,e,r⟩:=h;⟨xs,k _ _ n e,r⟩
theorem NL.same(h:NL O H l)(k:Same H H'):NL O H' l:=let⟨xs,e,r⟩:=h;⟨xs,k _ _ e,r⟩
theorem zdl{n:Int}{Q:VK}(hH:Hand H a n)(hn:n<2^40)(hl:NL O H l)(hla:l≠a)(q:∀x H',(zm x=true/\x∈O)->Hand H' a (n+1)->Keep a H H'->Q (.str x) H'):zcC K [.ref a, .ref l] H Q E0:=by
 obtain⟨xs,e,x0,x1,hx⟩:=hl
 refine⟨a,n,hH,hn, .inl ⟨l,_,rfl,hla,SqL.of e,by rw[B0];exact x0,by rw[B0];lia,λv H' hv hH' k'=>?_⟩⟩
 obtain⟨x,hxx,rfl⟩:=T1.mp hv
 exact q x H' (hx x hxx) hH' k'
theorem zQ(h:zm x=true):x.length<=1000:=by
 unfold zm at h
 simp only[R0,decide_eq_true_eq] at h
 lia
theorem zfh(hy:y∈zbD)(hx:zm x=true):zt (.tup [.str y, .str x])=true:=by
 have h1:¬y="long":=by
  intro z
  subst z
  revert hy
  decide +kernel
 have h2:(zbD.any λz=>decide (z=y))=true:=List.any_eq_true.mpr ⟨y,hy,D0 rfl⟩
 rw[zcB,V0 h1,h2,zbx,hx];rfl
theorem zli(h:zt d=true):zo d=true:=by
 obtain⟨x,e,rfl⟩:=zO d h
 by_cases hx:x="not"
 ·subst hx;rw[zcp] at h;cases h
 ·rw[zaE,V0 hx];exact h
theorem zlM(h:zt d=true)(ha:zem d=false):zcy d=false:=by
 obtain⟨x,e,rfl⟩:=zO d h
 by_cases hx:x="not"
 ·subst hx;rw[zcp] at h;cases h
 ·show (if x="not"then zem e else decide (x="to"))=false
  rw[V0 hx];exact ha
noncomputable def zpf:Sp:=λvs H Q _=>∃(a h m:Addr) (n:Int) (to:Bool) (O:List Str),vs=[.ref a, .ref h, .ref m, .bl to]/\Hand H a n/\n<2^39/\NL O H h/\NL O H m/\h≠a/\m≠a/\∀v d H',Rep H' v d->(zo d=true/\zcA O d=true)->(to=false->zcy d=false)->Hand H' a (n+4)->Keep a H H'->Q v H'
theorem zqU(Y:Ev K mg):FnOk P w K mg base CX0 3 Y.a__law_cond Y.d__law_cond zcK zpf:=by
 have G__law_take:FnOk P w K mg base CX0 1 Y.a__law_take Y.d__law_take zao zd7:=zdG Y
 have G__law_pick:FnOk P w K mg base CX0 2 Y.a__law_pick Y.d__law_pick zan (zcC K):=zdK Y
 refine Y._law_cond.fn.okQ zaL (λvs H Q E h=>?_) `X2
 ·obtain ⟨a,h,m,n,to,O,rfl,_⟩:=h;rfl
 ·obtain ⟨a,h,m,n,to,O,rfl,hH,hn,hh,hm,nh,nm,q⟩:=h
  refine⟨_,(zh (zL 4 zaL.nd (zf G__law_take `n3 Y._law_take.mg Y._law_take.kp Y._law_take.b .nil zi (za (qv 0) (za (zU zaS ze (zG zdk Y.int zdQ (za (qv 3) zb))) zb))))
   (zh (zL 5 zaL.nd (zaf (za zy (za (zf G__law_pick `n3 Y._law_pick.mg Y._law_pick.kp Y._law_pick.b .nil zi (za (qv 0) (za (qv 1) zb))) zb))))
   (zka (zar (t_w (zdu (zM zaX (qv 4) ze) (zdc (zM zaX (qv 4) ze)))) (zj (zL 5 zaL.nd (zaf (za zy (za (zf G__law_pick `n3 Y._law_pick.mg Y._law_pick.kp Y._law_pick.b .nil zi (za (qv 0) (za (qv 1) zb))) zb))))) (zj (zar (zM zaX (qv 4) ze) (zj (zL 5 zaL.nd (zaf (za zy (za (zf G__law_pick `n3 Y._law_pick.mg Y._law_pick.kp Y._law_pick.b .nil zi (za (qv 0) (za (zhc [V.int 0,V.int 1,V.int 2,V.int 3,V.int 4,V.int 99] `Y2) zb))) zb))))) (zj (zar (zM zaX (qv 4) ze) (zj (zL 5 zaL.nd (zaf (za zy (za (zf G__law_pick `n3 Y._law_pick.mg Y._law_pick.kp Y._law_pick.b .nil zi (za (qv 0) (za (qv 2) zb))) zb))))) (zj (zar (zM zaX (qv 4) ze) (zj (zL 5 zaL.nd (zaf (za zy (za (zf G__law_pick `n3 Y._law_pick.mg Y._law_pick.kp Y._law_pick.b .nil zi (za (qv 0) (za (qv 1) zb))) zb))))) zS)))))))
   (zka (zar (zM zaX (zf G__law_take `n3 Y._law_take.mg Y._law_take.kp Y._law_take.b .nil zi (za (qv 0) (za ze zb))) ze) (zj (zL 5 zaL.nd (zaf (za zy (za (qv 5) zb))))) zS)
   (zj (zw (qv 5))))))),?_⟩
  refine⟨_,rfl,_,rfl, .inr ⟨to,rfl,_,_,rfl,rfl,a,_,n,rfl,hH,(),by split<;>lia,by split<;>lia,λt H1 t0 t5 hH1 k1=>?_⟩⟩
  refine⟨_,rfl,_,rfl,zdl hH1 () (hh.keep k1 nh) nh λx H2 hx hH2 k2=>⟨few rfl,λp2 hp2=>?_⟩⟩
  have mk2:∀{H0:Hp} {p:Addr} {y x:Str},y.length<=1000->(zm x=true/\x∈O)->Rep (upd H0 p (.tup [.str y, .str x])) (.ref p) (.tup [.str y, .str x]):=λhy hx=> .mk2 upd_same (.str _ hy) (.str _ (zQ hx.1))
  have hh2:NL O (upd H2 p2 (.tup [.str "by", .str x])) h:=((hh.keep k1 nh).keep k2 nh).same (Same.new hp2)
  have hm2:NL O (upd H2 p2 (.tup [.str "by", .str x])) m:=((hm.keep k1 nm).keep k2 nm).same (Same.new hp2)
  have hH2':=hH2.new (o:= .tup [.str "by", .str x]) hp2
  have kp2:Keep a H (upd H2 p2 (.tup [.str "by", .str x])):=(k1.trans k2).trans (Keep.new hp2)
  refine⟨λσ' H'=>∃v d,σ'=[some (.ref a),some (.ref h),some (.ref m),some (.bl to),some (.int t),some v]/\Rep H' v d/\(zt d=true/\zaq O d=true)/\(to=false->zem d=false)/\Hand H' a (n+3)/\Keep a H H',?_,?_⟩
  ·have ap:∀{y x:Str},¬y="to"->zem (.tup [.str y, .str x])=false:=λh=>G0 h
   have br:∀{y:Str},y.length<=1000->y∈zbD->¬y="to"->∀(l:Addr),l≠a->NL O (upd H2 p2 (.tup [.str "by", .str x])) l->∀R:V->Hp->Prop,(∀v d H',Rep H' v d->(zt d=true/\zaq O d=true)->(to=false->zem d=false)->Hand H' a (n+3)->Keep a H H'->R v H')->
    zcC K [.ref a, .ref l] (upd H2 p2 (.tup [.str "by", .str x])) (λv H3=> [V.str y,v].length<=sizeLine/\∀p,H3 p=none->R (.ref p) (upd H3 p (.tup [V.str y,v]))) E0:=by
    intro y hy hyn hyt l nl hl R hR
    refine zdl hH2' () hl nl λx3 H3 hx3 hH3 k3=>⟨few rfl,λp3 hp3=>?_⟩
    exact hR _ _ _ (mk2 hy hx3) ⟨zfh hyn hx3.1,zbZ hx3.2⟩ (λ_=>ap hyt) ((hH3.new hp3).mono ()) ((kp2.trans k3).trans (Keep.new hp3))
   have fin:∀v d H',Rep H' v d->(zt d=true/\zaq O d=true)->(to=false->zem d=false)->Hand H' a (n+3)->Keep a H H'->(λ(v:V) (H':Hp)=>∃v0 d,[some (V.ref a),some (.ref h),some (.ref m),some (.bl to),some (.int t),some v]=[some (.ref a),some (.ref h),some (.ref m),some (.bl to),some (.int t),some v0]/\Rep H' v0 d/\(zt d=true/\zaq O d=true)/\(to=false->zem d=false)/\Hand H' a (n+3)/\Keep a H H') v H':=
    λv d H' h1 h2 h3 h4 h5=>⟨v,d,rfl,h1,h2,h3,h4,h5⟩
   refine⟨_,rfl,rfl,_,rfl,zak (λ_=>?_) (λ_=>⟨_,rfl,rfl,_,rfl,zak (λ_=>?_) (λ_=>?_)⟩)⟩
   ·exact ⟨_,rfl,_,rfl,br ⋯ ⋯ `Y2 h nh hh2 _ fin⟩
   ·exact ⟨_,rfl,_,rfl,br ⋯ ⋯ `Y2 h nh hh2 _ fin⟩
   refine⟨_,rfl,rfl,_,rfl,zak (λ_=>?_) (λ_=>⟨_,rfl,rfl,_,rfl,zak (λ_=>?_) (λ_=>⟨_,rfl,rfl,_,rfl,zak (λh5=>?_) (λ_=>?_)⟩)⟩)⟩
   ·refine ⟨_,rfl,⋯,λpl hpl=>⟨a,n+2,(hH2'.mono ()).new hpl,(), .inl ⟨pl,_,rfl,hH2'.ne hpl,SqL.of upd_same,⋯,⋯,λv H3 hv hH3 k3=>⟨few rfl,λp3 hp3=>?_⟩⟩⟩⟩
    have hk:∃j:Int,v= .int j/\0<=j/\j<=99:=by
     simp only[I0,U1,or_false] at hv
     rcases hv with rfl|rfl|rfl|rfl|rfl|rfl<;>exact ⟨_,rfl,⋯,⋯⟩
    obtain⟨j,rfl,j0,j9⟩:=hk
    refine fin _ (.tup [.str "long", .int j]) _ (.mk2 upd_same (.str _ ⋯) (.int _)) ?_ (λ_=>(by decide +kernel:decide (("long":Str)="to")=false)) ((hH3.new hp3).mono ()) ((kp2.trans ((Keep.new hpl).trans k3)).trans (Keep.new hp3))
    refine⟨?_,rfl⟩
    rw[zcB,p0 rfl]
    show(decide (0<=j)&&decide (j<=99))=true
    rw[D0 j0,D0 j9];rfl
   ·exact ⟨_,rfl,_,rfl,br ⋯ ⋯ `Y2 m nm hm2 _ fin⟩
   ·refine ⟨_,rfl,_,rfl,zdl hH2' () hh2 nh λx3 H3 hx3 hH3 k3=>⟨few rfl,λp3 hp3=>?_⟩⟩
    refine fin _ _ _ (mk2 ⋯ hx3) ⟨zfh ⋯ hx3.1,zbZ hx3.2⟩ (λz=>?_) ((hH3.new hp3).mono ()) ((kp2.trans k3).trans (Keep.new hp3))
    subst z
    have e5:t=5:=V.int.inj (B1 h5)
    simp at t5
    lia
   ·exact fin _ _ _ (mk2 ⋯ hx) ⟨zfh ⋯ hx.1,zbZ hx.2⟩ (λ_=>ap `Y2) (hH2'.mono ()) kp2
  ·rintro σ' H3 ⟨v,d,rfl,hv,hd,hto,hH3,k3⟩
   refine⟨λσ' H'=>∃v d,σ'=[some (.ref a),some (.ref h),some (.ref m),some (.bl to),some (.int t),some v]/\Rep H' v d/\(zo d=true/\zcA O d=true)/\(to=false->zcy d=false)/\Hand H' a (n+4)/\Keep a H H',?_,?_⟩
   ·refine ⟨_,rfl,a,4,n+3,rfl,hH3,(),⋯,⋯,λd4 H4 _ _ hH4 k4=>⟨rfl,_,rfl,zak (λ_=>?_) (λ_=>?_)⟩⟩
    ·have hv4:=hv.mono (Mono.keep k4 hH3 hH4)
     refine⟨_,rfl,few rfl,λp5 hp5=>⟨_, .tup [.str "not",d],rfl, .mk2 upd_same (.str _ ⋯) (hv4.mono (.new hp5)),?_,?_,(hH4.new hp5).mono (),(k3.trans k4).trans (Keep.new hp5)⟩⟩
     ·exact ⟨by rw[zaE,p0 rfl];exact hd.1,zlu hd.2⟩
     ·exact λz=>hto z
    ·refine ⟨_,d,rfl,hv.mono (Mono.keep k4 hH3 hH4),⟨zli hd.1,zm9 hd.1 hd.2⟩,λz=>zlM hd.1 (hto z),hH4.mono (),k3.trans k4⟩
   ·rintro σ' H4 ⟨v,d,rfl,hv,hd,hto,hH4,k4⟩
    exact⟨_,rfl,q v d H4 hv hd hto hH4 k4⟩
theorem zj3(hl:ds.length<=4)(h:∀d∈ds,zo d=true):zad (.tup ds)=true:=by
 rw[zep,D0 hl,T0.mpr h];rfl
theorem zhe{P:α->Prop}{ds:List α}(h:∀(i:Nat) (d:α),ds[i]?=some d->P d):∀d∈ds,P d:=λd hd=>by
 obtain⟨i,hi,e⟩:=List.getElem_of_mem hd
 exact h i d (by rw[l0 hi,e])
noncomputable def zja:Sp:=λvs H Q _=>∃(a h m:Addr) (n:Int) (to:Bool) (O:List Str),vs=[.ref a, .ref h, .ref m, .bl to]/\Hand H a n/\n<2^38/\NL O H h/\NL O H m/\h≠a/\m≠a/\∀v ds H',Rep H' v (.tup ds)->ds.length<=4->(∀d∈ds,zo d=true)->(∀d∈ds,zcA O d=true)->(to=false->∀d∈ds,zcy d=false)->Hand H' a (n+17)->Keep a H H'->Q v H'
theorem zkJ(Y:Ev K mg):FnOk P w K mg base CX0 4 Y.a__law_conds Y.d__law_conds zbF zja:=by
 have G__law_pick:FnOk P w K mg base CX0 2 Y.a__law_pick Y.d__law_pick zan (zcC K):=zdK Y
 have G__law_cond:FnOk P w K mg base CX0 3 Y.a__law_cond Y.d__law_cond zcK zpf:=zqU Y
 refine Y._law_conds.fn.okQ zfG (λvs H Q E h=>?_) `X2
 ·obtain ⟨a,h,m,n,to,O,rfl,_⟩:=h;rfl
 ·obtain ⟨a,h,m,n,to,O,rfl,hH,hn,hh,hm,nh,nm,q⟩:=h
  refine⟨_,(zh (zL 4 zfG.nd (zf G__law_pick `n3 Y._law_pick.mg Y._law_pick.kp Y._law_pick.b .nil zi (za (qc 0) (za (zhc [V.int 1,V.int 1,V.int 1,V.int 2,V.int 0,V.int 4] `Y2) zb))))
   (zj (zw (zG zC Y.tuple zX (za (zaB (src:=[none,some 0,some 1,some 2,some 3]) zee rfl rfl (zdF Y.range (za (qv 4) zb)) (λ_ _ _ _ _=>(zl 0 zee.nd)) (λ_ _ _ _ _=>zaJ) (λ_ _ _ _ _=>(zf G__law_cond `n3 Y._law_cond.mg Y._law_cond.kp Y._law_cond.b .nil zi (za (qc 1) (za (qc 2) (za (qc 3) (za (qc 4) zb))))))) zb))))),?_⟩
  refine⟨_,rfl,⋯,λpl hpl=>⟨a,n,hH.new hpl,(), .inl ⟨pl,_,rfl,hH.ne hpl,SqL.of upd_same,⋯,⋯,λv H1 hv hH1 k1=>?_⟩⟩⟩
  obtain⟨c,rfl,c4⟩:∃c:Nat,v= .int (c:Int)/\c<=4:=by
   simp only[I0,U1,or_false] at hv
   rcases hv with rfl|rfl|rfl|rfl|rfl|rfl
   ·exact ⟨1,rfl,⋯⟩
   ·exact ⟨1,rfl,⋯⟩
   ·exact ⟨1,rfl,⋯⟩
   ·exact ⟨2,rfl,⋯⟩
   ·exact ⟨0,rfl,⋯⟩
   ·exact ⟨4,rfl,⋯⟩
  have kp1:Keep a H H1:=(Keep.new hpl).trans k1
  have hh1:=(hh.same (Same.new (o:= .lst [V.int 1,V.int 1,V.int 1,V.int 2,V.int 0,V.int 4]) hpl)).keep k1 nh
  have hm1:=(hm.same (Same.new (o:= .lst [V.int 1,V.int 1,V.int 1,V.int 2,V.int 0,V.int 4]) hpl)).keep k1 nm
  refine⟨_,rfl,c,rfl,(),(),?_⟩
  rw[Q2]
  refine zmb (a:=a) (m:=n+1) (c:=4) (Pd:=λ_ d=>(zo d=true/\zcA O d=true)/\(to=false->zcy d=false)) (σr:=[some (.ref a),some (.ref h),some (.ref m),some (.bl to)]) rfl hH1 () ⋯ (λj H2 Q1 hj hH2 k2 q1=>?_) (λl vs ds H2 hl hl2 r2 hds pd hH2 k2=>?_)
  ·exact ⟨_,rfl,_,rfl,_,rfl,_,rfl,a,h,m,_,to,O,rfl,hH2,(),hh1.keep k2 nh,hm1.keep k2 nm,nh,nm,λv d H3 rv hc ht hH3 k3=>q1 v d H3 rv ⟨hc,ht⟩ hH3 k3⟩
  ·refine ⟨l,vs,rfl, .inl ⟨SqL.of hl2,λp hp=>?_⟩⟩
   have pd':=zhe (P:=λd=>(zo d=true/\zcA O d=true)/\(to=false->zcy d=false)) pd
   exact q _ ds _ (.mkL upd_same () (r2.mono (.new hp))) () (λd hd=>(pd' d hd).1.1) (λd hd=>(pd' d hd).1.2) (λz d hd=>(pd' d hd).2 z) ((hH2.new hp).mono ()) ((kp1.trans k2).trans (Keep.new hp))
def zrS(g:D->Bool)(H':Hp)(ls:Addr)(i:Nat):Prop:=∃(zs:List V) (ds:List D),H' ls=some (.lst zs)/\RepL H' zs ds/\ds.length=i/\∀d∈ds,g d=true
noncomputable def zgV(g:List Str->D->Bool):Sp:=λvs H Q _=>∃(a h m:Addr) (n:Int) (O:List Str),vs=[.ref a, .ref h, .ref m]/\Hand H a n/\n<2^37/\NL O H h/\NL O H m/\h≠a/\m≠a/\∀v ds H',Rep H' v (.tup ds)->ds.length<=12->(∀d∈ds,g O d=true)->Hand H' a (n+400)->Keep a H H'->Q v H'
theorem zm2{x:D}(hl:ds.length<=4)(h:∀d∈ds,zo d=true)(ha:∀d∈ds,zcy d=false)(hx:zT x=true):z7 (.tup [.tup ds,x])=true:=by
 rw[zes,zj3 hl h,hx]
 have:zfE (.tup ds)=false:=by
  show ds.any zcy=false
  rw[List.any_eq_false]
  exact λd hd z=>by rw[ha d hd] at z;cases z
 rw[this];rfl
theorem zmc(Y:Ev K mg):FnOk P w K mg base CX0 5 Y.a__law_likings Y.d__law_likings zbC (zgV zjq):=by
 have G__law_take:FnOk P w K mg base CX0 1 Y.a__law_take Y.d__law_take zao zd7:=zdG Y
 have G__law_pick:FnOk P w K mg base CX0 2 Y.a__law_pick Y.d__law_pick zan (zcC K):=zdK Y
 have G__law_conds:FnOk P w K mg base CX0 4 Y.a__law_conds Y.d__law_conds zbF zja:=zkJ Y
 refine Y._law_likings.fn.okQ zbE (λvs H Q E h=>?_) `X2
 ·obtain ⟨a,h,m,n,O,rfl,_⟩:=h;rfl
 ·obtain ⟨a,h,m,n,O,rfl,hH,hn,hh,hm,nh,nm,q⟩:=h
  refine⟨_,(zh (zL 3 zbE.nd (zbb zb))
   (zh (zcz U2 rfl (zdF Y.range (za (zU zaS (zf G__law_take `n3 Y._law_take.mg Y._law_take.kp Y._law_take.b .nil zi (za (qv 0) (za ze zb))) (zU zbO ze (zG zdk Y.int zdQ (za (zbH zaX (zf G__law_take `n3 Y._law_take.mg Y._law_take.kp Y._law_take.b .nil zi (za (qv 0) (za ze zb))) ze) zb)))) zb)) (zl 4 zbE.nd) (zh (zL 5 zbE.nd (zf G__law_pick `n3 Y._law_pick.mg Y._law_pick.kp Y._law_pick.b .nil zi (za (qv 0) (za (zbb (za ze (za ze (za ze (za (zpG zhO ze) (za ze (za ze (za (zpG zhO ze) (za za9 zb))))))))) zb))))
   (zj (zdY (zdm F.plainAttrs_list F.slot_list_append F.type_list_append zau (qv 3) (za (zaf (za (zf G__law_conds `n3 Y._law_conds.mg Y._law_conds.kp Y._law_conds.b .nil zi (za (qv 0) (za (qv 1) (za (qv 2) (za zei zb))))) (za (qv 5) zb))) zb))))))
   (zj (zw (zG zC Y.tuple zX (za (qv 3) zb)))))),?_⟩
  refine⟨few rfl,λls hls=>?_⟩
  have nls:=hH.ne hls
  refine⟨_,rfl,a,4,n,rfl,hH.new hls,(),⋯,⋯,λt H1 t0 t4 hH1 k1=>⟨_,rfl,a,8,n+1,rfl,hH1,(),⋯,⋯,λu H2 u0 u8 hH2 k2=>?_⟩⟩
  have hl1:H1 ls=some (.lst []):=k1 _ _ nls upd_same
  have hl2:H2 ls=some (.lst []):=k2 _ _ nls hl1
  have kp2:Keep a H H2:=((Keep.new hls).trans k1).trans k2
  refine⟨rfl, .inr ⟨_,rfl,_,_,rfl,rfl, .inl ⟨⋯,⋯⟩,_,_,rfl,rfl,_,rfl,?_,?_,?_⟩⟩
  ·split<;>lia
  ·split<;>lia
  have hN:(t+9*(if decide (V.int u=V.int 0)=true then(1:Int)else 0)).toNat<=12:=by split<;>lia
  generalize (t+9*(if decide (V.int u=V.int 0)=true then(1:Int)else 0)).toNat=N at *
  refine zcE zc9 (λi σ' H'=>(∃o1 o2,σ'=[some (.ref a),some (.ref h),some (.ref m),some (.ref ls),o1,o2])/\zrS (zjq O) H' ls i/\Hand H' a (n+2+18*i)/\Keep a H H') ?_ (λ_ _ _ _=>trivial) ?_ ?_
  ·exact ⟨⟨_,_,rfl⟩,⟨[],[],hl2,RepL.nil,rfl,λ_ z=>nomatch z⟩,hH2.mono (),kp2⟩
  ·rintro i y σ' H3 hi rfl ⟨⟨o1,o2,rfl⟩,⟨zs,ds,hz,rz,hdl,hds⟩,hH3,k3⟩
   have rz1:=rz.1
   refine⟨_,rfl,zsX (ds:=[.int 5, .int 5, .int 1, .int (-3), .int 0, .int 999, .int (-999), .non]) (by (repeat' (first|exact dsp_str ⋯|exact zqa|exact dsp_bl|exact zqY|exact zqB|exact zoU|exact dsp_dnew|exact dsp_disp rfl|exact dsp_var rfl (by assumption)|refine zne ?_ ?_|refine dsp_tup ?_ ?_|refine dsp_lst' ?_|refine n_cons ?_ ?_|exact n_nil|exact v_c|exact v_var rfl|refine v_tup ?_|refine zor ?_ ?_|refine dspl_cat ?_ ?_ ?_|exact dspl_var rfl (by assumption) (by assumption)|exact Nat.le_of_ble_eq_true rfl))) λl4 vs4 H4 s4 e4 r4=>?_⟩
   refine⟨a,_,hH3.same s4,(), .inl ⟨l4,_,rfl,zlj (hH3.same s4) e4 r4 ⋯,SqL.of e4,by rw[r4.1];decide,by rw[r4.1];decide,λv H5 hv hH5 k5=>?_⟩⟩
   obtain⟨dn,rn,hw,hwo⟩:∃dn,Rep H5 v dn/\zT dn=true/\zaq O dn=true:=by
    obtain⟨j,hj,ej⟩:=List.getElem_of_mem hv
    obtain⟨d,hd,rd⟩:=r4.get (i:=j) (v:=v) (by rw[l0 hj,ej])
    refine⟨d,rd.mono (.keep k5 (hH3.same s4) hH5),?_⟩
    have key:∀d∈([.int 5, .int 5, .int 1, .int (-3), .int 0, .int 999, .int (-999), .non]:List D),zT d=true/\zaq O d=true:=by (repeat' (first|exact zlK|refine List.forall_mem_append.mpr ⟨?_,?_⟩|refine List.forall_mem_cons.mpr ⟨?_,?_⟩))<;>exact ⟨⋯,rfl⟩
    exact key d (L0 hd)
   have k35:Keep a H3 H5:=(Keep.of s4).trans k5
   have hz5:=k35 _ _ nls hz
   have hh5:=(hh.keep k3 nh).keep k35 nh
   have hm5:=(hm.keep k3 nm).keep k35 nm
   refine⟨_,rfl, .inl ⟨rfl,_,SqL.of hz5⟩,_,rfl,_,rfl,_,rfl,a,h,m,_,false,O,rfl,hH5,(),hh5,hm5,nh,nm,λvc dc H6 rc lc hc hco hto hH6 k6=>⟨_,rfl,few rfl,λp7 hp7=>?_⟩⟩
   have m36:Mono H3 H6:=(Mono.keep k35 hH3 hH5).trans (.keep k6 hH5 hH6)
   have hz7:upd H6 p7 (.tup [vc,v]) ls=some (.lst zs):=by rw[zn (zB (k6 _ _ nls hz5) hp7)];exact k6 _ _ nls hz5
   refine⟨ls,_,_,rfl,rfl,hz7,zE (),⟨_,_,rfl⟩,⟨_,ds ++ [.tup [.tup dc,dn]],upd_same,?_,?_,?_⟩,?_,?_⟩
   ·exact RepL.mono (.append ((rz.mono m36).mono (.new hp7)) (.cons (.mk2 upd_same (rc.mono (.new hp7)) ((rn.mono (.keep k6 hH5 hH6)).mono (.new hp7))) .nil)) (.lset hz7)
   ·rw[O0,hdl];rfl
   ·intro d hd
    rcases G1.mp hd with hd|hd
    ·exact hds d hd
    ·rw[E1.mp hd];exact R0 _ _▸⟨zm2 lc hc (hto rfl) hw,ziv hco hwo⟩
   ·exact ((hH6.new hp7).updNe nls).mono (by rw[show((i+1:Nat):Int)=(i:Int)+1 by lia];lia)
   ·exact Keep.updNew ((k3.trans (k35.trans k6)).trans (Keep.new hp7)) hls
  ·rintro σ' H3 ⟨⟨o1,o2,rfl⟩,⟨zs,ds,hz,rz,hdl,hds⟩,hH3,k3⟩
   refine⟨_,rfl,ls,zs,rfl, .inl ⟨SqL.of hz,λp hp=>?_⟩⟩
   exact q _ ds _ (.mkL upd_same () (rz.mono (.new hp))) () hds ((hH3.new hp).mono ()) (k3.trans (Keep.new hp))
theorem zqO{x:D}(hl:ds.length<=4)(h:∀d∈ds,zo d=true)(hx:zZ x=true):zaG (.tup [.tup ds,x])=true:=by
 rw[zjt,zj3 hl h,hx];rfl
theorem zpF(hx:zm x=true)(hy:y="put"\/y="strike"):zZ (.tup [.str y, .str x])=true:=by
 rw[zl8,zbx,hx]
 rcases hy with rfl|rfl<;>decide +kernel
theorem zoh(Y:Ev K mg):FnOk P w K mg base CX0 5 Y.a__law_hands Y.d__law_hands zcf (zgV zjI):=by
 have G__law_take:FnOk P w K mg base CX0 1 Y.a__law_take Y.d__law_take zao zd7:=zdG Y
 have G__law_pick:FnOk P w K mg base CX0 2 Y.a__law_pick Y.d__law_pick zan (zcC K):=zdK Y
 have G__law_conds:FnOk P w K mg base CX0 4 Y.a__law_conds Y.d__law_conds zbF zja:=zkJ Y
 refine Y._law_hands.fn.okQ zch (λvs H Q E h=>?_) `X2
 ·obtain ⟨a,h,m,n,O,rfl,_⟩:=h;rfl
 ·obtain ⟨a,h,m,n,O,rfl,hH,hn,hh,hm,nh,nm,q⟩:=h
  refine⟨_,(zh (zL 3 zch.nd (zbb zb))
   (zh (zcz U2 rfl (zdF Y.range (za (zU zaS (zf G__law_pick `n3 Y._law_pick.mg Y._law_pick.kp Y._law_pick.b .nil zi (za (qv 0) (za (zhc [V.int 0,V.int 0,V.int 1,V.int 2] `Y2) zb))) (zU zbO ze (zG zdk Y.int zdQ (za (zbH zaX (zf G__law_take `n3 Y._law_take.mg Y._law_take.kp Y._law_take.b .nil zi (za (qv 0) (za ze zb))) ze) zb)))) zb)) (zl 4 zch.nd) (zh (zL 5 zch.nd (zf G__law_pick `n3 Y._law_pick.mg Y._law_pick.kp Y._law_pick.b .nil zi (za (qv 0) (za (zbb (za (zaf (za zy zb)) (za (zaf (za zy (za (zf G__law_pick `n3 Y._law_pick.mg Y._law_pick.kp Y._law_pick.b .nil zi (za (qv 0) (za (qv 2) zb))) zb))) (za (zaf (za zy (za (zf G__law_pick `n3 Y._law_pick.mg Y._law_pick.kp Y._law_pick.b .nil zi (za (qv 0) (za (qv 2) zb))) zb))) zb)))) zb))))
   (zj (zdY (zdm F.plainAttrs_list F.slot_list_append F.type_list_append zau (qv 3) (za (zaf (za (zf G__law_conds `n3 Y._law_conds.mg Y._law_conds.kp Y._law_conds.b .nil zi (za (qv 0) (za (qv 1) (za (qv 2) (za zei zb))))) (za (qv 5) zb))) zb))))))
   (zj (zw (zG zC Y.tuple zX (za (qv 3) zb)))))),?_⟩
  refine⟨few rfl,λls hls=>?_⟩
  have nls:=hH.ne hls
  have hH0:=hH.new (o:= .lst []) hls
  refine⟨_,rfl,⋯,λpk hpk=>⟨a,n,hH0.new hpk,(), .inl ⟨pk,_,rfl,hH0.ne hpk,SqL.of upd_same,⋯,⋯,λv H1 hv hH1 k1=>?_⟩⟩⟩
  obtain⟨c,rfl,c0,c4⟩:∃c:Int,v= .int c/\0<=c/\c<=4:=by
   simp only[I0,U1,or_false] at hv
   rcases hv with rfl|rfl|rfl|rfl<;>exact ⟨_,rfl,⋯,⋯⟩
  refine⟨_,rfl,a,8,n+1,rfl,hH1,(),⋯,⋯,λu H2 u0 u8 hH2 k2=>?_⟩
  have hl0:upd H ls (.lst []) ls=some (.lst []):=upd_same
  have hl1:H1 ls=some (.lst []):=k1 _ _ nls (by rw[zn (zB hl0 hpk)];exact hl0)
  have hl2:H2 ls=some (.lst []):=k2 _ _ nls hl1
  have kp2:Keep a H H2:=((Keep.new hls).trans ((Keep.new hpk).trans k1)).trans k2
  refine⟨rfl, .inr ⟨_,rfl,_,_,rfl,rfl, .inl ⟨⋯,⋯⟩,_,_,rfl,rfl,_,rfl,?_,?_,?_⟩⟩
  ·split<;>lia
  ·split<;>lia
  have hN:(c+8*(if decide (V.int u=V.int 0)=true then(1:Int)else 0)).toNat<=12:=by split<;>lia
  generalize (c+8*(if decide (V.int u=V.int 0)=true then(1:Int)else 0)).toNat=N at *
  refine zcE zc9 (λi σ' H'=>(∃o1 o2,σ'=[some (.ref a),some (.ref h),some (.ref m),some (.ref ls),o1,o2])/\zrS (zjI O) H' ls i/\Hand H' a (n+2+20*i)/\Keep a H H') ?_ (λ_ _ _ _=>trivial) ?_ ?_
  ·exact ⟨⟨_,_,rfl⟩,⟨[],[],hl2,RepL.nil,rfl,λ_ z=>nomatch z⟩,hH2.mono (),kp2⟩
  ·rintro i y σ' H3 hi rfl ⟨⟨o1,o2,rfl⟩,⟨zs,ds,hz,rz,hdl,hds⟩,hH3,k3⟩
   have rz1:=rz.1
   refine⟨_,rfl,few rfl,λp1 hp1=>?_⟩
   have S1:Same H3 (upd H3 p1 (.tup [.str "keep"])):=Same.new hp1
   have hm3:=hm.keep k3 nm
   have hh3:=hh.keep k3 nh
   refine⟨_,rfl,_,rfl,zdl (hH3.new hp1) () (hm3.same S1) nm λx H4 hx hH4 k4=>⟨few rfl,λp2 hp2=>?_⟩⟩
   have S2:Same H4 (upd H4 p2 (.tup [.str "put", .str x])):=Same.new hp2
   refine⟨_,rfl,_,rfl,zdl (hH4.new hp2) () (((hm3.same S1).keep k4 nm).same S2) nm λy H5 hy hH5 k5=>⟨few rfl,λp3 hp3=>⟨few rfl,λp4 hp4=>?_⟩⟩⟩
   have S3:Same H5 (upd H5 p3 (.tup [.str "strike", .str y])):=Same.new hp3
   have S4:Same (upd H5 p3 (.tup [.str "strike", .str y])) (upd (upd H5 p3 (.tup [.str "strike", .str y])) p4 (.lst [.ref p1, .ref p2, .ref p3])):=Same.new hp4
   have hH6:=(hH5.new (o:= .tup [.str "strike", .str y]) hp3).new (o:= .lst [.ref p1, .ref p2, .ref p3]) hp4
   refine⟨a,_,hH6,(), .inl ⟨p4,_,rfl,Hand.ne (hH5.new hp3) hp4,SqL.of upd_same,(by decide:0<3),(by decide:3<1000),λv H7 hv hH7 k7=>?_⟩⟩
   have M2:Mono (upd H3 p1 (.tup [.str "keep"])) H4:=Mono.keep k4 (hH3.new hp1) hH4
   have M3:=Mono.keep k5 (hH4.new hp2) hH5
   have M5:=Mono.keep k7 hH6 hH7
   have M45:=((Mono.of S3).trans (Mono.of S4)).trans M5
   have k37:Keep a H3 H7:=(((((Keep.of S1).trans k4).trans (Keep.of S2)).trans k5).trans ((Keep.of S3).trans (Keep.of S4))).trans k7
   obtain⟨da,ra,haa,hao⟩:∃da,Rep H7 v da/\zZ da=true/\zaq O da=true:=by
    simp only[I0,U1,or_false] at hv
    rcases hv with rfl|rfl|rfl
    ·exact ⟨.tup [.str "keep"],Rep.mono (.mk1 upd_same (.str _ ⋯)) (((M2.trans (.of S2)).trans M3).trans M45),`Y2,rfl⟩
    ·exact ⟨.tup [.str "put", .str x],Rep.mono (.mk2 upd_same (.str _ ⋯) (.str _ (zQ hx.1))) (M3.trans M45),zpF hx.1 (.inl rfl),zbZ hx.2⟩
    ·exact ⟨.tup [.str "strike", .str y],Rep.mono (.mk2 upd_same (.str _ ⋯) (.str _ (zQ hy.1))) ((Mono.of S4).trans M5),zpF hy.1 (.inr rfl),zbZ hy.2⟩
   have hz7:=k37 _ _ nls hz
   refine⟨_,rfl, .inl ⟨rfl,_,SqL.of hz7⟩,_,rfl,_,rfl,_,rfl,a,h,m,_,true,O,rfl,hH7,(),hh3.keep k37 nh,hm3.keep k37 nm,nh,nm,λvc dc H8 rc lc hc hco hto hH8 k8=>⟨_,rfl,few rfl,λp9 hp9=>?_⟩⟩
   have m38:Mono H3 H8:=(Mono.keep k37 hH3 hH7).trans (.keep k8 hH7 hH8)
   have hz9:upd H8 p9 (.tup [vc,v]) ls=some (.lst zs):=by rw[zn (zB (k8 _ _ nls hz7) hp9)];exact k8 _ _ nls hz7
   refine⟨ls,_,_,rfl,rfl,hz9,zE (),⟨_,_,rfl⟩,⟨_,ds ++ [.tup [.tup dc,da]],upd_same,?_,?_,?_⟩,?_,?_⟩
   ·exact RepL.mono (.append ((rz.mono m38).mono (.new hp9)) (.cons (.mk2 upd_same (rc.mono (.new hp9)) ((ra.mono (.keep k8 hH7 hH8)).mono (.new hp9))) .nil)) (.lset hz9)
   ·rw[O0,hdl];rfl
   ·intro d hd
    rcases G1.mp hd with hd|hd
    ·exact hds d hd
    ·rw[E1.mp hd];exact R0 _ _▸⟨zqO lc hc haa,ziv hco hao⟩
   ·exact ((hH8.new hp9).updNe nls).mono (by rw[show((i+1:Nat):Int)=(i:Int)+1 by lia];lia)
   ·exact Keep.updNew ((k3.trans (k37.trans k8)).trans (Keep.new hp9)) hls
  ·rintro σ' H3 ⟨⟨o1,o2,rfl⟩,⟨zs,ds,hz,rz,hdl,hds⟩,hH3,k3⟩
   refine⟨_,rfl,ls,zs,rfl, .inl ⟨SqL.of hz,λp hp=>?_⟩⟩
   exact q _ ds _ (.mkL upd_same () (rz.mono (.new hp))) () hds ((hH3.new hp).mono ()) (k3.trans (Keep.new hp))
def TD(H:Hp)(d:Addr)(xs:List Str)(c:Nat):Prop:=∃(kvs:List (List Key×V)) (ps:List (Str×Str)),H d=some (.dT kvs)/\kvs.map (·.1)=ps.map zh4/\ps.length<=c/\∀p∈ps,p.1∈xs/\p.2∈xs/\ltS p.1 p.2=true
theorem zm3{k:List Key}:(zff kvs k v).map (·.1)=kvs.map (·.1)\/(zff kvs k v).map (·.1)=kvs.map (·.1)++ [k]:=by
 unfold zff
 by_cases h:(kvs.any λkv=>decide (kv.1=k))=true
 ·rw[p0 h]
  refine .inl ?_
  rw[List.map_map]
  apply List.map_congr_left
  intro x _
  show(if x.1=k then(x.1,v)else x).1=x.1
  split<;>rfl
 ·rw[V0 h,U0]
  exact .inr rfl
theorem TD.put{d:Addr}{xs:List Str}{p:Str×Str}(h1:kvs.map (·.1)=ps.map zh4)(h2:ps.length<=c)(h3:∀p∈ps,p.1∈xs/\p.2∈xs/\ltS p.1 p.2=true)(hp:p.1∈xs/\p.2∈xs/\ltS p.1 p.2=true):
 TD (upd H d (.dT (zff kvs (zh4 p) v))) d xs (c+1):=by
 rcases zm3 (kvs:=kvs) (k:=zh4 p) (v:=v)with e|e
 ·exact ⟨_,ps,upd_same,e.trans h1,(),h3⟩
 ·refine ⟨_,ps ++ [p],upd_same,by rw[e,h1,U0];rfl,by rw[O0];show ps.length+1<=_;lia,λq hq=>?_⟩
  rcases G1.mp hq with hq|hq
  ·exact h3 q hq
  ·rw[E1.mp hq];exact hp
theorem TD.keep{d:Addr}{xs:List Str}(h:TD H d xs c)(k:Keep a H H')(n:d≠a):TD H' d xs c:=let⟨kvs,ps,e,r⟩:=h;⟨kvs,ps,k _ _ n e,r⟩
theorem TD.mono{d:Addr}{xs:List Str}{c':Nat}(h:TD H d xs c)(l:c<=c'):TD H d xs c':=let⟨kvs,ps,e,f,g,r⟩:=h;⟨kvs,ps,e,f,F1 g l,r⟩
theorem zoY(h:x≠y):ltS (if ltS y x=true then y else x) (if ltS x y=true then y else x)=true:=by
 cases e:ltS x y with
 |true=>rw[zrt e];simp only[G2,if_false,if_true];exact e
 |false=>
  have:=zgP h e
  rw[this];simp only[G2,if_false,if_true];exact this
noncomputable def zmM:Sp:=λvs H Q _=>∃(a h:Addr) (n:Int) (more:Nat) (xs:List Str),vs=[.ref a, .ref h, .int more]/\Hand H a n/\n<2^38/\H h=some (.lst (xs.map V.str))/\h≠a/\1<=xs.length/\xs.length<=10/\xs.Nodup/\(∀x∈xs,zm x=true)/\more<=30/\
 ∀(v:V) (ps:List (Str×Str)) (H':Hp),Rep H' v (.tup (ps.map pairD))->ps.Pairwise (λa b=>ltP a b=true)->(∀p∈ps,p.1∈xs/\p.2∈xs/\ltS p.1 p.2=true)->Hand H' a (n+100)->Keep a H H'->Q v H'
theorem zq7(Y:Ev K mg):FnOk P w K mg base CX0 3 Y.a__law_ties Y.d__law_ties zcL zmM:=by
 have G__law_take:FnOk P w K mg base CX0 1 Y.a__law_take Y.d__law_take zao zd7:=zdG Y
 have G__law_pick:FnOk P w K mg base CX0 2 Y.a__law_pick Y.d__law_pick zan (zcC K):=zdK Y
 refine Y._law_ties.fn.okQ zbu (λvs H Q E h=>?_) `X2
 ·obtain ⟨a,h,n,more,xs,rfl,_⟩:=h;rfl
 ·obtain ⟨a,h,n,more,xs,rfl,hH,hn,hh,nh,x1,x10,hnd,hxn,hmore,q⟩:=h
  refine⟨_,(zh (zL 3 zbu.nd zqp)
   (zh (zcz U2 rfl (zr2 Y.range (za ze (za (zp zH Y.len zaC (za (qv 1) zb)) zb))) (zl 4 zbu.nd) (zh (zoB 5 6 zbu.nd (za (zN zA (qv 1) (qv 4)) (za (zN zA (qv 1) (zf G__law_take `n3 Y._law_take.mg Y._law_take.kp Y._law_take.b .nil zi (za (qv 0) (za (qv 4) zb)))) zb)))
   (zj (zar (zM zmh (zf G__law_take `n3 Y._law_take.mg Y._law_take.kp Y._law_take.b .nil zi (za (qv 0) (za ze zb))) ze) (zj (zpl (hu1 hr) (qv 3) (zaf (za (zp (zg6 rfl) Y.min zi5 (za (qv 5) (za (qv 6) zb))) (za (zp (zg7 rfl) Y.max zl9 (za (qv 5) (za (qv 6) zb))) zb))) zei)) zS))))
   (zh (zcz U2 rfl (zdF Y.range (za (qv 2) zb)) (zl 4 zbu.nd) (zh (zoB 5 6 zbu.nd (za (zf G__law_pick `n3 Y._law_pick.mg Y._law_pick.kp Y._law_pick.b .nil zi (za (qv 0) (za (qv 1) zb))) (za (zf G__law_pick `n3 Y._law_pick.mg Y._law_pick.kp Y._law_pick.b .nil zi (za (qv 0) (za (qv 1) zb))) zb)))
   (zj (zar (zM zfN (qv 5) (qv 6)) (zj (zpl (hu1 hr) (qv 3) (zaf (za (zp (zg6 rfl) Y.min zi5 (za (qv 5) (za (qv 6) zb))) (za (zp (zg7 rfl) Y.max zl9 (za (qv 5) (za (qv 6) zb))) zb))) zei)) zS))))
   (zj (zw (zG zC Y.tuple zX (za (zp (zjH rfl) Y.sorted ziy (za (qv 3) zb)) zb))))))),?_⟩
  intro d hd
  have nd:=hH.ne hd
  have ndh:d≠h:=λz=>by rw[z,hh] at hd;cases hd
  have hh0:upd H d (.dT []) h=some (.lst (xs.map V.str)):=by rw[zn (Ne.symm ndh)];exact hh
  refine⟨_,rfl, .inl ⟨h,_,rfl, .inl (SqL.of hh0),1,_,rfl,⟨⋯,⋯,(),by rw[B0];lia⟩,?_⟩⟩
  have hN:(((xs.map V.str).length:Int) -1).toNat=xs.length -1:=by rw[B0];lia
  rw[hN]
  refine zcE zc9 (λi σ' H'=>(∃o1 o2 o3,σ'=[some (.ref a),some (.ref h),some (.int more),some (.ref d),o1,o2,o3])/\TD H' d xs i/\Hand H' a (n+2*i)/\Keep a H H') ?_ (λ_ _ _ _=>trivial) ?_ ?_
  ·exact ⟨⟨_,_,_,rfl⟩,⟨[],[],upd_same,rfl,K0 _,λ_ z=>nomatch z⟩,(hH.new hd).mono (),Keep.new hd⟩
  ·rintro i y σ' H1 hi rfl ⟨⟨o1,o2,o3,rfl⟩,td,hH1,k1⟩
   have hh1:=k1 _ _ nh hh
   have g1:atI (xs.map V.str) (1+(i:Int))=some (.str (xs.getD (i+1) "")):=by
    have hi1:i+1<xs.length:=()
    rw[Int.add_comm]
    exact zbi (j:=i+1) (by simp[hi1,List.getD])
   refine⟨_,rfl,_,rfl,h,_,_,_,rfl,rfl,SqL.of hh1,g1,_,rfl,_,rfl,_,rfl,a,_,_,rfl,hH1,(),(),(),λt' H2 t0 t1 hH2 k2=>?_⟩
   obtain⟨t,rfl⟩:∃t:Nat,t'=(t:Int):=⟨t'.toNat,()⟩
   have hh2:=k2 _ _ nh hh1
   have ht:t<xs.length:=()
   have g2:atI (xs.map V.str) (t:Int)=some (.str (xs.getD t "")):=zbi (by simp[ht,List.getD])
   have hne:xs.getD (i+1) ""≠xs.getD t "":=by
    have hi1:i+1<xs.length:=()
    have:=zo4 hnd hi1 ht ()
    simpa[List.getD,hi1,ht] using this
   have mx1:xs.getD (i+1) ""∈xs:=by have hi1:i+1<xs.length:=()
                                    simp[List.getD,hi1]
   have mx2:xs.getD t ""∈xs:=by simp[List.getD,ht]
   generalize xs.getD (i+1) ""=x at *
   generalize xs.getD t ""=y at *
   refine⟨h,_,_,_,rfl,rfl,SqL.of hh2,g2,_,_,rfl,?_⟩
   have td2:=td.keep k2 nd
   refine⟨_,rfl,a,9,_,rfl,hH2,(),⋯,⋯,λu H3 u0 u9 hH3 k3=>⟨_,_,rfl,rfl,_,rfl,zak (λ_=>?_) (λ_=>?_)⟩⟩
   ·obtain ⟨kvs,ps,hkv,hkk,hpl,hpg⟩:=td2.keep k3 nd
    refine⟨_,rfl,_,rfl,_,rfl,x,y,rfl,_,rfl,_,rfl,x,y,rfl,few rfl,λp hp=>?_⟩
    have hkv4:upd H3 p (.tup [.str (if ltS y x=true then y else x), .str (if ltS x y=true then y else x)]) d=some (.dT kvs):=by rw[zn (zB hkv hp)];exact hkv
    have hlk:kvs.length=ps.length:=by have:=congrArg List.length hkk;simpa using this
    refine⟨d,_,rfl,DPut.t (k:=zh4 (if ltS y x=true then y else x,if ltS x y=true then y else x)) hkv4 upd_same (zE ()),⟨_,_,_,rfl⟩,TD.put hkk hpl hpg ⟨?_,?_,zoY hne⟩,?_,?_⟩
    ·dsimp only;split<;>assumption
    ·dsimp only;split<;>assumption
    ·exact ((hH3.new hp).updNe nd).mono (by rw[show((i+1:Nat):Int)=(i:Int)+1 by lia];lia)
    ·exact Keep.updNew (((k1.trans k2).trans k3).trans (Keep.new hp)) hd
   ·exact ⟨⟨_,_,_,rfl⟩,(td2.keep k3 nd).mono (),hH3.mono (by rw[show((i+1:Nat):Int)=(i:Int)+1 by lia];lia),(k1.trans k2).trans k3⟩
  ·rintro σ' H1 ⟨⟨o1,o2,o3,rfl⟩,td,hH1,k1⟩
   refine⟨_,rfl,more,rfl,(),(),?_⟩
   rw[Q2]
   refine zcE zc9 (λi σ' H'=>(∃o1 o2 o3,σ'=[some (.ref a),some (.ref h),some (.int more),some (.ref d),o1,o2,o3])/\TD H' d xs (9+i)/\Hand H' a (n+20+2*i)/\Keep a H H') ?_ (λ_ _ _ _=>trivial) ?_ ?_
   ·exact ⟨⟨_,_,_,rfl⟩,td.mono (),hH1.mono (),k1⟩
   ·rintro i y σ' H2 hi rfl ⟨⟨o1,o2,o3,rfl⟩,td2,hH2,k2⟩
    have pk:∀{H0:Hp} {n0:Int} {R:VK},Hand H0 a n0->n0<2^40->H0 h=some (.lst (xs.map V.str))->(∀x H',x∈xs->Hand H' a (n0+1)->Keep a H0 H'->R (.str x) H')->zcC K [.ref a, .ref h] H0 R E0:=λhH0 hn0 e0 qq=>
     ⟨a,_,hH0,hn0, .inl ⟨h,_,rfl,nh,SqL.of e0,by rw[B0];lia,by rw[B0];lia,λv H' hv hH' k'=>by
       obtain⟨x,hx,rfl⟩:=T1.mp hv
       exact qq x H' hx hH' k'⟩⟩
    have hh2:=k2 _ _ nh hh
    refine⟨_,rfl,_,rfl,pk hH2 () hh2 λx H3 hx hH3 k3=>⟨_,rfl,_,rfl,pk hH3 () (k3 _ _ nh hh2) λy H4 hy hH4 k4=>⟨_,_,rfl,_,rfl,_,rfl,rfl,_,rfl,zak (λhc=>?_) (λ_=>?_)⟩⟩⟩
    ·have hne:x≠y:=λz=>by rw[z] at hc;simp at hc
     obtain⟨kvs,ps,hkv,hkk,hpl,hpg⟩:=(td2.keep k3 nd).keep k4 nd
     refine⟨_,rfl,_,rfl,_,rfl,x,y,rfl,_,rfl,_,rfl,x,y,rfl,few rfl,λp hp=>?_⟩
     have hkv4:upd H4 p (.tup [.str (if ltS y x=true then y else x), .str (if ltS x y=true then y else x)]) d=some (.dT kvs):=by rw[zn (zB hkv hp)];exact hkv
     have hlk:kvs.length=ps.length:=by have:=congrArg List.length hkk;simpa using this
     refine⟨d,_,rfl,DPut.t (k:=zh4 (if ltS y x=true then y else x,if ltS x y=true then y else x)) hkv4 upd_same (zE ()),⟨_,_,_,rfl⟩,TD.put hkk hpl hpg ⟨?_,?_,zoY hne⟩,?_,?_⟩
     ·dsimp only;split<;>assumption
     ·dsimp only;split<;>assumption
     ·exact ((hH4.new hp).updNe nd).mono (by rw[show((i+1:Nat):Int)=(i:Int)+1 by lia];lia)
     ·exact Keep.updNew (((k2.trans k3).trans k4).trans (Keep.new hp)) hd
    ·exact ⟨⟨_,_,_,rfl⟩,((td2.keep k3 nd).keep k4 nd).mono (),hH4.mono (by rw[show((i+1:Nat):Int)=(i:Int)+1 by lia];lia),(k2.trans k3).trans k4⟩
   ·rintro σ' H2 ⟨⟨o1,o2,o3,rfl⟩,⟨kvs,ps,hkv,hkk,hpl,hpg⟩,hH2,k2⟩
    refine⟨_,rfl,d,kvs,ps,rfl,hkv,hkk,(),λps' vs l hperm hpw hpa hl=>⟨l,vs,rfl, .inl ⟨SqL.of upd_same,λp hp=>?_⟩⟩⟩
    have S:Same H2 (upd (upd H2 l (.lst vs)) p (.tup vs)):=(Same.new hl).trans (Same.new hp)
    refine q _ ps' _ (.mkL upd_same (by rw[B0,hperm.length_eq];lia) ⟨by rw[B0];exact hpa.1,λi v dd e1 e2=>?_⟩) hpw (λp hp=>hpg p (hperm.mem_iff.mp hp)) ((hH2.same S).mono ()) (k2.trans (Keep.of S))
    rw[W0] at e2
    cases e3:ps'[i]? with
    |none=>rw[e3] at e2;cases e2
    |some pr=>
     rw[e3] at e2
     cases e2
     obtain⟨b,rfl,hb⟩:=hpa.2 i v pr e1 e3
     have hpr:=hpg pr (hperm.mem_iff.mp (L0 e3))
     exact .mk2 (S _ _ hb) (.str _ (zQ (hxn _ hpr.1))) (.str _ (zQ (hxn _ hpr.2.1)))
noncomputable def zpy:Sp:=λvs H Q _=>∃(a:Addr) (n:Int),vs=[.ref a]/\Hand H a n/\n<2^36/\∀(v:V) (g:Str) (hs:List Str) (ps:List (Str×Str)) (lks hds:List D) (H':Hp),Rep H' v (ze0 g hs ps lks hds)->TownOk g hs ps lks hds->(∀x∈hs,x≠"nowhere")->(∃O,Pool hs lks hds O)->(∀d∈lks,∃ds,d= .tup ds/\ds.length<=12)->(∀d∈hds,∃ds,d= .tup ds/\ds.length<=12)->Hand H' a (n+9000)->Keep a H H'->Q v H'
theorem zhX(e:d= .tup ds)(h:ds.length<=12)(h2:∀d∈ds,zjq O d=true):zK d=true/\zcO O d=true/\∃es,d= .tup es/\es.length<=12:=by
 subst e
 refine⟨?_,T0.mpr λd hd=>((R0 _ _).mp (h2 d hd)).2,ds,rfl,h⟩
 show(decide (ds.length<=90)&&ds.all z7)=true
 rw[D0 (),T0.mpr λd hd=>((R0 _ _).mp (h2 d hd)).1];rfl
theorem zkj(e:d= .tup ds)(h:ds.length<=12)(h2:∀d∈ds,zjI O d=true):zah d=true/\zcO O d=true/\∃es,d= .tup es/\es.length<=12:=by
 subst e
 refine⟨?_,T0.mpr λd hd=>((R0 _ _).mp (h2 d hd)).2,ds,rfl,h⟩
 show(decide (ds.length<=90)&&ds.all zaG)=true
 rw[D0 (),T0.mpr λd hd=>((R0 _ _).mp (h2 d hd)).1];rfl
theorem zqq(Y:Ev K mg):FnOk P w K mg base CX0 6 Y.a__law_town Y.d__law_town zcZ zpy:=by
 have G__law_take:FnOk P w K mg base CX0 1 Y.a__law_take Y.d__law_take zao zd7:=zdG Y
 have G__law_pick:FnOk P w K mg base CX0 2 Y.a__law_pick Y.d__law_pick zan (zcC K):=zdK Y
 have G__law_names:FnOk P w K mg base CX0 3 Y.a__law_names Y.d__law_names zcj zj7:=znu Y
 have G__law_ties:FnOk P w K mg base CX0 3 Y.a__law_ties Y.d__law_ties zcL zmM:=zq7 Y
 have G__law_likings:FnOk P w K mg base CX0 5 Y.a__law_likings Y.d__law_likings zbC (zgV zjq):=zmc Y
 have G__law_hands:FnOk P w K mg base CX0 5 Y.a__law_hands Y.d__law_hands zcf (zgV zjI):=zoh Y
 refine Y._law_town.fn.okQ zal (λvs H Q E h=>?_) `X2
 ·obtain ⟨a,n,rfl,_⟩:=h;rfl
 ·obtain ⟨a,n,rfl,hH,hn,q⟩:=h
  refine⟨_,(zh (zL 1 zal.nd (zN zA (zbb (za ze (za ze (za ze (za ze (za ze (za ze (za ze (za (zU zaS ze (zf G__law_take `n3 Y._law_take.mg Y._law_take.kp Y._law_take.b .nil zi (za (qc 0) (za ze zb)))) zb))))))))) (zf G__law_take `n3 Y._law_take.mg Y._law_take.kp Y._law_take.b .nil zi (za (qc 0) (za ze zb)))))
   (zh (ziZ 2 zal.nd (zf G__law_names `n3 Y._law_names.mg Y._law_names.kp Y._law_names.b .nil zi (za (qc 0) (za (zU zaS (qv 1) ze) zb))))
   (zh (zeT (zaf (za (zfd zaN (qc 2) zbM (za2 (qv 1))) (za (zfd zaN (qc 2) (za2 (qv 1)) zbM) zb))) (zdi 2 rfl (zu (zl 3 zal.nd) (zu (zmZ 4 zal.nd) zaA))))
   (zh (zL 5 zal.nd (zf G__law_ties `n3 Y._law_ties.mg Y._law_ties.kp Y._law_ties.b .nil zi (za (qc 0) (za (qv 3) (za (zf G__law_take `n3 Y._law_take.mg Y._law_take.kp Y._law_take.b .nil zi (za (qc 0) (za ze zb))) zb)))))
   (zh (zL 6 zal.nd (zf G__law_pick `n3 Y._law_pick.mg Y._law_pick.kp Y._law_pick.b .nil zi (za (qc 0) (za (qv 3) zb))))
   (zh (zL 7 zal.nd (zG zC Y.tuple zX (za (zp ziX Y.sorted ziy (za (qv 3) zb)) zb)))
   (zh (zL 8 zal.nd (zG zC Y.tuple zX (za (zaB (src:=[none,some 0,some 4,some 2]) zeP rfl rfl (zb2 (qv 7)) (λ_ _ _ _ _=>(zl 0 zeP.nd)) (λ_ _ _ _ _=>zaJ) (λ_ _ _ _ _=>(zf G__law_likings `n3 Y._law_likings.mg Y._law_likings.kp Y._law_likings.b .nil zi (za (qc 1) (za (qc 3) (za (qc 2) zb)))))) zb)))
   (zh (zL 9 zal.nd (zG zC Y.tuple zX (za (zaB (src:=[none,some 0,some 4,some 2]) ze2 rfl rfl (zb2 (qv 7)) (λ_ _ _ _ _=>(zl 0 ze2.nd)) (λ_ _ _ _ _=>zaJ) (λ_ _ _ _ _=>(zf G__law_hands `n3 Y._law_hands.mg Y._law_hands.kp Y._law_hands.b .nil zi (za (qc 1) (za (qc 3) (za (qc 2) zb)))))) zb)))
   (zj (zw (zaf (za (qv 6) (za (qv 7) (za (qv 5) (za (qv 8) (za (qv 9) zb)))))))))))))))),?_⟩
  refine⟨_,rfl,a,5,n,rfl,hH,(),⋯,⋯,λt H1 t0 t5 hH1 k1=>⟨_,_,rfl,rfl,few rfl,λpl hpl=>⟨_,rfl,a,8,n+1,rfl,hH1.new hpl,(),⋯,⋯,λu H2 u0 u8 hH2 k2=>?_⟩⟩⟩
  have hpl2:=k2 _ _ (hH1.ne hpl) (upd_same (o:= .lst [V.int 2,V.int 3,V.int 3,V.int 4,V.int 4,V.int 5,V.int 1,V.int (6+t)]))
  obtain⟨v,ev,hv⟩:=zgS (xs:=[V.int 2,V.int 3,V.int 3,V.int 4,V.int 4,V.int 5,V.int 1,V.int (6+t)]) u0 u8
  obtain⟨m,rfl,m1,m10⟩:∃m:Nat,v= .int (m:Int)/\1<=m/\m<=10:=by
   simp only[I0,U1,or_false] at hv
   rcases hv with rfl|rfl|rfl|rfl|rfl|rfl|rfl|rfl
   ·exact ⟨2,rfl,⋯,⋯⟩
   ·exact ⟨3,rfl,⋯,⋯⟩
   ·exact ⟨3,rfl,⋯,⋯⟩
   ·exact ⟨4,rfl,⋯,⋯⟩
   ·exact ⟨4,rfl,⋯,⋯⟩
   ·exact ⟨5,rfl,⋯,⋯⟩
   ·exact ⟨1,rfl,⋯,⋯⟩
   ·exact ⟨(6+t).toNat,by congr 1;lia,(),()⟩
  have kp2:Keep a H H2:=(k1.trans (Keep.new hpl)).trans k2
  refine⟨pl,_,_,_,rfl,rfl,SqL.of hpl2,ev,?_⟩
  refine⟨_,rfl,_,rfl,_,_,rfl,rfl,a,n+1+1,m+3,by push_cast;rfl,hH2,(),(),(),λln xs H3 hln hl3 hlen hxn hxd hxw hH3 k3=>?_⟩
  have nln:ln≠a:=hH2.ne hln
  refine⟨_,rfl,_,rfl,_,rfl,ln,_,rfl,SqL.of hl3,λp1 hp1=>?_⟩
  have S1:Same H3 (upd H3 p1 (.lst (za0 (xs.map V.str) none (some (m:Int))))):=Same.new hp1
  refine⟨_,rfl,_,rfl,_,rfl,ln,_,rfl,SqL.of (S1 _ _ hl3),λp2 hp2=>⟨few rfl,λp3 hp3=>?_⟩⟩
  have S2:=Same.new (o:= .lst (za0 (xs.map V.str) (some (m:Int)) none)) hp2
  have S3:=Same.new (o:= .tup [V.ref p1,V.ref p2]) hp3
  have S13:=(S1.trans S2).trans S3
  have hp1':=S3 _ _ (S2 _ _ (upd_same (H:=H3) (a:=p1) (o:= .lst (za0 (xs.map V.str) none (some (m:Int))))))
  have hp2':=S3 _ _ (upd_same (H:=upd H3 p1 (.lst (za0 (xs.map V.str) none (some (m:Int))))) (a:=p2) (o:= .lst (za0 (xs.map V.str) (some (m:Int)) none)))
  refine⟨p3,_,rfl, .inl (.inl upd_same),rfl,_,_,rfl,_,_,rfl,rfl,?_⟩
  have hl4:=S13 _ _ hl3
  have hH4:=hH3.same S13
  have np1:p1≠a:=hH3.ne hp1
  have np2:p2≠a:=(hH3.same S1).ne hp2
  have kp4:=(kp2.trans k3).trans (Keep.of S13)
  generalize (upd (upd (upd H3 p1 (HO.lst (za0 (xs.map V.str) none (some (m:Int))))) p2 (HO.lst (za0 (xs.map V.str) (some (m:Int)) none))) p3 (HO.tup [V.ref p1,V.ref p2]))=H4 at *
  rw[zhJ,←List.map_take] at hp1'
  rw[zd4,←List.map_drop] at hp2'
  have hth:(xs.take m).length=m:=by rw[K1];lia
  have htn:∀x∈xs.take m,zm x=true:=λx hx=>hxn x (List.mem_of_mem_take hx)
  have htw:∀x∈xs.take m,x≠"nowhere":=λx hx=>hxw x (List.mem_of_mem_take hx)
  have htd:(xs.take m).Nodup:=hxd.sublist (List.take_sublist m xs)
  have hdn:∀x∈xs.drop m,zm x=true:=λx hx=>hxn x (List.mem_of_mem_drop hx)
  have hdl:(xs.drop m).length=3:=by rw[List.length_drop];lia
  have hto:∀x∈xs.take m,x∈xs:=λx hx=>List.mem_of_mem_take hx
  have hdo:∀x∈xs.drop m,x∈xs:=λx hx=>List.mem_of_mem_drop hx
  generalize xs.take m=hs at *
  generalize xs.drop m=ms at *
  have NLn:NL xs H4 ln:=⟨xs,hl4,(),(),λx hx=>⟨hxn x hx,hx⟩⟩
  have NLm:NL xs H4 p2:=⟨ms,hp2',(),(),λx hx=>⟨hdn x hx,hdo x hx⟩⟩
  refine⟨_,rfl,_,rfl,_,rfl,a,5,_,rfl,hH4,(),⋯,⋯,λmo' H5 mo0 mo5 hH5 k45=>?_⟩
  obtain⟨mo,rfl⟩:∃mo:Nat,mo'=(mo:Int):=⟨mo'.toNat,()⟩
  have mo30:mo<=30:=()
  have hp15:=k45 _ _ np1 hp1'
  refine⟨a,p1,_,mo,hs,rfl,hH5,(),hp15,np1,(),(),htd,htn,mo30,λvt ps H6 rt hpw hpg hH6 k6=>?_⟩
  have hp16:=k6 _ _ np1 hp15
  refine⟨_,rfl,_,rfl,a,_,hH6,(), .inl ⟨p1,_,rfl,np1,SqL.of hp16,by rw[B0];lia,by rw[B0];lia,λvg H7 hvg hH7 k7=>?_⟩⟩
  obtain⟨g,hg,rfl⟩:=T1.mp hvg
  have hp17:=k7 _ _ np1 hp16
  have rt7:=rt.mono (.keep k7 hH6 hH7)
  refine⟨_,rfl,p1,hs,rfl,SqL.of hp17,(),htd,λhs' l hperm hrise hl=>⟨l,_,rfl, .inl ⟨SqL.of upd_same,λpr hpr=>?_⟩⟩⟩
  have S8:Same H7 (upd (upd H7 l (.lst (hs'.map V.str))) pr (.tup (hs'.map V.str))):=(Same.new hl).trans (Same.new hpr)
  have hpr8:(upd (upd H7 l (.lst (hs'.map V.str))) pr (.tup (hs'.map V.str))) pr=some (.tup (hs'.map V.str)):=upd_same
  have hH8:=hH7.same S8
  have rt8:=rt7.same S8
  have npr:pr≠a:=(hH7.new hl).ne hpr
  have k48:Keep a H4 (upd (upd H7 l (.lst (hs'.map V.str))) pr (.tup (hs'.map V.str))):=((k45.trans k6).trans k7).trans (Keep.of S8)
  have hlen':hs'.length=m:=by rw[hperm.length_eq];exact hth
  generalize (upd (upd H7 l (HO.lst (hs'.map V.str))) pr (HO.tup (hs'.map V.str)))=H8 at *
  have NLn8:=NLn.keep k48 nln
  have NLm8:=NLm.keep k48 np2
  refine⟨_,rfl,pr,rfl,⟨_, .inl (.inl hpr8)⟩,?_⟩
  refine zgt (a:=a) (m:=n+300) (c:=400) (Pd:=λ_ d=>zK d=true/\zcO xs d=true/\∃es,d= .tup es/\es.length<=12) (σr:=[some (.ref a),some (.ref p2),some (.ref ln)]) (zaT (K:=K) (xs:=hs'.map V.str)) (λH' k=> .inl (.inl (k _ _ npr hpr8))) rfl (hH8.mono ()) (by rw[B0];lia) ⋯ (λi x H9 Q1 hi hH9 k9 q1=>?_) (λl1 vl lks H9 hl1 hl1' rl hll pl9 hH9 k9=>?_)
  ·rw[B0] at hi
   exact⟨_,rfl,_,rfl,_,rfl,a,ln,p2,_,xs,rfl,hH9,(),NLn8.keep k9 nln,NLm8.keep k9 np2,nln,np2,λv ds H10 rv hds hg10 hH10 k10=>q1 v _ H10 rv (zhX rfl hds hg10) hH10 k10⟩
  refine⟨l1,vl,rfl, .inl ⟨SqL.of hl1',λpA hpA=>?_⟩⟩
  rw[B0] at hll hH9
  have SA:=Same.new (o:= .tup vl) hpA
  have rlA:Rep (upd H9 pA (.tup vl)) (.ref pA) (.tup lks):= .mkL upd_same () (rl.mono (.new hpA))
  have hHA:=hH9.new (o:= .tup vl) hpA
  have k8A:Keep a H8 (upd H9 pA (.tup vl)):=k9.trans (Keep.of SA)
  generalize (upd H9 pA (HO.tup vl))=HA at *
  have hprA:=k8A _ _ npr hpr8
  refine⟨_,rfl,pr,rfl,⟨_, .inl (.inl hprA)⟩,?_⟩
  refine zgt (a:=a) (m:=n+300+400*hs'.length) (c:=400) (Pd:=λ_ d=>zah d=true/\zcO xs d=true/\∃es,d= .tup es/\es.length<=12) (σr:=[some (.ref a),some (.ref p2),some (.ref ln)]) (zaT (K:=K) (xs:=hs'.map V.str)) (λH' k=> .inl (.inl (k _ _ npr hprA))) rfl hHA (by rw[B0];lia) ⋯ (λi x HB Q1 hi hHB kB q1=>?_) (λl2 va hds HB hl2 hl2' ra hla plB hHB kB=>?_)
  ·rw[B0] at hi
   exact⟨_,rfl,_,rfl,_,rfl,a,ln,p2,_,xs,rfl,hHB,(),(NLn8.keep k8A nln).keep kB nln,(NLm8.keep k8A np2).keep kB np2,nln,np2,λv ds H10 rv hds hg10 hH10 k10=>q1 v _ H10 rv (zkj rfl hds hg10) hH10 k10⟩
  refine⟨l2,va,rfl, .inl ⟨SqL.of hl2',λpB hpB=>?_⟩⟩
  rw[B0] at hla hHB
  have SB:=Same.new (o:= .tup va) hpB
  have mAB:Mono HA (upd HB pB (.tup va)):=(Mono.keep kB hHA hHB).trans (.of SB)
  have raB:Rep (upd HB pB (.tup va)) (.ref pB) (.tup hds):= .mkL upd_same () (ra.mono (.new hpB))
  have kAB:Keep a HA (upd HB pB (.tup va)):=kB.trans (Keep.of SB)
  have hHB':=hHB.new (o:= .tup va) hpB
  have rlB:=rlA.mono mAB
  have rtB:=(rt8.mono (.keep k8A hH8 hHA)).mono mAB
  have hprB:=kAB _ _ npr hprA
  refine⟨_,rfl,_,rfl,_,rfl,_,rfl,_,rfl,few rfl,λpT hpT=>?_⟩
  have rr:Rep (upd HB pB (.tup va)) (.ref pr) (.tup (hs'.map D.str)):=by
   refine .mkL hprB (by rw[B0];lia) ⟨by rw[B0,B0],λi v d e1 e2=>?_⟩
   rw[W0] at e1 e2
   cases e3:hs'[i]? with
   |none=>rw[e3] at e1;cases e1
   |some x=>
    rw[e3] at e1 e2
    cases e1
    cases e2
    exact .str x (zQ (htn x (hperm.mem_iff.mp (L0 e3))))
  have ST:=Mono.new (o:= .tup [.str g, .ref pr,vt, .ref pA, .ref pB]) hpT
  have rtown:=Rep.mkL (H:=upd (upd HB pB (.tup va)) pT (.tup [.str g, .ref pr,vt, .ref pA, .ref pB])) (p:=pT) (vs:=[.str g, .ref pr,vt, .ref pA, .ref pB]) (ds:=[.str g, .tup (hs'.map D.str), .tup (ps.map pairD), .tup lks, .tup hds]) upd_same (Nat.le_of_ble_eq_true rfl) (.cons (.str g (zQ (htn g hg))) (.cons (rr.mono ST) (.cons (rtB.mono ST) (.cons (rlB.mono ST) (.cons (raB.mono ST) .nil)))))
  have pl9':=zhe (P:=λd=>zK d=true/\zcO xs d=true/\∃es,d= .tup es/\es.length<=12) pl9
  have plB':=zhe (P:=λd=>zah d=true/\zcO xs d=true/\∃es,d= .tup es/\es.length<=12) plB
  refine q _ g hs' ps lks hds _ rtown ⟨hrise,(),(),λx hx=>htn x (hperm.mem_iff.mp hx),hperm.mem_iff.mpr hg,hpw,λp hp=>?_,(),(),λd hd=>(pl9' d hd).1,λd hd=>(plB' d hd).1⟩ (λx hx=>htw x (hperm.mem_iff.mp hx)) ⟨xs,⟨(),hxn,λx hx=>hto x (hperm.mem_iff.mp hx),λd hd=>(pl9' d hd).2.1,λd hd=>(plB' d hd).2.1⟩⟩ (λd hd=>(pl9' d hd).2.2) (λd hd=>(plB' d hd).2.2) ((hHB'.new hpT).mono ()) (((kp4.trans k48).trans (k8A.trans kAB)).trans (Keep.new hpT))
  obtain⟨h1,h2,h3⟩:=hpg p hp
  exact⟨hperm.mem_iff.mpr h1,hperm.mem_iff.mpr h2,h3⟩
theorem zag{o:HO}(s:Same H H')(h:H l=none):Same H (upd H' l o):=λb u e=>by rw[zn (zB e h)];exact s b u e
theorem znJ{a:D}(h:zt (.tup [.str x,a])=true):(zbc a).length<=8:=by
 rcases zaa h with⟨rfl,i,rfl,h0,h9⟩|⟨_,y,rfl,hy⟩
 ·exact F1 (zeg () ()) ⋯
 ·show y.length<=8
  unfold zm at hy
  simp only[R0,decide_eq_true_eq] at hy
  lia
theorem zcW(h:zt d=true):(zdb d).length<=13:=by
 obtain⟨x,a,rfl⟩:=zO d h
 have h1:=znJ h
 have h2:=zfp h
 show(x ++" "++zbc a).length<=13
 have h3:(" ":Str).length=1:=rfl
 rw[zg,zg,h3];lia
theorem ze7(h:zo d=true):(condT d).length<=17:=by
 obtain⟨x,a,rfl⟩:=zai d h
 rw[zaE] at h
 show(if x="not"then "not "++zdb a else x ++" "++zbc a).length<=17
 split at h
 ·rename_i e
  rw[p0 e,zg]
  have:=zcW h
  have h3:("not ":Str).length=4:=rfl
  lia
 ·rename_i e
  rw[V0 e]
  have h4:(x ++" "++zbc a).length<=13:=zcW h
  lia
theorem zaK(h:zT d=true):d= .non\/∃i,d= .int i/\-999<=i/\i<=999:=by
 cases d with
 |non=>exact .inl rfl
 |int i=>
  have h:(decide ((-999:Int)<=i)&&decide (i<=999))=true:=h
  rw[R0] at h
  exact .inr ⟨i,rfl,B1 h.1,B1 h.2⟩
 |_=>cases h
theorem zaZ(h:zT d=true):(zF d).length<=15:=by
 rcases zaK h with rfl|⟨i,rfl,h0,h9⟩
 ·decide
 ·exact F1 (zeg h0 h9) ⋯
theorem za8(hy:zm y=true):y.length<=8:=by
 unfold zm at hy
 simp only[R0,decide_eq_true_eq] at hy
 lia
theorem zbU(h:zZ d=true):∃xs:List Str,d= .tup (xs.map D.str)/\zbw d=Str.join " " xs/\(zbw d).length<=15/\xs.length<=2/\∀x∈xs,x.length<=8:=by
 rcases zhC h with rfl|⟨w,y,rfl,hw,hy⟩
 ·exact ⟨["keep"],rfl,rfl,(by decide:("keep":Str).length<=15),⋯,λx hx=>by rw[E1.mp hx];decide⟩
 ·have h8:=za8 hy
  have hw6:w.length<=6:=by rcases hw with rfl|rfl<;>decide
  refine⟨[w,y],rfl,rfl,?_,(by decide:2<=2),λx hx=>?_⟩
  ·show (w ++" "++y).length<=15
   have h3:(" ":Str).length=1:=rfl
   rw[zg,zg,h3];lia
  ·simp only[I0,U1,or_false] at hx
   rcases hx with rfl|rfl<;>lia
def zgJ(pr:D->Bool)(d:D):Prop:=∃rs,d= .tup rs/\rs.length<=90/\∀r∈rs,∃cs x,r= .tup [.tup cs,x]/\cs.length<=4/\(∀c∈cs,zo c=true)/\pr x=true
theorem zeE(h:zK d=true):zgJ zT d:=by
 cases d with
 |tup rs=>
  have h:(decide (rs.length<=90)&&rs.all z7)=true:=h
  rw[R0] at h
  refine⟨rs,rfl,B1 h.1,λr hr=>?_⟩
  have hk:=T0.mp h.2 r hr
  unfold z7 at hk
  obtain⟨c,x,rfl,hk⟩:=zod (f:=λc x=>zad c&&zT x&&!zfE c) hk
  rw[R0,R0] at hk
  obtain⟨cs,rfl,h4,hc⟩:=zkW hk.1.1
  exact⟨cs,x,rfl,h4,hc,hk.1.2⟩
 |_=>cases h
theorem zey(h:zah d=true):zgJ zZ d:=by
 cases d with
 |tup rs=>
  have h:(decide (rs.length<=90)&&rs.all zaG)=true:=h
  rw[R0] at h
  exact⟨rs,rfl,B1 h.1,λr hr=>zq6 (T0.mp h.2 r hr)⟩
 |_=>cases h
theorem zl2{w h t:Str}{cs:List Str}(lw:w.length<=4)(lh:h.length<=8)(lt:t.length<=15)(lc:cs.length<=4)(hc:∀c∈cs,c.length<=17):(zbm w h t cs).length<=200:=by
 have l1:(" ":Str).length=1:=rfl
 have l4:(" if ":Str).length=4:=rfl
 have hh:(zce w h t).length<=29:=by unfold zce;rw[zg,zg,zg,zg,l1];lia
 have jl:=zdg (sep:=" and ") (m:=5) ⋯ hc
 unfold zbm
 split
 ·lia
 ·rw[zg,zg,l4];lia
theorem zpt{pr:D->Bool}{f:D->Str}{w h:Str}{r:D}(hf:∀x,pr x=true->(f x).length<=15)(lw:w.length<=4)(lh:h.length<=8)(hr:∃cs x,r= .tup [.tup cs,x]/\cs.length<=4/\(∀c∈cs,zo c=true)/\pr x=true):(zec w f h r).length<=200:=by
 obtain⟨cs,x,rfl,lc,hc,hx⟩:=hr
 exact zl2 lw lh (hf x hx) (by rw[B0];exact lc) λc hc'=>by
  obtain⟨d,hd,rfl⟩:=T1.mp hc'
  exact ze7 (hc d hd)
theorem zn5{pr:D->Bool}{f:D->Str}{w h:Str}(hf:∀x,pr x=true->(f x).length<=15)(lw:w.length<=4)(lh:h.length<=8)(hd:zgJ pr d):(ziu w f h d).length<=90/\∀t∈ziu w f h d,t.length<=200:=by
 obtain⟨rs,rfl,l9,hr⟩:=hd
 refine⟨by show(rs.map _).length<=90;rw[B0];exact l9,λt ht=>?_⟩
 obtain⟨r,hrm,rfl⟩:=T1.mp (show t∈rs.map (zec w f h)from ht)
 exact zpt hf lw lh (hr r hrm)
theorem zeu{pr:D->Bool}{f:D->Str}{w:Str}(hf:∀x,pr x=true->(f x).length<=15)(lw:w.length<=4):∀ps:List (Str×D),(∀p∈ps,p.1.length<=8/\zgJ pr p.2)->(ps.flatMap λp=>ziu w f p.1 p.2).length<=90*ps.length/\∀t∈ps.flatMap (λp=>ziu w f p.1 p.2),t.length<=200
 |[],_=>⟨K0 _,λ_ h=>by cases h⟩
 |p::ps,h=>by
  obtain⟨h1,h2⟩:=zeu hf lw ps λq hq=>h q (N0 _ hq)
  obtain⟨g1,g2⟩:=h p Q0
  obtain⟨k1,k2⟩:=zn5 hf lw g1 g2
  rw[List.flatMap_cons]
  refine⟨by rw[O0,Z0];lia,λt ht=>?_⟩
  rcases G1.mp ht with ht|ht
  ·exact k2 t ht
  ·exact h2 t ht
theorem zi7{pr:D->Bool}(h1:∀x∈hs,zm x=true)(h2:∀d∈ds,zgJ pr d):∀p∈hs.zip ds,p.1.length<=8/\zgJ pr p.2:=λp hp=>⟨za8 (h1 _ (List.of_mem_zip hp).1),h2 _ (List.of_mem_zip hp).2⟩
noncomputable def zr(w:Str)(f:D->Str)(hs:List Str)(ds:List D)(i:Nat):List Str:=((hs.zip ds).take i).flatMap λp=>ziu w f p.1 p.2
theorem zgZ{w:Str}{f:D->Str}{h:Str}{rs:List D}(e1:hs[i]?=some h)(e2:ds[i]?=some (.tup rs)):zr w f hs ds (i+1)=zr w f hs ds i ++rs.map (zec w f h):=by
 unfold zr
 rw[zh8 e1 e2,List.flatMap_append]
 congr 1
 rw[List.flatMap_cons,List.flatMap_nil,O1];rfl
theorem zok{w:Str}{f:D->Str}(h:ds.length=hs.length):zr w f hs ds hs.length=zhR w f hs ds:=by
 unfold zr zhR
 rw[List.take_of_length_le (by rw[List.length_zip];lia)]
theorem zd8{pr:D->Bool}{w:Str}{f:D->Str}(hf:∀x,pr x=true->(f x).length<=15)(lw:w.length<=4)(h1:∀x∈hs,zm x=true)(h2:∀d∈ds,zgJ pr d)(h10:hs.length<=10):(zr w f hs ds i).length<=900:=by
 have:=(zeu hf lw ((hs.zip ds).take i) λp hp=>zi7 h1 h2 p (List.mem_of_mem_take hp)).1
 have e:((hs.zip ds).take i).length<=10:=by rw[K1,List.length_zip];lia
 unfold zr;lia
theorem big(h:n<=100000):n<=sizeLine:=F1 h (Nat.le_of_ble_eq_true rfl)
theorem zeM(h:n<100000):n<sizeLine:=C1 h (Nat.le_of_ble_eq_true rfl)
theorem zfV{g:Str}(T:TownOk g hs ps lks hds)(hp:ps.length<=1000):((zac g hs ps lks hds).map (·.length)).sum+(zac g hs ps lks hds).length<=1048576/\(Str.join "\n" (zac g hs ps lks hds)).length<=1048576:=by
 have hn:∀x∈hs,x.length<=8:=λx hx=>za8 (T.names x hx)
 have h10:=T.ten
 have z1:=zeu (w:="like") (f:=zF) (λx hx=>zaZ hx) ⋯ (hs.zip lks) (zi7 T.names λd hd=>zeE (T.likes d hd))
 have z2:=zeu (w:="hand") (f:=zbw) (λx hx=>(zbU hx).choose_spec.2.2.1) ⋯ (hs.zip hds) (zi7 T.names λd hd=>zey (T.hands d hd))
 have e1:(hs.zip lks).length<=10:=by rw[List.length_zip];lia
 have e2:(hs.zip hds).length<=10:=by rw[List.length_zip];lia
 have l1:(" ":Str).length=1:=rfl
 have all:∀t∈zac g hs ps lks hds,t.length<=200:=by
  intro t ht
  unfold zac at ht
  rcases G1.mp ht with ht|ht
  ·rcases G1.mp ht with ht|ht
   ·rcases G1.mp ht with ht|ht
    ·simp only[I0,U1,or_false] at ht
     rcases ht with rfl|rfl
     ·have:=hn g T.goal
      have l5:("goal ":Str).length=5:=rfl
      rw[zg,l5];lia
     ·have jl:=zdg (sep:=" ") (m:=1) ⋯ hn
      have l7:("houses ":Str).length=7:=rfl
      rw[zg,l7];lia
    ·obtain ⟨p,hp,rfl⟩:=T1.mp ht
     obtain⟨t1,t2,_⟩:=T.ties p hp
     have:=hn _ t1
     have:=hn _ t2
     have l4:("tie ":Str).length=4:=rfl
     unfold zcw
     rw[zg,zg,zg,l4,l1];lia
   ·exact z1.2 t ht
  ·exact z2.2 t ht
 have len:(zac g hs ps lks hds).length<=2900:=by
  unfold zac zhR
  rw[O0,O0,O0,B0]
  have:(["goal "++g,"houses "++Str.join " " hs]:List Str).length=2:=rfl
  have a1:=z1.1
  have a2:=z2.1
  lia
 have s:=zdC all
 have j:=zdg (sep:="\n") (m:=1) ⋯ all
 lia
noncomputable def zeQ(c:D->Bool)(f:D->Str):Sp:=λvs H Q _=>∃v d,vs=[v]/\Rep H v d/\c d=true/\Q (.str (f d)) H
theorem le1(h:n<=1000):n<=sizeLine:=Nat.le_of_lt (zE h)
theorem zfQ{c:D->Bool}{f:D->Str}(Y:Ev K mg)(G_show_cond:FnOk P w K mg base CX0 k Y.a_show_cond Y.d_show_cond za4 (zeQ c f))(c':D->Bool)(f':D->Str)
 (hc:∀d,c' d=true->∃x e,d= .tup [.str x,e]) (h1:∀e,c' (.tup [.str "not",e])=true->c e=true/\f' (.tup [.str "not",e])="not "++f e/\(f e).length<=20)
 (h2:∀x e,c' (.tup [.str x,e])=true->¬x="not"->zt (.tup [.str x,e])=true/\f' (.tup [.str x,e])=x ++" "++zbc e):
 FnOk P w K mg base CX0 (k+1) Y.a_show_cond Y.d_show_cond za4 (zeQ c' f'):=by
 refine Y.show_cond.fn.okQ zcJ (λvs H Q E h=>?_) `X2
 ·obtain ⟨v,d,rfl,_⟩:=h;rfl
 ·obtain ⟨v,d,rfl,hd,hcd,q⟩:=h
  obtain⟨x,e,rfl⟩:=hc d hcd
  obtain⟨p,v0,v1,rfl,hp,r0,r1⟩:=hd.of2
  cases r0 with
  |str _ hx=>
  refine⟨_,(zh (zeT (qv 0) (zdi 2 rfl (zu (zl 1 zcJ.nd) (zu (zl 2 zcJ.nd) zaA))))
   (zj (zw (zgK (zM zaX (qv 1) zy) (zf3 (QJ.cons zc8 (QJ.cons (zbK (zf G_show_cond hr Y.show_cond.mg Y.show_cond.kp Y.show_cond.b .nil zi (za (qv 2) zb))) QJ.nil))) (zf3 (QJ.cons (zbK (qv 1)) (QJ.cons zc8 (QJ.cons (zbK (qv 2)) QJ.nil)))))))),?_⟩
  refine⟨_,rfl,p,_,rfl, .inl (.inl hp),rfl,_,_,rfl,_,_,rfl,rfl,?_⟩
  refine⟨_,rfl,rfl,_,rfl,zak (λel=>?_) (λel=>?_)⟩
  ·have el:=V.str.inj (B1 el)
   subst el
   obtain⟨ce,fe,le⟩:=h1 e hcd
   have l4:("not ":Str).length=4:=rfl
   refine⟨"not ", .inl rfl,le1 (by rw[l4];decide),le1 (by rw[zz,l4];decide),_,rfl,v1,e,rfl,r1,ce,f e, .inl rfl,le1 (),?_,?_,?_⟩
   ·rw[zz,zg,l4];exact le1 ()
   ·rw[zz,zg,l4];exact le1 ()
   ·rw[zz,←fe];exact q
  ·obtain ⟨hpl,fe⟩:=h2 x e hcd λz=>el (D0 (by rw[z]))
   have hw:=zfp hpl
   obtain⟨tx,tl⟩:=zpU r1 hpl
   have l1:(" ":Str).length=1:=rfl
   refine⟨_,rfl,x, .inl rfl,le1 (),by rw[zz];exact le1 ()," ", .inl rfl,le1 (by rw[l1];decide),by rw[zz,zg,l1];exact le1 (),_,rfl,zbc e,tx,le1 (),?_,?_,?_⟩
   ·rw[zz,zg,zg,l1];exact le1 ()
   ·rw[zz,zg,zg,l1];exact le1 ()
   ·rw[zz,←fe];exact q
theorem zoD(Y:Ev K mg):FnOk P w K mg base CX0 1 Y.a_show_cond Y.d_show_cond za4 (zeQ (λ_=>false) (λ_=>"")):=by
 refine Y.show_cond.fn.okQ zcJ (λvs H Q E h=>?_) `X2
 ·obtain ⟨v,d,rfl,_,z,_⟩:=h;cases z
 ·obtain ⟨v,d,rfl,_,z,_⟩:=h;cases z
theorem zdP{e:D}:condT (.tup [.str x,e])=if x="not"then "not "++zdb e else x ++" "++zbc e:=rfl
theorem zjh(Y:Ev K mg):FnOk P w K mg base CX0 3 Y.a_show_cond Y.d_show_cond za4 (zeQ zo condT):=by
 refine zfQ (c:=zt) (f:=zdb) Y ?_ zo condT zai ?_ ?_
 ·refine zfQ Y (zoD Y) zt zdb zO ?_ ?_
  ·intro e h
   exact absurd h (by rw[zcp];exact Y0)
  ·exact λx e h _=>⟨h,rfl⟩
 ·intro e h
  rw[zaE,p0 rfl] at h
  exact⟨h,by rw[zdP,p0 rfl],F1 (zcW h) ⋯⟩
 ·intro x e h z
  rw[zaE,V0 z] at h
  exact⟨h,by rw[zdP,V0 z]⟩
theorem zeV{c:D->Bool}{f:D->Str}(Y:Ev K mg)(G__law_cond_text:FnOk P w K mg base CX0 k Y.a__law_cond_text Y.d__law_cond_text z8 (zeQ c f))(c':D->Bool)(f':D->Str)
 (hc:∀d,c' d=true->∃x e,d= .tup [.str x,e]) (h1:∀e,c' (.tup [.str "not",e])=true->c e=true/\f' (.tup [.str "not",e])="not "++f e/\(f e).length<=20)
 (h2:∀x e,c' (.tup [.str x,e])=true->¬x="not"->zt (.tup [.str x,e])=true/\f' (.tup [.str x,e])=x ++" "++zbc e):
 FnOk P w K mg base CX0 (k+1) Y.a__law_cond_text Y.d__law_cond_text z8 (zeQ c' f'):=by
 refine Y._law_cond_text.fn.okQ zdn (λvs H Q E h=>?_) `X2
 ·obtain ⟨v,d,rfl,_⟩:=h;rfl
 ·obtain ⟨v,d,rfl,hd,hcd,q⟩:=h
  obtain⟨x,e,rfl⟩:=hc d hcd
  obtain⟨p,v0,v1,rfl,hp,r0,r1⟩:=hd.of2
  cases r0 with
  |str _ hx=>
  have a1:atI [V.str x,v1] 1=some v1:=zbi (j:=1) rfl
  refine⟨_,(zh (zar (zM zaX (zN zR (qv 0) ze) zy) (zj (zw (zU zY zy (zf G__law_cond_text hr Y._law_cond_text.mg Y._law_cond_text.kp Y._law_cond_text.b .nil zi (za (zN zR (qv 0) ze) zb))))) zS)
   (zj (zw (zU zY (zU zY (zN zR (qv 0) ze) zy) (zG znf Y.str zd2 (za (zN zR (qv 0) ze) zb)))))),?_⟩
  refine⟨_,rfl,p,_,0,_,rfl,rfl, .inl (.inl hp),at0,rfl,_,rfl,zak (λel=>?_) (λel=>?_)⟩
  ·have el:=V.str.inj (B1 el)
   subst el
   obtain⟨ce,fe,le⟩:=h1 e hcd
   have l4:("not ":Str).length=4:=rfl
   refine⟨_,rfl,p,_,1,_,rfl,rfl, .inl (.inl hp),a1,v1,e,rfl,r1,ce,"not ",f e,rfl,rfl,le1 (by rw[l4];lia),?_⟩
   rw[←fe];exact q
  ·obtain ⟨hpl,fe⟩:=h2 x e hcd λz=>el (D0 (by rw[z]))
   have hw:=zfp hpl
   obtain⟨tx,tl⟩:=zpU r1 hpl
   have l1:(" ":Str).length=1:=rfl
   refine⟨_,rfl,p,_,0,_,rfl,rfl, .inl (.inl hp),at0,x," ",rfl,rfl,le1 (by rw[l1];lia),_,rfl,p,_,1,_,rfl,rfl, .inl (.inl hp),a1,v1,zbc e,rfl,tx,x ++" ",zbc e,rfl,rfl,le1 (by rw[zg,l1];lia),?_⟩
   rw[←fe];exact q
theorem znh(Y:Ev K mg):FnOk P w K mg base CX0 1 Y.a__law_cond_text Y.d__law_cond_text z8 (zeQ (λ_=>false) (λ_=>"")):=by
 refine Y._law_cond_text.fn.okQ zdn (λvs H Q E h=>?_) `X2
 ·obtain ⟨v,d,rfl,_,z,_⟩:=h;cases z
 ·obtain ⟨v,d,rfl,_,z,_⟩:=h;cases z
theorem zo6(Y:Ev K mg):FnOk P w K mg base CX0 3 Y.a__law_cond_text Y.d__law_cond_text z8 (zeQ zo condT):=by
 refine zeV (c:=zt) (f:=zdb) Y ?_ zo condT zai ?_ ?_
 ·refine zeV Y (znh Y) zt zdb zO ?_ ?_
  ·intro e h
   exact absurd h (by rw[zcp];exact Y0)
  ·exact λx e h _=>⟨h,rfl⟩
 ·intro e h
  rw[zaE,p0 rfl] at h
  exact⟨h,by rw[zdP,p0 rfl],F1 (zcW h) ⋯⟩
 ·intro x e h z
  rw[zaE,V0 z] at h
  exact⟨h,by rw[zdP,V0 z]⟩
noncomputable def zkU:Sp:=λvs H Q _=>∃v d,vs=[v]/\Rep H v d/\zT d=true/\Q (.str (zF d)) H
theorem zhV(Y:Ev K mg):FnOk P w K mg base CX0 1 Y.a_show_worth Y.d_show_worth zci zkU:=by
 refine Y.show_worth.fn.okQ zjM (λvs H Q E h=>?_) `X2
 ·obtain ⟨v,d,rfl,_⟩:=h;rfl
 ·obtain ⟨v,d,rfl,hd,hw,q⟩:=h
  refine⟨_,(zj (zw (zgK (zM zed (qv 0) za9) zy (zG zfw Y.str zd2 (za (qv 0) zb))))),?_⟩
  rcases zaK hw with rfl|⟨i,rfl,i0,i9⟩
  ·cases hd
   exact⟨_,rfl,rfl,_,rfl,zcx rfl q⟩
  ·cases hd
   exact⟨_,rfl,rfl,_,rfl,zas rfl ⟨_,rfl,i,rfl,zf7 i0 i9,q⟩⟩
noncomputable def zgR:Sp:=λvs H Q _=>∃(wd ho to:Str) (v:V) (cs:List D),vs=[.str wd, .str ho, .str to,v]/\Rep H v (.tup cs)/\cs.length<=4/\(∀c∈cs,zo c=true)/\wd.length<=4/\ho.length<=8/\to.length<=15/\∀H',Same H H'->Q (.str (zbm wd ho to (cs.map condT))) H'
theorem zjO(Y:Ev K mg):FnOk P w K mg base CX0 4 Y.a_show_rule Y.d_show_rule zc0 zgR:=by
 have G_show_cond:FnOk P w K mg base CX0 3 Y.a_show_cond Y.d_show_cond za4 (zeQ zo condT):=zjh Y
 refine Y.show_rule.fn.okQ zgH (λvs H Q E h=>?_) `X2
 ·obtain ⟨wd,ho,to,v,cs,rfl,_⟩:=h;rfl
 ·obtain ⟨wd,ho,to,v,cs,rfl,hd,lc,hcs,lw,lh,lt,q⟩:=h
  obtain⟨pc,uc,rfl,hpc,rc,_⟩:=hd.ofT
  have hl:=rc.1
  have l1:(" ":Str).length=1:=rfl
  have l4:(" if ":Str).length=4:=rfl
  have cl:∀x∈cs.map condT,x.length<=17:=λx hx=>by
   obtain⟨c,hc,rfl⟩:=T1.mp hx
   exact ze7 (hcs c hc)
  have jl:=zdg (sep:=" and ") (m:=5) ⋯ cl
  have sl:=zdC cl
  rw[B0] at jl sl
  refine⟨_,(zh (zL 4 zgH.nd (zdm O2 F.slot_str_join F.type_str_join zjd zy (za (zaB (src:=[none]) zeZ rfl rfl (zb2 (qv 3)) (λ_ _ _ _ _=>(zl 0 zeZ.nd)) (λ_ _ _ _ _=>zaJ) (λ_ _ _ _ _=>(zf G_show_cond `n3 Y.show_cond.mg Y.show_cond.kp Y.show_cond.b .nil zi (za (qv 0) zb)))) zb)))
   (zj (zw (zgK (zjv (qv 3)) (zf3 (QJ.cons (zbK (qv 0)) (QJ.cons zc8 (QJ.cons (zbK (qv 1)) (QJ.cons zc8 (QJ.cons (zbK (qv 2)) (QJ.cons zc8 (QJ.cons (zbK (qv 4)) QJ.nil)))))))) (zf3 (QJ.cons (zbK (qv 0)) (QJ.cons zc8 (QJ.cons (zbK (qv 1)) (QJ.cons zc8 (QJ.cons (zbK (qv 2)) QJ.nil)))))))))),?_⟩
  refine⟨rfl,_,rfl,pc,rfl,⟨_, .inl (.inl hpc)⟩,?_⟩
  refine zaD (zaT (K:=K) (xs:=uc)) (λl i ys σ' H'=>(∃o,σ'=[o])/\ys=((cs.take i).map condT).map V.str/\Same H H') ?_ (λl i ys σ' H' hl z=> .inl (.inl (z.2.2 _ _ hpc))) ?_ ?_
  ·exact λl hl=>⟨⟨_,rfl⟩,rfl,Same.new hl⟩
  ·rintro l i y ys σ' H1 hl' hi hy ⟨⟨o,rfl⟩,rfl,s1⟩ hl1
   obtain⟨c,hc,rcc⟩:=rc.get hy
   refine⟨_,rfl,y,c,rfl,rcc.same s1,hcs c (L0 hc),hl1,zE (by rw[B0,B0,K1];lia),⟨_,rfl⟩,?_,zag s1 hl'⟩
   rw[N1,hc,U0,U0];rfl
  ·rintro l ys σ' H1 hl' ⟨⟨o,rfl⟩,rfl,s1⟩ hl1
   rw[hl,B2] at hl1
   refine⟨" and ",l,cs.map condT,rfl,rfl,SqL.of hl1,⋯,by rw[B0];lia,?_⟩
   rw[txj]
   have q:=q H1 s1
   refine⟨_,rfl,_, .inr (.inl ⟨uc, .inl (.inl (s1 _ _ hpc)),rfl⟩),zak (λhb=>?_) (λhb=>?_)⟩
   ·have hne:cs.map condT≠ []:=λz=>by
     have:cs=[]:=List.map_eq_nil_iff.mp z
     subst this
     have:uc=[]:=List.eq_nil_of_length_eq_zero hl
     subst this
     exact absurd hb ⋯
    have e:zbm wd ho to (cs.map condT)=zce wd ho to ++" if "++Str.join " and " (cs.map condT):=V0 hne
    rw[e] at q
    refine⟨_,rfl,wd, .inl rfl,le1 (),by rw[zz];exact le1 ()," ", .inl rfl,le1 (by rw[l1];decide),by rw[zz,zg,l1];exact le1 (),_,rfl,ho, .inl rfl,le1 (),by rw[zz,zg,zg,l1];exact le1 ()," ", .inl rfl,le1 (by rw[l1];decide),by rw[zz,zg,zg,zg,l1];exact le1 (),_,rfl,to, .inl rfl,le1 (),by rw[zz,zg,zg,zg,zg,l1];exact le1 ()," if ", .inl rfl,le1 (by rw[l4];decide),by rw[zz,zg,zg,zg,zg,zg,l1,l4];exact le1 (),_,rfl,_, .inl rfl,le1 (),?_,?_,?_⟩
    ·rw[zz,zg,zg,zg,zg,zg,zg,l1,l4];exact le1 ()
    ·rw[zz,zg,zg,zg,zg,zg,zg,l1,l4];exact le1 ()
    ·rw[zz];exact q
   ·have hne:cs=[]:=by
     cases uc with
     |nil=>exact List.eq_nil_of_length_eq_zero hl.symm
     |cons a b=>exact absurd rfl hb
    subst hne
    refine⟨_,rfl,wd, .inl rfl,le1 (),by rw[zz];exact le1 ()," ", .inl rfl,le1 (by rw[l1];decide),by rw[zz,zg,l1];exact le1 (),_,rfl,ho, .inl rfl,le1 (),by rw[zz,zg,zg,l1];exact le1 ()," ", .inl rfl,le1 (by rw[l1];decide),by rw[zz,zg,zg,zg,l1];exact le1 (),_,rfl,to, .inl rfl,le1 (),?_,?_,?_⟩
    ·rw[zz,zg,zg,zg,zg,l1];exact le1 ()
    ·rw[zz,zg,zg,zg,zg,l1];exact le1 ()
    ·rw[zz];exact q
theorem zr0(i:Nat):atI [V.str " if ",V.str " and "] (if decide (0<(i:Int))=true then 1 else 0)=some (V.str (if i=0 then" if "else " and ")):=by
 by_cases h:i=0
 ·subst h;exact at0
 ·rw[V0 h,p0 (D0 ())];exact zbi (j:=1) rfl
theorem zjr(Y:Ev K mg):FnOk P w K mg base CX0 4 Y.a__law_rule_text Y.d__law_rule_text za5 zgR:=by
 have G__law_cond_text:FnOk P w K mg base CX0 3 Y.a__law_cond_text Y.d__law_cond_text z8 (zeQ zo condT):=zo6 Y
 refine Y._law_rule_text.fn.okQ zaH (λvs H Q E h=>?_) `X2
 ·obtain ⟨wd,ho,to,v,cs,rfl,_⟩:=h;rfl
 ·obtain ⟨wd,ho,to,v,cs,rfl,hd,lc,hcs,lw,lh,lt,q⟩:=h
  obtain⟨pc,uc,rfl,hpc,rc,_⟩:=hd.ofT
  have hl:=rc.1
  have l1:(" ":Str).length=1:=rfl
  refine⟨_,(zh (zL 4 zaH.nd (zU zY (zU zY (zU zY (zU zY (qv 0) zy) (qv 1)) zy) (qv 2)))
   (zh (zcz U2 rfl (zsh Y.enumerate (za (qv 3) zb)) (zdi 2 rfl (zu (zl 5 zaH.nd) (zu (zl 6 zaH.nd) zaA))) (zj (zL 4 zaH.nd (zU zY (zU zY (qv 4) (zN zA (zbb (za zy (za zy zb))) (zG zdk Y.int zdQ (za (zbH zmh (qv 5) ze) zb)))) (zf G__law_cond_text `n3 Y._law_cond_text.mg Y._law_cond_text.kp Y._law_cond_text.b .nil zi (za (qv 6) zb))))))
   (zj (zw (qv 4))))),?_⟩
  refine⟨_,rfl,wd," ",rfl,rfl,le1 (by rw[l1];lia),_,rfl,wd ++" ",ho,rfl,rfl,le1 (by rw[zg,l1];lia),_," ",rfl,rfl,le1 (by rw[zg,zg,l1];lia),_,rfl,_,to,rfl,rfl,le1 (by rw[zg,zg,zg,l1];lia),?_⟩
  have hh:(zce wd ho to).length<=29:=by unfold zce;rw[zg,zg,zg,zg,l1];lia
  refine⟨_,rfl,pc,uc,rfl, .inl (.inl hpc),?_⟩
  refine zgW (n:=uc.length) (λi σ' H'=>(∃o5 o6,σ'=[some (.str wd),some (.str ho),some (.str to),some (.ref pc),some (.str (zb9 (zce wd ho to) 0 ((cs.take i).map condT))),o5,o6])/\(zb9 (zce wd ho to) 0 ((cs.take i).map condT)).length<=29+22*i/\Same H H') ⟨⟨_,_,rfl⟩,hh,Same.refl H⟩ ?_ ?_ ?_ ?_
  ·rintro i σ' H' hi ⟨_,_,s'⟩
   exact⟨uc,uc[i], .inl (.inl (s' _ _ hpc)),rfl,by simp[hi]⟩
  ·rintro σ' H' ⟨_,_,s'⟩
   exact⟨uc, .inl (.inl (s' _ _ hpc)),rfl,K0 _⟩
  ·rintro i x σ' H1 H2 hi ⟨⟨o5,o6,rfl⟩,la,s1⟩ ⟨T,y,rfl,hT,hy,rfl⟩
   have hy:=hy uc (.inl (.inl (s1 _ _ hpc)))
   obtain⟨c,hc,rcc⟩:=rc.get hy
   have S2:=Same.new (o:= .tup [.int (i:Int),y]) hT
   have lcc:=ze7 (hcs c (L0 hc))
   have tk:(cs.take (i+1)).map condT=(cs.take i).map condT ++ [condT c]:=by rw[N1,hc,U0];rfl
   have ll:((cs.take i).map condT).length=i:=by rw[B0,K1];lia
   have i4:i<4:=()
   refine⟨T,_,rfl, .inl (.inl upd_same),rfl,_,_,rfl,_,_,rfl,rfl,?_⟩
   refine⟨_,rfl,few rfl,λpl hpl=>⟨_,rfl,_,_,rfl,rfl, .inr ⟨_,rfl,pl,_,_,_,rfl,rfl,SqL.of upd_same,zr0 i,?_⟩⟩⟩
   have S3:=Same.new (o:= .lst [V.str " if ",V.str " and "]) hpl
   have e5:(if i=0 then(" if ":Str)else" and ").length<=5:=by split<;>decide
   have ea:zb9 (zce wd ho to) 0 ((cs.take (i+1)).map condT)=zb9 (zce wd ho to) 0 ((cs.take i).map condT)++(if i=0 then(" if ":Str)else(" and ":Str))++condT c:=by
    rw[tk,zgG,ll,Nat.zero_add]
    unfold zif
    by_cases h:i=0
    ·rw[p0 h,p0 h]
    ·rw[V0 h,V0 h]
   refine⟨_,_,rfl,rfl,le1 (),_,rfl,y,c,rfl,(rcc.same s1).same (S2.trans S3),hcs c (L0 hc),_,_,rfl,rfl,le1 (by rw[zg];lia),?_⟩
   exact⟨⟨_,_,by rw[ea];rfl⟩,by rw[ea,zg,zg];lia,s1.trans (S2.trans S3)⟩
  ·rintro σ' H1 ⟨⟨o5,o6,rfl⟩,la,s1⟩
   rw[hl,B2,zpQ]
   exact⟨_,rfl,q H1 s1⟩
theorem zmF{g:Str}(h:Rep H v (ze0 g hs ps lks hds)):ps.length<=1000:=by
 obtain⟨p,x1,x2,x3,x4,x5,rfl,hp,r1,r2,r3,r4,r5⟩:=zsc h
 obtain⟨_,_,_,_,_,b⟩:=r3.ofT
 rwa[B0] at b
theorem zkK{vt:List V}{y:V}(rt:RepL H vt (ps.map pairD))(hy:vt[i]?=some y):∃q p,ps[i]?=some q/\y= .ref p/\H p=some (.tup [.str q.1, .str q.2]):=by
 obtain⟨d,hd,rd⟩:=rt.get hy
 rw[W0] at hd
 cases e:ps[i]? with
 |none=>rw[e] at hd;cases hd
 |some q=>
  rw[e] at hd;cases hd
  obtain⟨p,v0,v1,rfl,hp,r0,r1⟩:=rd.of2
  cases r0
  cases r1
  exact⟨q,p,rfl,rfl,hp⟩
theorem zlb{g:Str}(T:TownOk g hs ps lks hds):((["goal "++g,"houses "++Str.join " " hs]++ps.map zcw)++zr "like" zF hs lks hs.length)++zr "hand" zbw hs hds hs.length=zac g hs ps lks hds:=by
 rw[zok T.ll,zok T.lh];rfl
noncomputable def zmv:Sp:=λvs H Q _=>∃(v:V) (g:Str) (hs:List Str) (ps:List (Str×Str)) (lks hds:List D),vs=[v]/\Rep H v (ze0 g hs ps lks hds)/\TownOk g hs ps lks hds/\∀H',Same H H'->Q (.str (Str.join "\n" (zac g hs ps lks hds))) H'
theorem zjF(Y:Ev K mg):FnOk P w K mg base CX0 5 Y.a_show_town Y.d_show_town zcI zmv:=by
 have G_show_rule:FnOk P w K mg base CX0 4 Y.a_show_rule Y.d_show_rule zc0 zgR:=zjO Y
 have G_show_worth:FnOk P w K mg base CX0 1 Y.a_show_worth Y.d_show_worth zci zkU:=zhV Y
 refine Y.show_town.fn.okQ zam (λvs H Q E h=>?_) `X2
 ·obtain ⟨v,g,hs,ps,lks,hds,rfl,_⟩:=h;rfl
 ·obtain ⟨v,g,hs,ps,lks,hds,rfl,hv,T,q⟩:=h
  have hps:=zmF hv
  obtain⟨p,pr,pt,pl,pa,vt,vl,va,rfl,hp,hpr,hpt,rt,hpl,rl,hpa,ra⟩:=zmG hv
  have TL:=zfV T hps
  have h1:=T.one
  have h10:=T.ten
  have hne:hs≠ []:=λz=>by rw[z] at h1;exact absurd h1 ⋯
  have hn8:∀x∈hs,x.length<=8:=λx hx=>za8 (T.names x hx)
  have g8:=hn8 g T.goal
  have sh:=zdC hn8
  have l5:("goal ":Str).length=5:=rfl
  have l6:("houses":Str).length=6:=rfl
  refine⟨_,(zh (zeT (qv 0) (zdi 5 rfl (zu (zl 1 zam.nd) (zu (zl 2 zam.nd) (zu (zl 3 zam.nd) (zu (zl 4 zam.nd) (zu (zl 5 zam.nd) zaA)))))))
   (zh (zL 6 zam.nd (zbb (za (zf3 (QJ.cons zc8 (QJ.cons (zbK (qv 1)) QJ.nil))) (za (zdm O2 F.slot_str_join F.type_str_join zfC zy (za (zU zqS (zaf (za zy zb)) (qv 2)) zb)) zb))))
   (zh (zon 6 zam.nd (zaB (src:=[none,none]) zda rfl rfl (zb2 (qv 3)) (λ_ _ _ _ _=>(zd3 (K:=K) 2 rfl rfl (zu (zl 0 zda.nd) (zu (zl 1 zda.nd) zaA)))) (λ_ _ _ _ _=>zaJ) (λ_ _ _ _ _=>(zf3 (QJ.cons zc8 (QJ.cons (zbK (qv 0)) (QJ.cons zc8 (QJ.cons (zbK (qv 1)) QJ.nil))))))) zlq)
   (zh (zon 6 zam.nd (zmJ (src:=[none,none,none,none]) zbf rfl rfl (zkk Y.zip (za (qv 2) (za (qv 4) zb))) (λ_ _ _ _ _=>(zd3 (K:=K) 2 rfl rfl (zu (zl 0 zbf.nd) (zu (zl 1 zbf.nd) zaA)))) (λ_ _ _ _ _=>zaJ) (λ_ _ _ _ _=>((zob (K:=K) rfl) (qv 1))) (λ_ _ _ _ _=>(zd3 (K:=K) 2 rfl rfl (zu (zl 2 zbf.nd) (zu (zl 3 zbf.nd) zaA)))) (λ_ _ _ _ _=>zaJ) (λ_ _ _ _ _=>(zf G_show_rule `n3 Y.show_rule.mg Y.show_rule.kp Y.show_rule.b .nil zi (za zy (za (qv 0) (za (zf G_show_worth `n3 Y.show_worth.mg Y.show_worth.kp Y.show_worth.b .nil zi (za (qv 3) zb)) (za (qv 2) zb))))))) zlq)
   (zh (zon 6 zam.nd (zmJ (src:=[none,none,none,none]) zbd rfl rfl (zkk Y.zip (za (qv 2) (za (qv 5) zb))) (λ_ _ _ _ _=>(zd3 (K:=K) 2 rfl rfl (zu (zl 0 zbd.nd) (zu (zl 1 zbd.nd) zaA)))) (λ_ _ _ _ _=>zaJ) (λ_ _ _ _ _=>((zob (K:=K) rfl) (qv 1))) (λ_ _ _ _ _=>(zd3 (K:=K) 2 rfl rfl (zu (zl 2 zbd.nd) (zu (zl 3 zbd.nd) zaA)))) (λ_ _ _ _ _=>zaJ) (λ_ _ _ _ _=>(zf G_show_rule `n3 Y.show_rule.mg Y.show_rule.kp Y.show_rule.b .nil zi (za zy (za (qv 0) (za (zrH (K:=K) rfl O2 F.slot_str_join F.type_str_join (zny (K:=K) rfl) zy (za (qv 3) zb)) (za (qv 2) zb))))))) zlq)
   (zj (zw (zdm O2 F.slot_str_join F.type_str_join zjd zy (za (qv 6) zb))))))))),?_⟩
  refine⟨_,rfl,p,_,rfl, .inl (.inl hp),rfl,_,_,rfl,_,_,rfl,_,_,rfl,_,_,rfl,_,_,rfl,rfl,?_⟩
  refine⟨"goal ", .inl rfl,le1 (by rw[l5];decide),by rw[zz];exact le1 (by rw[l5];decide),_,rfl,g, .inl rfl,le1 (),by rw[zz,zg,l5];exact le1 (),by rw[zz,zg,l5];exact le1 (),?_⟩
  rw[zz]
  refine⟨rfl,few rfl,λp1 hp1=>⟨_,rfl,p1,pr,_,_,rfl,rfl, .inl (.inl upd_same), .inl (.inl (Same.new hp1 _ _ hpr)),le1 (by rw[B0];show 1+_<=_;lia),(λz=>nomatch z),λ_ z=>absurd (List.map_eq_nil_iff.mp z) hne,λ_ _ p2 hp2=>?_⟩⟩
  refine⟨" ",p2,"houses"::hs,rfl,rfl, .inl (.inl upd_same),⋯,by rw[J1,List.sum_cons,Z0];lia,?_⟩
  rw[txj,zhK hne]
  refine⟨few rfl,λl hl=>?_⟩
  have S1:=Same.new (o:= .tup [V.str "houses"]) hp1
  have S2:=Same.new (o:= .tup ([V.str "houses"]++hs.map V.str)) hp2
  have S02:=S1.trans S2
  have hlN:H l=none:=S02.free hl
  have S3:=S02.trans (Same.new (o:= .lst [V.str ("goal "++g),V.str ("houses "++Str.join " " hs)]) hl)
  have hl3:upd (upd (upd H p1 (.tup [V.str "houses"])) p2 (.tup ([V.str "houses"]++hs.map V.str))) l (.lst [V.str ("goal "++g),V.str ("houses "++Str.join " " hs)]) l=some (.lst (["goal "++g,"houses "++Str.join " " hs].map V.str)):=upd_same
  generalize (upd (upd (upd H p1 (HO.tup [V.str "houses"])) p2 (HO.tup ([V.str "houses"]++hs.map V.str))) l (HO.lst [V.str ("goal "++g),V.str ("houses "++Str.join " " hs)]))=H3 at *
  clear hl hp2 hp1 S1 S2 S02
  refine⟨_,rfl,_,rfl,pt,rfl,⟨_, .inl (.inl (S3 _ _ hpt))⟩,?_⟩
  refine zaD (zaT (K:=K) (xs:=vt)) (λl' i ys σ' H'=>(∃o0 o1,σ'=[o0,o1])/\ys=((ps.take i).map zcw).map V.str/\Same H3 H') ?_ (λl' i ys σ' H' hl z=> .inl (.inl (z.2.2 _ _ (S3 _ _ hpt)))) ?_ ?_
  ·exact λl' hl'=>⟨⟨_,_,rfl⟩,rfl,Same.new hl'⟩
  ·rintro l' i y ys σ' H1 hl' hi hy ⟨⟨o0,o1,rfl⟩,rfl,s1⟩ hl1
   obtain⟨q2,pq,hq,rfl,hpq⟩:=zkK rt hy
   obtain⟨t1,t2,_⟩:=T.ties q2 (L0 hq)
   have n1:=hn8 _ t1
   have n2:=hn8 _ t2
   have l4:("tie ":Str).length=4:=rfl
   have l1:(" ":Str).length=1:=rfl
   refine⟨pq,_,rfl, .inl (.inl (s1 _ _ (S3 _ _ hpq))),rfl,_,_,rfl,_,_,rfl,rfl,?_⟩
   refine⟨"tie ", .inl rfl,le1 (by rw[l4];decide),by rw[zz];exact le1 (by rw[l4];decide),_,rfl,q2.1, .inl rfl,le1 (),by rw[zz,zg,l4];exact le1 ()," ", .inl rfl,le1 (by rw[l1];decide),by rw[zz,zg,zg,l4,l1];exact le1 (),_,rfl,q2.2, .inl rfl,le1 (),by rw[zz,zg,zg,zg,l4,l1];exact le1 (),by rw[zz,zg,zg,zg,l4,l1];exact le1 (),?_⟩
   rw[zz]
   refine⟨hl1,zeM (by rw[B0,B0,K1];lia),⟨_,_,rfl⟩,?_,zag s1 hl'⟩
   rw[N1,hq,U0,U0];rfl
  rintro l' ys σ' H3' hl' ⟨_,rfl,s3⟩ hl3'
  rw[rt.1,B0,B2] at hl3'
  refine⟨l,l',_,_,rfl,rfl,s3 _ _ hl3,hl3',big (by rw[B0,B0,B0];show 2+_<=_;lia),?_⟩
  have S4:Same H (upd H3' l (.lst (["goal "++g,"houses "++Str.join " " hs].map V.str ++(ps.map zcw).map V.str))):=zag (S3.trans s3) hlN
  have hl4:upd H3' l (.lst (["goal "++g,"houses "++Str.join " " hs].map V.str ++(ps.map zcw).map V.str)) l=some (.lst ((["goal "++g,"houses "++Str.join " " hs]++ps.map zcw).map V.str)):=by rw[upd_same,←U0]
  generalize (upd H3' l (HO.lst (["goal "++g,"houses "++Str.join " " hs].map V.str ++(ps.map zcw).map V.str)))=H4 at *
  clear s3 hl3 hl' hl3' S3
  have RK1:∀d∈lks,zgJ zT d:=λd hd=>zeE (T.likes d hd)
  refine⟨_,rfl,_,rfl,_,rfl,pr,pl,true,true,_,_,rfl,S4 _ _ hpr,S4 _ _ hpl,?_⟩
  have eN1:min (hs.map V.str).length vl.length=hs.length:=by rw[B0,rl.1,T.ll,Nat.min_self]
  rw[eN1]
  refine ziQ (n:=hs.length) (λl' i ys σ' H'=>(∃o0 o1 o2 o3,σ'=[o0,o1,o2,o3])/\ys=(zr "like" zF hs lks i).map V.str/\Same H4 H') ?_ ?_ ?_ ?_ ?_
  ·exact λl' hl'=>⟨⟨_,_,_,_,rfl⟩,rfl,Same.new hl'⟩
  ·rintro l' i ys σ' H' hl' hi ⟨_,_,s'⟩
   have hv:i<vl.length:=by rw[rl.1,T.ll];exact hi
   exact⟨_,_, .str hs[i],vl[i],s' _ _ (S4 _ _ hpr),s' _ _ (S4 _ _ hpl),eN1,by simp[hi],by simp[hv]⟩
  ·rintro l' ys σ' H' hl' ⟨_,_,s'⟩
   exact⟨_,_,s' _ _ (S4 _ _ hpr),s' _ _ (S4 _ _ hpl),eN1,K0 _⟩
  ·rintro l' i x ys σ' H1 H1' hl' hi ⟨⟨o0,o1,o2,o3,rfl⟩,rfl,s1⟩ hl1 ⟨Tt,xs',ys',u,v,hx',hy',rfl,hT,hu,hv,rfl⟩
   have ex:xs'=hs.map V.str:=SqZ.inj (t:=true) hx' (s1 _ _ (S4 _ _ hpr))
   have ey:ys'=vl:=SqZ.inj (t:=true) hy' (s1 _ _ (S4 _ _ hpl))
   subst ex ey
   have hh:hs[i]?=some hs[i]:=l0 hi
   have hu':u= .str hs[i]:=by rw[W0,hh] at hu;cases hu;rfl
   subst hu'
   obtain⟨d,hd,rd⟩:=rl.get hv
   obtain⟨rs,rfl,l90,hrs⟩:=RK1 d (L0 hd)
   obtain⟨pv,ur,rfl,hpv,rr,_⟩:=rd.ofT
   have hnm:=za8 (T.names _ (List.getElem_mem hi))
   generalize hs[i]=h at *
   have S1:=Same.new (o:= .tup [V.str h,V.ref pv]) hT
   have sz:(zr "like" zF hs lks i).length<=900:=zd8 (λx hx=>zaZ hx) ⋯ T.names RK1 T.ten
   refine⟨Tt,_,rfl, .inl (.inl upd_same),rfl,_,_,rfl,_,_,rfl,rfl,?_⟩
   refine⟨_,rfl,pv,rfl,⟨_, .inl (.inl (S1 _ _ (s1 _ _ (S4 _ _ hpv))))⟩,S1 _ _ hl1,?_⟩
   refine zrA (zaT (K:=K) (xs:=ur)) (λj ys σ' H'=>(∃o2 o3,σ'=[some (.str h),some (.ref pv),o2,o3])/\ys=(zr "like" zF hs lks i ++(rs.take j).map (zec "like" zF h)).map V.str/\Same H4 H') ⟨⟨_,_,rfl⟩,by rw[List.take_zero,List.map_nil,O1],s1.trans S1⟩ (λj ys σ' H' z=> .inl (.inl (z.2.2 _ _ (S4 _ _ hpv)))) ?_ ?_
   ·rintro j y ys σ' H4 hj hy ⟨⟨o2,o3,rfl⟩,rfl,s4⟩ hl4
    obtain⟨r,hr',rrr⟩:=rr.get hy
    obtain⟨cs,x,rfl,lc,hc,hx⟩:=hrs r (L0 hr')
    obtain⟨py,v0,v1,rfl,hpy,r0,r1⟩:=rrr.of2
    have s04:=S4.trans s4
    refine⟨py,_,rfl, .inl (.inl (s04 _ _ hpy)),rfl,_,_,rfl,_,_,rfl,rfl,?_⟩
    have tk:(rs.take (j+1)).map (zec "like" zF h)=(rs.take j).map (zec "like" zF h)++ [zbm "like" h (zF x) (cs.map condT)]:=by rw[N1,hr',U0];rfl
    have lj:(rs.take j).length<=90:=by rw[K1];lia
    refine⟨_,rfl,_,rfl,v1,x,rfl,r1.same s04,hx,_,rfl,"like",h,zF x,v0,cs,rfl,r0.same s04,lc,hc,⋯,hnm,zaZ hx,λH5 s5=>?_⟩
    refine⟨s5 _ _ hl4,zeM (by rw[B0,O0,B0];lia),⟨_,_,rfl⟩,?_,zag (s4.trans s5) hl'⟩
    rw[tk,←V1]
    simp only[U0,J1,List.map_nil]
   ·rintro ys σ' H4 ⟨⟨o2,o3,rfl⟩,rfl,s4⟩
    refine⟨⟨_,_,_,_,rfl⟩,?_,s4⟩
    rw[zgZ hh hd,rr.1,B2]
  rintro l' ys σ' H5 hl' ⟨_,rfl,s3⟩ hl3
  have sz1:(zr "like" zF hs lks hs.length).length<=900:=zd8 (λx hx=>zaZ hx) ⋯ T.names RK1 T.ten
  refine⟨l,l',_,_,rfl,rfl,s3 _ _ hl4,hl3,big (by rw[B0,B0];rw[O0,B0];show 2+_+_<=_;lia),?_⟩
  have S6:Same H (upd H5 l (.lst ((["goal "++g,"houses "++Str.join " " hs]++ps.map zcw).map V.str ++(zr "like" zF hs lks hs.length).map V.str))):=zag (S4.trans s3) hlN
  have hl6:upd H5 l (.lst ((["goal "++g,"houses "++Str.join " " hs]++ps.map zcw).map V.str ++(zr "like" zF hs lks hs.length).map V.str)) l=some (.lst (((["goal "++g,"houses "++Str.join " " hs]++ps.map zcw)++zr "like" zF hs lks hs.length).map V.str)):=by rw[upd_same,←U0]
  generalize (upd H5 l (HO.lst ((["goal "++g,"houses "++Str.join " " hs]++ps.map zcw).map V.str ++(zr "like" zF hs lks hs.length).map V.str)))=H6 at *
  clear s3 hl3 hl'
  have RK2:∀d∈hds,zgJ zZ d:=λd hd=>zey (T.hands d hd)
  refine⟨_,rfl,_,rfl,_,rfl,pr,pa,true,true,_,_,rfl,S6 _ _ hpr,S6 _ _ hpa,?_⟩
  have eN2:min (hs.map V.str).length va.length=hs.length:=by rw[B0,ra.1,T.lh,Nat.min_self]
  rw[eN2]
  refine ziQ (n:=hs.length) (λl' i ys σ' H'=>(∃o0 o1 o2 o3,σ'=[o0,o1,o2,o3])/\ys=(zr "hand" zbw hs hds i).map V.str/\Same H6 H') ?_ ?_ ?_ ?_ ?_
  ·exact λl' hl'=>⟨⟨_,_,_,_,rfl⟩,rfl,Same.new hl'⟩
  ·rintro l' i ys σ' H' hl' hi ⟨_,_,s'⟩
   have hv:i<va.length:=by rw[ra.1,T.lh];exact hi
   exact⟨_,_, .str hs[i],va[i],s' _ _ (S6 _ _ hpr),s' _ _ (S6 _ _ hpa),eN2,by simp[hi],by simp[hv]⟩
  ·rintro l' ys σ' H' hl' ⟨_,_,s'⟩
   exact⟨_,_,s' _ _ (S6 _ _ hpr),s' _ _ (S6 _ _ hpa),eN2,K0 _⟩
  ·rintro l' i x ys σ' H1 H1' hl' hi ⟨⟨o0,o1,o2,o3,rfl⟩,rfl,s1⟩ hl1 ⟨Tt,xs',ys',u,v,hx',hy',rfl,hT,hu,hv,rfl⟩
   have ex:xs'=hs.map V.str:=SqZ.inj (t:=true) hx' (s1 _ _ (S6 _ _ hpr))
   have ey:ys'=va:=SqZ.inj (t:=true) hy' (s1 _ _ (S6 _ _ hpa))
   subst ex ey
   have hh:hs[i]?=some hs[i]:=l0 hi
   have hu':u= .str hs[i]:=by rw[W0,hh] at hu;cases hu;rfl
   subst hu'
   obtain⟨d,hd,rd⟩:=ra.get hv
   obtain⟨rs,rfl,l90,hrs⟩:=RK2 d (L0 hd)
   obtain⟨pv,ur,rfl,hpv,rr,_⟩:=rd.ofT
   have hnm:=za8 (T.names _ (List.getElem_mem hi))
   generalize hs[i]=h at *
   have S1:=Same.new (o:= .tup [V.str h,V.ref pv]) hT
   have sz:(zr "hand" zbw hs hds i).length<=900:=zd8 (λx hx=>(zbU hx).choose_spec.2.2.1) ⋯ T.names RK2 T.ten
   refine⟨Tt,_,rfl, .inl (.inl upd_same),rfl,_,_,rfl,_,_,rfl,rfl,?_⟩
   refine⟨_,rfl,pv,rfl,⟨_, .inl (.inl (S1 _ _ (s1 _ _ (S6 _ _ hpv))))⟩,S1 _ _ hl1,?_⟩
   refine zrA (zaT (K:=K) (xs:=ur)) (λj ys σ' H'=>(∃o2 o3,σ'=[some (.str h),some (.ref pv),o2,o3])/\ys=(zr "hand" zbw hs hds i ++(rs.take j).map (zec "hand" zbw h)).map V.str/\Same H6 H') ⟨⟨_,_,rfl⟩,by rw[List.take_zero,List.map_nil,O1],s1.trans S1⟩ (λj ys σ' H' z=> .inl (.inl (z.2.2 _ _ (S6 _ _ hpv)))) ?_ ?_
   ·rintro j y ys σ' H4 hj hy ⟨⟨o2,o3,rfl⟩,rfl,s4⟩ hl4
    obtain⟨r,hr',rrr⟩:=rr.get hy
    obtain⟨cs,x,rfl,lc,hc,hx⟩:=hrs r (L0 hr')
    obtain⟨py,v0,v1,rfl,hpy,r0,r1⟩:=rrr.of2
    have s04:=S6.trans s4
    refine⟨py,_,rfl, .inl (.inl (s04 _ _ hpy)),rfl,_,_,rfl,_,_,rfl,rfl,?_⟩
    have tk:(rs.take (j+1)).map (zec "hand" zbw h)=(rs.take j).map (zec "hand" zbw h)++ [zbm "hand" h (zbw x) (cs.map condT)]:=by rw[N1,hr',U0];rfl
    have lj:(rs.take j).length<=90:=by rw[K1];lia
    obtain⟨xs,rfl,ea,la,lx,hxs⟩:=zbU hx
    obtain⟨pq,rfl,hpq⟩:=zfq r1
    have sl:=zdC hxs
    refine⟨_,rfl,rfl,_,rfl," ",pq,xs,rfl,rfl, .inl (.inl (s04 _ _ hpq)),⋯,(),?_⟩
    rw[txj,←ea]
    refine⟨_,rfl,"hand",h,zbw (.tup (xs.map D.str)),v0,cs,rfl,r0.same s04,lc,hc,⋯,hnm,la,λH5 s5=>?_⟩
    refine⟨s5 _ _ hl4,zeM (by rw[B0,O0,B0];lia),⟨_,_,rfl⟩,?_,zag (s4.trans s5) hl'⟩
    rw[tk,←V1]
    simp only[U0,J1,List.map_nil]
   ·rintro ys σ' H4 ⟨⟨o2,o3,rfl⟩,rfl,s4⟩
    refine⟨⟨_,_,_,_,rfl⟩,?_,s4⟩
    rw[zgZ hh hd,rr.1,B2]
  rintro l' ys σ' H7 hl' ⟨_,rfl,s3⟩ hl3
  have sz2:(zr "hand" zbw hs hds hs.length).length<=900:=zd8 (λx hx=>(zbU hx).choose_spec.2.2.1) ⋯ T.names RK2 T.ten
  refine⟨l,l',_,_,rfl,rfl,s3 _ _ hl6,hl3,big (by rw[B0,B0];rw[O0,O0,B0];show 2+_+_+_<=_;lia),?_⟩
  have S8:Same H (upd H7 l (.lst (((["goal "++g,"houses "++Str.join " " hs]++ps.map zcw)++zr "like" zF hs lks hs.length).map V.str ++(zr "hand" zbw hs hds hs.length).map V.str))):=zag (S6.trans s3) hlN
  have hl8:upd H7 l (.lst (((["goal "++g,"houses "++Str.join " " hs]++ps.map zcw)++zr "like" zF hs lks hs.length).map V.str ++(zr "hand" zbw hs hds hs.length).map V.str)) l=some (.lst ((((["goal "++g,"houses "++Str.join " " hs]++ps.map zcw)++zr "like" zF hs lks hs.length)++zr "hand" zbw hs hds hs.length).map V.str)):=by rw[upd_same,←U0]
  generalize (upd H7 l (HO.lst (((["goal "++g,"houses "++Str.join " " hs]++ps.map zcw)++zr "like" zF hs lks hs.length).map V.str ++(zr "hand" zbw hs hds hs.length).map V.str)))=H8 at *
  clear s3 hl3 hl'
  rw[zlb T] at hl8
  refine⟨rfl,_,rfl,"\n",l,_,rfl,rfl,SqL.of hl8,⋯,TL.1,?_⟩
  rw[txj]
  exact q _ S8
noncomputable def zmE:Sp:=λvs H Q _=>∃(v:V) (g:Str) (hs:List Str) (ps:List (Str×Str)) (lks hds:List D),vs=[v]/\Rep H v (ze0 g hs ps lks hds)/\TownOk g hs ps lks hds/\∀l H',H' l=some (.lst ((zac g hs ps lks hds).map V.str))->Same H H'->Q (.ref l) H'
theorem zp9(Y:Ev K mg):FnOk P w K mg base CX0 5 Y.a__law_rows Y.d__law_rows zcQ zmE:=by
 have G__law_rule_text:FnOk P w K mg base CX0 4 Y.a__law_rule_text Y.d__law_rule_text za5 zgR:=zjr Y
 refine Y._law_rows.fn.okQ zJ (λvs H Q E h=>?_) `X2
 ·obtain ⟨v,g,hs,ps,lks,hds,rfl,_⟩:=h;rfl
 ·obtain ⟨v,g,hs,ps,lks,hds,rfl,hv,T,q⟩:=h
  have hps:=zmF hv
  obtain⟨p,pr,pt,pl,pa,vt,vl,va,rfl,hp,hpr,hpt,rt,hpl,rl,hpa,ra⟩:=zmG hv
  have h1:=T.one
  have h10:=T.ten
  have hn8:∀x∈hs,x.length<=8:=λx hx=>za8 (T.names x hx)
  have g8:=hn8 g T.goal
  have sh:=zdC hn8
  have jl:=zdg (sep:=" ") (m:=1) ⋯ hn8
  have l5:("goal ":Str).length=5:=rfl
  have l7:("houses ":Str).length=7:=rfl
  have l4:("tie ":Str).length=4:=rfl
  have l1:(" ":Str).length=1:=rfl
  refine⟨_,(zh (zeT (qv 0) (zdi 5 rfl (zu (zl 1 zJ.nd) (zu (zl 2 zJ.nd) (zu (zl 3 zJ.nd) (zu (zl 4 zJ.nd) (zu (zl 5 zJ.nd) zaA)))))))
   (zh (zL 6 zJ.nd (zbb (za (zU zY zy (qv 1)) (za (zU zY zy (zdm O2 F.slot_str_join F.type_str_join zfC zy (za (qv 2) zb))) zb))))
   (zh (zcz U2 rfl (zb2 (qv 3)) (zl 7 zJ.nd) (zj (zdY (zdm F.plainAttrs_list F.slot_list_append F.type_list_append zau (qv 6) (za (zU zY (zU zY (zU zY zy (zN zR (qv 7) ze)) zy) (zN zR (qv 7) ze)) zb)))))
   (zh (zcz U2 rfl (zkk Y.zip (za (qv 2) (za (qv 4) zb))) (zdi 2 rfl (zu (zl 8 zJ.nd) (zu (zl 9 zJ.nd) zaA))) (zj (zcz U2 rfl (zb2 (qv 9)) (zdi 2 rfl (zu (zl 10 zJ.nd) (zu (zl 11 zJ.nd) zaA))) (zj (zdY (zdm F.plainAttrs_list F.slot_list_append F.type_list_append zau (qv 6) (za (zf G__law_rule_text `n3 Y._law_rule_text.mg Y._law_rule_text.kp Y._law_rule_text.b .nil zi (za zy (za (qv 8) (za (zgK (zM zed (qv 11) za9) zy (zG zfw Y.str zd2 (za (qv 11) zb))) (za (qv 10) zb))))) zb)))))))
   (zh (zcz U2 rfl (zkk Y.zip (za (qv 2) (za (qv 5) zb))) (zdi 2 rfl (zu (zl 8 zJ.nd) (zu (zl 9 zJ.nd) zaA))) (zj (zcz U2 rfl (zb2 (qv 9)) (zdi 2 rfl (zu (zl 10 zJ.nd) (zu (zl 12 zJ.nd) zaA))) (zj (zdY (zdm F.plainAttrs_list F.slot_list_append F.type_list_append zau (qv 6) (za (zf G__law_rule_text `n3 Y._law_rule_text.mg Y._law_rule_text.kp Y._law_rule_text.b .nil zi (za zy (za (qv 8) (za (zdm O2 F.slot_str_join F.type_str_join zfC zy (za (qv 12) zb)) (za (qv 10) zb))))) zb)))))))
   (zj (zw (qv 6)))))))),?_⟩
  refine⟨_,rfl,p,_,rfl, .inl (.inl hp),rfl,_,_,rfl,_,_,rfl,_,_,rfl,_,_,rfl,_,_,rfl,rfl,?_⟩
  refine⟨_,rfl,"goal ",g,rfl,rfl,le1 (by rw[l5];lia),rfl,_,rfl," ",pr,hs,rfl,rfl, .inl (.inl hpr),⋯,(),?_⟩
  rw[txj]
  refine⟨_,_,rfl,rfl,le1 (by rw[l7];lia),few rfl,λl hlN=>?_⟩
  have S3:=Same.new (o:= .lst [V.str ("goal "++g),V.str ("houses "++Str.join " " hs)]) hlN
  have hl3:upd H l (.lst [V.str ("goal "++g),V.str ("houses "++Str.join " " hs)]) l=some (.lst (["goal "++g,"houses "++Str.join " " hs].map V.str)):=upd_same
  generalize (upd H l (HO.lst [V.str ("goal "++g),V.str ("houses "++Str.join " " hs)]))=H3 at *
  refine⟨_,rfl,pt,rfl,⟨_, .inl (.inl (S3 _ _ hpt))⟩,?_⟩
  refine zcE (zaT (K:=K) (xs:=vt)) (λi σ' H'=>(∃o7 o8 o9 o10 o11 o12,σ'=[some (.ref p),some (.str g),some (.ref pr),some (.ref pt),some (.ref pl),some (.ref pa),some (.ref l),o7,o8,o9,o10,o11,o12])/\H' l=some (.lst ((["goal "++g,"houses "++Str.join " " hs]++(ps.take i).map zcw).map V.str))/\Same H H') ⟨⟨_,_,_,_,_,_,rfl⟩,hl3,S3⟩ (λi σ' H' z=> .inl (.inl (z.2.2 _ _ hpt))) ?_ ?_
  ·rintro i y σ' H1 hi hy ⟨⟨o7,o8,o9,o10,o11,o12,rfl⟩,hl1,s1⟩
   obtain⟨q2,pq,hq,rfl,hpq⟩:=zkK rt hy
   obtain⟨t1,t2,_⟩:=T.ties q2 (L0 hq)
   have n1:=hn8 _ t1
   have n2:=hn8 _ t2
   have hpq1:=s1 _ _ hpq
   have li:(ps.take i).length<=1000:=by rw[K1];lia
   refine⟨_,rfl, .inl ⟨rfl,_,SqL.of hl1⟩,_,rfl,pq,_,0,_,rfl,rfl, .inl (.inl hpq1),at0,"tie ",q2.1,rfl,rfl,le1 (by rw[l4];lia),"tie "++q2.1," ",rfl,rfl,le1 (by rw[zg,l4,l1];lia),_,rfl,pq,_,1,_,rfl,rfl, .inl (.inl hpq1),zbi (j:=1) rfl,"tie "++q2.1 ++" ",q2.2,rfl,rfl,le1 (by rw[zg,zg,l4,l1];lia),?_⟩
   refine⟨l,_,_,rfl,rfl,hl1,zeM (by rw[B0,O0,B0];show 2+_<_;lia),⟨_,_,_,_,_,_,rfl⟩,?_,zag s1 hlN⟩
   rw[upd_same,N1,hq];simp only[U0,V1,Option.toList_some,J1,List.map_nil,List.cons_append,List.nil_append];rfl
  rintro σ' H4 ⟨⟨o7,o8,o9,o10,o11,o12,rfl⟩,hl4,S4⟩
  rw[rt.1,B0,B2] at hl4
  have RK1:∀d∈lks,zgJ zT d:=λd hd=>zeE (T.likes d hd)
  refine⟨_,rfl,_,rfl,pr,pl,true,true,_,_,rfl,S4 _ _ hpr,S4 _ _ hpl,?_⟩
  have eN1:min (hs.map V.str).length vl.length=hs.length:=by rw[B0,rl.1,T.ll,Nat.min_self]
  rw[eN1]
  refine zgW (n:=hs.length) (λi σ' H'=>(∃o7 o8 o9 o10 o11 o12,σ'=[some (.ref p),some (.str g),some (.ref pr),some (.ref pt),some (.ref pl),some (.ref pa),some (.ref l),o7,o8,o9,o10,o11,o12])/\H' l=some (.lst (((["goal "++g,"houses "++Str.join " " hs]++ps.map zcw)++zr "like" zF hs lks i).map V.str))/\Same H H') ⟨⟨_,_,_,_,_,_,rfl⟩,by rw[show zr "like" zF hs lks 0=[] from rfl,O1];exact hl4,S4⟩ ?_ ?_ ?_ ?_
  ·rintro i σ' H' hi ⟨_,_,s'⟩
   have hv:i<vl.length:=by rw[rl.1,T.ll];exact hi
   exact⟨_,_, .str hs[i],vl[i],s' _ _ hpr,s' _ _ hpl,eN1,by simp[hi],by simp[hv]⟩
  ·rintro σ' H' ⟨_,_,s'⟩
   exact⟨_,_,s' _ _ hpr,s' _ _ hpl,eN1,K0 _⟩
  ·rintro i x σ' H1 H1' hi ⟨⟨o7,o8,o9,o10,o11,o12,rfl⟩,hl1,s1⟩ ⟨Tt,xs',ys',u,v,hx',hy',rfl,hT,hu,hv,rfl⟩
   have ex:xs'=hs.map V.str:=SqZ.inj (t:=true) hx' (s1 _ _ hpr)
   have ey:ys'=vl:=SqZ.inj (t:=true) hy' (s1 _ _ hpl)
   subst ex ey
   have hh:hs[i]?=some hs[i]:=l0 hi
   have hu':u= .str hs[i]:=by rw[W0,hh] at hu;cases hu;rfl
   subst hu'
   obtain⟨d,hd,rd⟩:=rl.get hv
   obtain⟨rs,rfl,l90,hrs⟩:=RK1 d (L0 hd)
   obtain⟨pv,ur,rfl,hpv,rr,_⟩:=rd.ofT
   have hnm:=za8 (T.names _ (List.getElem_mem hi))
   generalize hs[i]=h at *
   have S1:=Same.new (o:= .tup [V.str h,V.ref pv]) hT
   have sz:(zr "like" zF hs lks i).length<=900:=zd8 (λx hx=>zaZ hx) ⋯ T.names RK1 T.ten
   refine⟨Tt,_,rfl, .inl (.inl upd_same),rfl,_,_,rfl,_,_,rfl,rfl,?_⟩
   refine⟨_,rfl,pv,rfl,⟨_, .inl (.inl (S1 _ _ (s1 _ _ hpv)))⟩,?_⟩
   refine zcE (zaT (K:=K) (xs:=ur)) (λj σ' H'=>(∃o7 o10 o11 o12,σ'=[some (.ref p),some (.str g),some (.ref pr),some (.ref pt),some (.ref pl),some (.ref pa),some (.ref l),o7,some (.str h),some (.ref pv),o10,o11,o12])/\H' l=some (.lst (((["goal "++g,"houses "++Str.join " " hs]++ps.map zcw)++(zr "like" zF hs lks i ++(rs.take j).map (zec "like" zF h))).map V.str))/\Same H H') ⟨⟨_,_,_,_,rfl⟩,by rw[List.take_zero,List.map_nil,O1];exact S1 _ _ hl1,s1.trans S1⟩ (λj σ' H' z=> .inl (.inl (z.2.2 _ _ hpv))) ?_ ?_
   ·rintro j y σ' H4 hj hy ⟨⟨o7,o10,o11,o12,rfl⟩,hl4,s4⟩
    obtain⟨r,hr',rrr⟩:=rr.get hy
    obtain⟨cs,x,rfl,lc,hc,hx⟩:=hrs r (L0 hr')
    obtain⟨py,v0,v1,rfl,hpy,r0,r1⟩:=rrr.of2
    refine⟨py,_,rfl, .inl (.inl (s4 _ _ hpy)),rfl,_,_,rfl,_,_,rfl,rfl,?_⟩
    have tk:(rs.take (j+1)).map (zec "like" zF h)=(rs.take j).map (zec "like" zF h)++ [zbm "like" h (zF x) (cs.map condT)]:=by rw[N1,hr',U0];rfl
    have lj:(rs.take j).length<=90:=by rw[K1];lia
    refine⟨_,rfl, .inl ⟨rfl,_,SqL.of hl4⟩,?_⟩
    refine⟨_,rfl,_,rfl,rfl,_,rfl,?_⟩
    rcases zaK hx with rfl|⟨iw,rfl,i0,i9⟩
    ·cases r1
     refine zcx rfl ⟨_,rfl,"like",h,zF .non,v0,cs,rfl,r0.same s4,lc,hc,⋯,hnm,zaZ hx,λH5 s5=>?_⟩
     refine⟨l,_,_,rfl,rfl,s5 _ _ hl4,zeM (by simp only[B0,O0,Z0,List.length_nil];lia),⟨_,_,_,_,rfl⟩,?_,zag (s4.trans s5) hlN⟩
     rw[upd_same,tk];simp only[U0,V1,J1,List.map_nil]
    cases r1
    refine zas rfl ⟨_,rfl,iw,rfl,zf7 i0 i9,_,rfl,"like",h,zF (.int iw),v0,cs,rfl,r0.same s4,lc,hc,⋯,hnm,zaZ hx,λH5 s5=>?_⟩
    refine⟨l,_,_,rfl,rfl,s5 _ _ hl4,zeM (by simp only[B0,O0,Z0,List.length_nil];lia),⟨_,_,_,_,rfl⟩,?_,zag (s4.trans s5) hlN⟩
    rw[upd_same,tk];simp only[U0,V1,J1,List.map_nil]
   ·rintro σ' H4 ⟨⟨o7,o10,o11,o12,rfl⟩,hl4,s4⟩
    refine⟨⟨_,_,_,_,_,_,rfl⟩,?_,s4⟩
    rw[zgZ hh hd]
    rw[rr.1,B2] at hl4
    exact hl4
  rintro σ' H6 ⟨⟨o7,o8,o9,o10,o11,o12,rfl⟩,hl6,S6⟩
  have sz1:(zr "like" zF hs lks hs.length).length<=900:=zd8 (λx hx=>zaZ hx) ⋯ T.names RK1 T.ten
  have RK2:∀d∈hds,zgJ zZ d:=λd hd=>zey (T.hands d hd)
  refine⟨_,rfl,_,rfl,pr,pa,true,true,_,_,rfl,S6 _ _ hpr,S6 _ _ hpa,?_⟩
  have eN2:min (hs.map V.str).length va.length=hs.length:=by rw[B0,ra.1,T.lh,Nat.min_self]
  rw[eN2]
  refine zgW (n:=hs.length) (λi σ' H'=>(∃o7 o8 o9 o10 o11 o12,σ'=[some (.ref p),some (.str g),some (.ref pr),some (.ref pt),some (.ref pl),some (.ref pa),some (.ref l),o7,o8,o9,o10,o11,o12])/\H' l=some (.lst ((((["goal "++g,"houses "++Str.join " " hs]++ps.map zcw)++zr "like" zF hs lks hs.length)++zr "hand" zbw hs hds i).map V.str))/\Same H H') ⟨⟨_,_,_,_,_,_,rfl⟩,by rw[show zr "hand" zbw hs hds 0=[] from rfl,O1];exact hl6,S6⟩ ?_ ?_ ?_ ?_
  ·rintro i σ' H' hi ⟨_,_,s'⟩
   have hv:i<va.length:=by rw[ra.1,T.lh];exact hi
   exact⟨_,_, .str hs[i],va[i],s' _ _ hpr,s' _ _ hpa,eN2,by simp[hi],by simp[hv]⟩
  ·rintro σ' H' ⟨_,_,s'⟩
   exact⟨_,_,s' _ _ hpr,s' _ _ hpa,eN2,K0 _⟩
  ·rintro i x σ' H1 H1' hi ⟨⟨o7,o8,o9,o10,o11,o12,rfl⟩,hl1,s1⟩ ⟨Tt,xs',ys',u,v,hx',hy',rfl,hT,hu,hv,rfl⟩
   have ex:xs'=hs.map V.str:=SqZ.inj (t:=true) hx' (s1 _ _ hpr)
   have ey:ys'=va:=SqZ.inj (t:=true) hy' (s1 _ _ hpa)
   subst ex ey
   have hh:hs[i]?=some hs[i]:=l0 hi
   have hu':u= .str hs[i]:=by rw[W0,hh] at hu;cases hu;rfl
   subst hu'
   obtain⟨d,hd,rd⟩:=ra.get hv
   obtain⟨rs,rfl,l90,hrs⟩:=RK2 d (L0 hd)
   obtain⟨pv,ur,rfl,hpv,rr,_⟩:=rd.ofT
   have hnm:=za8 (T.names _ (List.getElem_mem hi))
   generalize hs[i]=h at *
   have S1:=Same.new (o:= .tup [V.str h,V.ref pv]) hT
   have sz:(zr "hand" zbw hs hds i).length<=900:=zd8 (λx hx=>(zbU hx).choose_spec.2.2.1) ⋯ T.names RK2 T.ten
   refine⟨Tt,_,rfl, .inl (.inl upd_same),rfl,_,_,rfl,_,_,rfl,rfl,?_⟩
   refine⟨_,rfl,pv,rfl,⟨_, .inl (.inl (S1 _ _ (s1 _ _ hpv)))⟩,?_⟩
   refine zcE (zaT (K:=K) (xs:=ur)) (λj σ' H'=>(∃o7 o10 o11 o12,σ'=[some (.ref p),some (.str g),some (.ref pr),some (.ref pt),some (.ref pl),some (.ref pa),some (.ref l),o7,some (.str h),some (.ref pv),o10,o11,o12])/\H' l=some (.lst ((((["goal "++g,"houses "++Str.join " " hs]++ps.map zcw)++zr "like" zF hs lks hs.length)++(zr "hand" zbw hs hds i ++(rs.take j).map (zec "hand" zbw h))).map V.str))/\Same H H') ⟨⟨_,_,_,_,rfl⟩,by rw[List.take_zero,List.map_nil,O1];exact S1 _ _ hl1,s1.trans S1⟩ (λj σ' H' z=> .inl (.inl (z.2.2 _ _ hpv))) ?_ ?_
   ·rintro j y σ' H4 hj hy ⟨⟨o7,o10,o11,o12,rfl⟩,hl4,s4⟩
    obtain⟨r,hr',rrr⟩:=rr.get hy
    obtain⟨cs,x,rfl,lc,hc,hx⟩:=hrs r (L0 hr')
    obtain⟨py,v0,v1,rfl,hpy,r0,r1⟩:=rrr.of2
    refine⟨py,_,rfl, .inl (.inl (s4 _ _ hpy)),rfl,_,_,rfl,_,_,rfl,rfl,?_⟩
    have tk:(rs.take (j+1)).map (zec "hand" zbw h)=(rs.take j).map (zec "hand" zbw h)++ [zbm "hand" h (zbw x) (cs.map condT)]:=by rw[N1,hr',U0];rfl
    have lj:(rs.take j).length<=90:=by rw[K1];lia
    refine⟨_,rfl, .inl ⟨rfl,_,SqL.of hl4⟩,?_⟩
    obtain⟨xs,rfl,ea,la,lx,hxs⟩:=zbU hx
    obtain⟨pq,rfl,hpq⟩:=zfq r1
    have sl:=zdC hxs
    refine⟨_,rfl,rfl,_,rfl," ",pq,xs,rfl,rfl, .inl (.inl (s4 _ _ hpq)),⋯,(),?_⟩
    rw[txj,←ea]
    refine⟨_,rfl,"hand",h,zbw (.tup (xs.map D.str)),v0,cs,rfl,r0.same s4,lc,hc,⋯,hnm,la,λH5 s5=>?_⟩
    refine⟨l,_,_,rfl,rfl,s5 _ _ hl4,zeM (by simp only[B0,O0,Z0,List.length_nil];lia),⟨_,_,_,_,rfl⟩,?_,zag (s4.trans s5) hlN⟩
    rw[upd_same,tk];simp only[U0,V1,J1,List.map_nil]
   ·rintro σ' H4 ⟨⟨o7,o10,o11,o12,rfl⟩,hl4,s4⟩
    refine⟨⟨_,_,_,_,_,_,rfl⟩,?_,s4⟩
    rw[zgZ hh hd]
    rw[rr.1,B2] at hl4
    exact hl4
  rintro σ' H8 ⟨⟨o7,o8,o9,o10,o11,o12,rfl⟩,hl8,S8⟩
  have sz2:(zr "hand" zbw hs hds hs.length).length<=900:=zd8 (λx hx=>(zbU hx).choose_spec.2.2.1) ⋯ T.names RK2 T.ten
  rw[zlb T] at hl8
  exact⟨_,rfl,q l _ hl8 S8⟩
theorem ztp(a c:Nat):decide (({cps:= #[c]}:Str).cps.toList<({cps:= #[a]}:Str).cps.toList)=decide (c<a):=by
 show decide ([c]< [a])=_
 by_cases h:c<a
 ·rw[D0 h];exact D0 (List.cons_lt_cons_iff.mpr (.inl h))
 ·rw[G0 h]
  refine G0 λz=>?_
  rcases List.cons_lt_cons_iff.mp z with q|⟨_,q⟩
  ·exact h q
  ·exact absurd q `Z2
theorem zuj(h:48<=c):(!decide (({cps:= #[c]}:Str).cps.toList<(Str.ofString "0").cps.toList))=true:=by
 have e:(Str.ofString "0")=⟨#[48]⟩:=`Y2
 rw[e,ztp,G0 ()];rfl
theorem zua(h:c<=57):(!decide ((Str.ofString "9").cps.toList<({cps:= #[c]}:Str).cps.toList))=true:=by
 have e:(Str.ofString "9")=⟨#[57]⟩:=`Y2
 rw[e,ztp,G0 ()];rfl
noncomputable def zpJ:Sp:=λvs H Q _=>∃x,vs=[.str x, .int 3]/\zr4 x/\∀H',Same H H'->Q (.bl true) H'
theorem zeX(Y:Ev K mg):FnOk P w K mg base CX0 1 Y.a_is_figures Y.d_is_figures zbA zpJ:=by
 refine Y.is_figures.fn.okQ zjW (λvs H Q E h=>?_) `X2
 ·obtain ⟨x,rfl,_⟩:=h;rfl
 ·obtain ⟨x,rfl,⟨h1,h3,hd,h0⟩,q⟩:=h
  refine⟨_,(zh (zar (t_w (zdu (zaW (zmY zgA zgA ze (zp zH Y.len zaC (za (qv 0) zb)) (qv 1))) (zdc (zaW (zay (zp (zav rfl) Y.all zca (za (zaB (src:=[none]) zdX rfl rfl (zrV (qv 0)) (λ_ _ _ _ _=>(zl 0 zdX.nd)) (λ_ _ _ _ _=>zaJ) (λ_ _ _ _ _=>(zgT zeF zeF zy (qv 0) zy))) zb))))))) (zj (zw zei)) zS)
   (zj (zw (ztk (zbH zaX (qv 0) zy) (zbe (zbH zfN (zN zlg (qv 0) ze) zy)))))),?_⟩
  have hz:x.length<=sizeLine:=Nat.le_of_lt (zE ())
  refine⟨_,rfl, .inr ⟨x,rfl,hz,_,_,rfl,rfl,_,rfl,zcx (D0 ()) ⟨_,rfl,_,_,rfl,rfl,_,rfl,zas (by rw[D0 ()];rfl) ?_⟩⟩⟩
  refine⟨_,rfl,x,rfl,?_⟩
  refine zaD zoF (λl i ys σ' H'=>(∃o,σ'=[o])/\ys=(List.replicate i true).map V.bl/\H'=upd H l (.lst ys)) ?_ (λ_ _ _ _ _ _ _=>trivial) ?_ ?_
  ·exact λl hl=>⟨⟨_,rfl⟩,rfl,rfl⟩
  ·rintro l i y ys σ' H' hl hi ⟨c,hc,rfl⟩ ⟨⟨o,rfl⟩,rfl,rfl⟩ hl'
   have hc':c∈x.cps.toList:=by
    have:x.cps.toList[i]?=some c:=by simpa using hc
    exact L0 this
   obtain⟨c1,c2⟩:=hd c hc'
   have ll:((List.replicate i true).map V.bl).length<sizeLine:=Nat.lt_of_le_of_lt (by rw[B0,List.length_replicate];lia) (zE (n:=3) ⋯)
   refine⟨_,rfl,_,_,rfl,rfl,_,rfl,zcx (zuj c1) ⟨_,_,rfl,rfl,hl',ll,⟨_,rfl⟩,?_,zi8⟩⟩
   rw[zua c2,List.replicate_succ',U0];rfl
  ·rintro l ys σ' H' hl ⟨⟨o,rfl⟩,rfl,rfl⟩ hl'
   refine⟨l,_,rfl,SqL.of hl',_,rfl,?_⟩
   have e1:((List.replicate x.length true).all id)=true:=T0.mpr λb hb=>by rw[List.eq_of_mem_replicate hb];rfl
   rw[e1]
   refine zas rfl ?_
   have q':=q _ (Same.new (o:= .lst ((List.replicate x.length true).map V.bl)) hl)
   refine⟨_,rfl,rfl,_,rfl,zak (λ_=>q') (λhz0=>?_)⟩
   have hx0:x.cps.toList.head?≠some 48:=h0.resolve_left λz=>hz0 (D0 (by rw[z]))
   obtain⟨c,cs,hc⟩:∃c cs,x.cps.toList=c::cs:=by
    cases e:x.cps.toList with
    |nil=>have:x.length=0:=by show x.cps.size=0;rw[←Array.length_toList,e];rfl
          lia
    |cons c cs=>exact ⟨c,cs,rfl⟩
   refine⟨_,rfl,x,0,c,rfl,rfl,hz,by rw[hc];exact at0,rfl,?_⟩
   rw[hc] at hx0
   have e0:(V.str ⟨#[c]⟩=V.str (Str.ofString "0"))=False:=eq_false λz=>hx0 (by
    have:=congrArg (λy:Str=>y.cps.toList) (V.str.inj z)
    have e48:(Str.ofString "0").cps.toList=[48]:=`Y2
    rw[e48] at this
    show some c=some 48
    rw[List.cons.inj this|>.1])
   have e2:(!decide (V.str ⟨#[c]⟩=V.str (Str.ofString "0")))=true:=by rw[G0 (of_eq_false e0)];rfl
   rw[e2];exact q'
noncomputable def zoK:Sp:=λvs H Q _=>∃(l:Addr) (xs:List Str),vs=[.ref l]/\H l=some (.lst (xs.map V.str))/\xs.length<=900/\(∀x∈xs,zm x=true)/\∀H',Same H H'->Q (.bl true) H'
theorem zfm(Y:Ev K mg):FnOk P w K mg base CX0 2 Y.a_all_names Y.d_all_names zbV zoK:=by
 have G_is_name:FnOk P w K mg base CX0 1 Y.a_is_name Y.d_is_name zaQ (zae zD):=zbo Y
 refine Y.all_names.fn.okQ zkO (λvs H Q E h=>?_) `X2
 ·obtain ⟨l,xs,rfl,_⟩:=h;rfl
 ·obtain ⟨l,xs,rfl,hl,h9,hn,q⟩:=h
  refine⟨_,(zj (zw (zp (zav rfl) Y.all zca (za (zaB (src:=[none]) ze3 rfl rfl (zgi (qv 0)) (λ_ _ _ _ _=>(zl 0 ze3.nd)) (λ_ _ _ _ _=>zaJ) (λ_ _ _ _ _=>(zf G_is_name `n3 Y.is_name.mg Y.is_name.kp Y.is_name.b .nil zi (za (qv 0) zb)))) zb)))),?_⟩
  refine⟨_,rfl,l,rfl,⟨_,SqL.of hl⟩,?_⟩
  refine zr6 (xs:=xs) (f:=λ_=> .bl true) (g:=λ_=>true) zeA (λH' s'=>SqL.of (s' _ _ hl)) h9 rfl (λx H1 Q1 s1 hx k=>k _ (Same.refl _)) (λx H1 Q1 s1 hx _ k=>?_) (λl2 H2 s2 hl2 hl2'=>?_)
  ·refine ⟨_,rfl, .str x, .str x,rfl, .str x (zQ (hn x hx)),λH2 s2=>?_⟩
   rw[zbx,hn x hx]
   exact k _ s2
  ·refine ⟨l2,(xs.filter λ_=>true).map λ_=>true,rfl,SqL.of (by rw[List.map_map];exact hl2'),?_⟩
   have e1:(((xs.filter λ_=>true).map λ_=>true).all id)=true:=T0.mpr λb hb=>by
    obtain⟨_,_,rfl⟩:=T1.mp hb
    rfl
   rw[e1];exact q _ s2
def Pts(H:Hp)(as:List Addr)(ps:List (List Str)):Prop:=as.length=ps.length/\∀(i:Nat) (a:Addr) (p:List Str),as[i]?=some a->ps[i]?=some p->H a=some (.lst (p.map V.str))
theorem Pts.nil:Pts H [] []:=⟨rfl,λi a p e=>by simp at e⟩
theorem Pts.snoc{ps:List (List Str)}{p:List Str}(h:Pts H as ps)(e:H a=some (.lst (p.map V.str))):Pts H (as ++ [a]) (ps ++ [p]):=by
 refine⟨by rw[O0,O0,h.1];rfl,λi b q h1 h2=>?_⟩
 by_cases hi:i<as.length
 ·rw[K2 hi] at h1
  rw[K2 (by rw[←h.1];exact hi)] at h2
  exact h.2 i b q h1 h2
 ·rw[E2 ()] at h1
  rw[E2 (by rw[←h.1];lia),←h.1] at h2
  cases hk:i -as.length with
  |zero=>rw[hk] at h1 h2;cases h1;cases h2;exact e
  |succ k=>rw[hk] at h1;simp at h1
theorem Pts.keep{ps:List (List Str)}(h:Pts H as ps)(k:∀a∈as,H' a=H a):Pts H' as ps:=
 ⟨h.1,λi a p h1 h2=>by rw[k a (L0 h1)];exact h.2 i a p h1 h2⟩
theorem Pts.some{H:Hp}{as:List Addr}{ps:List (List Str)}{a:Addr}(h:Pts H as ps)(ha:a∈as):∃o,H a=some o:=by
 obtain⟨i,hi⟩:=List.mem_iff_getElem?.mp ha
 have hl:i<as.length:=(List.getElem?_eq_some_iff.mp hi).1
 exact⟨_,h.2 i a _ hi (l0 (by rw[←h.1];exact hl))⟩
theorem zdI{mark x:Str}:∀{xs:List Str} {ps:List (List Str)},zba mark ps (xs ++ [x])=if x=mark then zba mark ps xs ++ [[]] else(zba mark ps xs).dropLast ++ [((zba mark ps xs).getLastD [])++ [x]]
 |[],ps=>by
  show(if x=mark then zba mark (ps ++ [[]]) [] else zba mark (ps.dropLast ++ [(ps.getLastD [])++ [x]]) [])=_
  rfl
 |y::ys,ps=>by
  show(if y=mark then zba mark (ps ++ [[]]) (ys ++ [x])else zba mark (ps.dropLast ++ [(ps.getLastD [])++ [y]]) (ys ++ [x]))=_
  have e:zba mark ps (y::ys)=if y=mark then zba mark (ps ++ [[]]) ys else zba mark (ps.dropLast ++ [(ps.getLastD [])++ [y]]) ys:=rfl
  rw[e]
  by_cases h:y=mark
  ·rw[p0 h,p0 h];exact zdI
  ·rw[V0 h,V0 h];exact zdI
noncomputable def zoW:Sp:=λvs H Q _=>∃(l:Addr) (ws:List Str) (mark:Str),vs=[.ref l, .str mark]/\H l=some (.lst (ws.map V.str))/\ws.length<=900/\∀p as H',H' p=some (.lst (as.map V.ref))->Pts H' as (zba mark [[]] ws)->Same H H'->Q (.ref p) H'
theorem znD(Y:Ev K mg):FnOk P w K mg base CX0 1 Y.a_parted Y.d_parted zfM zoW:=by
 refine Y.parted.fn.okQ zhQ (λvs H Q E h=>?_) `X2
 ·obtain ⟨l,ws,mark,rfl,_⟩:=h;rfl
 ·obtain ⟨l,ws,mark,rfl,hl,h9,q⟩:=h
  refine⟨_,(zh (zL 2 zhQ.nd (zbb (za (zbb zb) zb)))
   (zh (zcz U2 rfl (zgi (qv 0)) (zl 3 zhQ.nd) (zj (zar (zM zaX (qv 3) (qv 1)) (zj (zdY (zdm F.plainAttrs_list F.slot_list_append F.type_list_append zau (qv 2) (za (zbb zb) zb)))) (zj (zdY (zdm F.plainAttrs_list F.slot_list_append F.type_list_append zau (zN zA (qv 2) (zpG zhO ze)) (za (qv 3) zb)))))))
   (zj (zw (qv 2))))),?_⟩
  refine⟨few rfl,λb hb=>⟨few rfl,λp hp=>?_⟩⟩
  have nbp:p≠b:=λz=>by rw[z,upd_same] at hp;cases hp
  have hp0:H p=none:=by rw[zn nbp] at hp;exact hp
  refine⟨_,rfl,l,rfl,⟨_,SqL.of (Same.new hp _ _ (Same.new hb _ _ hl))⟩,?_⟩
  refine zcE zeA (λi σ' H'=>(∃o,σ'=[some (.ref l),some (.str mark),some (.ref p),o])/\Same H H'/\∃bs b qs q,zba mark [[]] (ws.take i)=qs ++ [q]/\bs.length<=i/\q.length<=i/\H' p=some (.lst ((bs ++ [b]).map V.ref))/\Pts H' bs qs/\H' b=some (.lst (q.map V.str))/\b∉bs/\p∉bs/\p≠b/\(∀a∈bs,H a=none)/\H b=none) ⟨⟨_,rfl⟩,(Same.new hb).trans (Same.new hp),[],b,[],[],rfl,K0 _,K0 _,upd_same, .nil,by rw[zn (Ne.symm nbp)];exact upd_same,`Z2,`Z2,nbp,`Z2,hb⟩ (λi σ' H' z=>SqL.of (z.2.1 _ _ hl)) ?_ ?_
  ·rintro i y σ' H1 hi hy ⟨⟨o,rfl⟩,s1,bs,b,qs,q,eq,lb,lq,hp1,pts,hb1,nb,np,npb,fr,frb⟩
   rw[B0] at hi
   have hx:ws[i]?=some ws[i]:=l0 hi
   have hy':y= .str ws[i]:=by rw[W0,hx] at hy;cases hy;rfl
   subst hy'
   have tk:ws.take (i+1)=ws.take i ++ [ws[i]]:=by rw[N1,hx];rfl
   generalize ws[i]=x at *
   refine⟨_,rfl,_,rfl,rfl,_,rfl,zak (λex=>?_) (λex=>?_)⟩
   ·have ex:=V.str.inj (B1 ex)
    refine⟨_,rfl, .inl ⟨rfl,_,SqL.of hp1⟩,few rfl,λn hn=>?_⟩
    have nnp:n≠p:=λz=>by rw[z,hp1] at hn;cases hn
    have pts1:=pts.snoc hb1
    have nnb:n∉bs ++ [b]:=λz=>by
     obtain⟨o,e⟩:=pts1.some z
     rw[hn] at e;cases e
    have npx:p∉bs ++ [b]:=λz=>by
     rcases G1.mp z with z|z
     ·exact np z
     ·exact npb (E1.mp z)
    have hn0:H n=none:=by
     cases e:H n with
     |none=>rfl
     |some o=>rw[s1 _ _ e] at hn;cases hn
    refine⟨p,_,_,rfl,rfl,by rw[zn (Ne.symm nnp)];exact hp1,zeM (by rw[B0,O0,List.length_singleton];lia),⟨_,rfl⟩,zag (s1.trans (Same.new hn)) hp0,bs ++ [b],n,qs ++ [q],[],by rw[tk,zdI,p0 ex,eq],by rw[O0,List.length_singleton];lia,X1 _,by rw[upd_same,U0 (l₂:=[n])];rfl,pts1.keep λa ha=>?_,by rw[zn nnp];exact upd_same,nnb,npx,Ne.symm nnp,λa ha=>?_,hn0⟩
    ·rw[zn λz=>npx (by rw[←z];exact ha),zn λz=>nnb (by rw[←z];exact ha)]
    ·rcases G1.mp ha with ha|ha
     ·exact fr a ha
     ·rw[E1.mp ha];exact frb
   ·have ex:¬x=mark:=λz=>of_decide_eq_false (tru ex) (by rw[z])
    refine⟨_,rfl,_,rfl,p,_,_, .ref b,rfl,rfl,SqL.of hp1,(by rw[U0];exact zlf _ _), .inl ⟨rfl,_,SqL.of hb1⟩,_,rfl,b,_,_,rfl,rfl,hb1,zeM (by rw[B0];lia),⟨_,rfl⟩,zag s1 frb,bs,b,qs,q ++ [x],by rw[tk,zdI,V0 ex,eq,List.dropLast_concat,List.getLastD_concat],(),by rw[O0,List.length_singleton];lia,by rw[zn npb];exact hp1,pts.keep λa ha=>by rw[zn λz=>nb (by rw[←z];exact ha)],by rw[upd_same,U0];rfl,nb,np,npb,fr,frb⟩
  ·rintro σ' H2 ⟨⟨o,rfl⟩,s2,bs,b,qs,q',eq,lb,lq,hp2,pts,hb2,nb,np,npb,fr,frb⟩
   rw[B0,B2] at eq
   refine⟨_,rfl,q p _ _ hp2 ?_ s2⟩
   rw[eq]
   exact pts.snoc hb2
noncomputable def zmu:Sp:=λvs H Q _=>∃(l:Addr) (d:D),vs=[.ref l]/\H l=some (.lst ((zby d).map V.str))/\zt d=true/\∀v H',Rep H' v d->Same H H'->Q v H'
theorem zfX(Y:Ev K mg):FnOk P w K mg base CX0 2 Y.a_plain_cond_in Y.d_plain_cond_in zbj zmu:=by
 have G_is_figures:FnOk P w K mg base CX0 1 Y.a_is_figures Y.d_is_figures zbA zpJ:=zeX Y
 have G_is_name:FnOk P w K mg base CX0 1 Y.a_is_name Y.d_is_name zaQ (zae zD):=zbo Y
 refine Y.plain_cond_in.fn.okQ zcc (λvs H Q E h=>?_) `X2
 ·obtain ⟨l,d,rfl,_⟩:=h;rfl
 ·obtain ⟨l,d,rfl,hl,hd,q⟩:=h
  obtain⟨x,e,rfl⟩:=zO d hd
  have hl:H l=some (.lst [.str x, .str (zbc e)]):=hl
  refine⟨_,(zh (zar (zM zfN (zp zH Y.len zaC (za (qv 0) zb)) ze) (zj (zw za9)) zS)
   (zh (zeT (qv 0) (ztH 2 rfl (zu (zl 1 zcc.nd) (zu (zl 2 zcc.nd) zaA))))
   (zh (zar (zM zaX (qv 1) zy) (zj (zw (zgK (zay (zf G_is_figures `n3 Y.is_figures.mg Y.is_figures.kp Y.is_figures.b .nil zi (za (qv 2) (za (zbB Y.m_MOST_FIGURES Y.r_MOST_FIGURES) zb)))) (zaf (za (qv 1) (za (zG zio Y.int zdQ (za (qv 2) zb)) zb))) za9))) zS)
   (zj (zw (zgK (t_w (zms (zM zdh (qv 1) (zbB (v:= .ref Y.a_NAMING) Y.m_NAMING rfl)) (zjV (zay (zf G_is_name `n3 Y.is_name.mg Y.is_name.kp Y.is_name.b .nil zi (za (qv 2) zb)))))) (zaf (za (qv 1) (za (qv 2) zb))) za9)))))),?_⟩
  refine⟨_,rfl, .inl ⟨l,[.str x, .str (zbc e)],rfl, .inl (SqL.of hl),rfl,_,rfl,zas (by show(!decide (V.int (2:Int)=V.int 2))=false;rw[D0 rfl];rfl) ?_⟩⟩
  refine⟨_,rfl,l,_,rfl,SqL.of hl,rfl,_,_,rfl,_,_,rfl,rfl,?_⟩
  refine⟨_,rfl,rfl,_,rfl,zak (λel=>?_) (λel=>?_)⟩
  ·have el:=V.str.inj (B1 el)
   subst el
   rcases zaa hd with⟨_,i,rfl,h0,h9⟩|⟨hx,_⟩
   ·obtain ⟨n,rfl⟩:∃n:Nat,i=(n:Int):=⟨i.toNat,()⟩
    refine⟨_,rfl,_,rfl,zkr (n:=n) (),λH1 s1=>⟨_,rfl,zcx rfl ?_⟩⟩
    refine⟨_,rfl,_,rfl,_,_,rfl,ziS (),F1 (zeg (i:=(n:Int)) () ()) ⋯,few rfl,λp hp=>?_⟩
    exact q _ _ (.mk2 upd_same (.str _ ⋯) (.int _)) (s1.trans (Same.new hp))
   ·exact absurd hx `Y2
  ·have el:¬x="long":=λz=>of_decide_eq_false (tru el) (by rw[z])
   rcases zaa hd with⟨z,_⟩|⟨hx,y,rfl,hy⟩
   ·exact absurd z el
   have hin:inV (V.str x) [.str "by", .str "from", .str "to", .str "mark"]=true:=by
    rcases za6 hx with rfl|rfl|rfl|rfl<;>decide +kernel
   refine⟨_,rfl,Y.a_NAMING,_,rfl, .inr (Y.t_NAMING _),rfl,rfl,_,rfl,zcx hin ?_⟩
   refine⟨_,rfl, .str y, .str y,rfl, .str y (zQ hy),λH1 s1=>⟨_,rfl,zcx (by rw[zbx];exact hy) ?_⟩⟩
   refine⟨_,rfl,_,rfl,few rfl,λp hp=>?_⟩
   exact q _ _ (.mk2 upd_same (.str _ (F1 (zfp hd) ⋯)) (.str _ (zQ hy))) (s1.trans (Same.new hp))
theorem zgQ{a b:Str}:(PyData.list [PyData.str a]).eqv (.list [PyData.str b])=decide (a=b):=by
 rw[Bool.eq_iff_iff]
 simp[PyData.eqv,PyData.eqvAll]
theorem znN{e:D}(h:zt (.tup [.str x,e])=true):PyData.strOk x=true:=by
 rcases zaa h with⟨rfl,_⟩|⟨hx,_⟩
 ·decide +kernel
 ·rcases za6 hx with rfl|rfl|rfl|rfl<;>decide +kernel
theorem zlm:za0 xs (some 1) none=xs.drop 1:=zd4 (m:=1)
noncomputable def zmt:Sp:=λvs H Q _=>∃(l:Addr) (d:D),vs=[.ref l]/\H l=some (.lst ((zab d).map V.str))/\zo d=true/\∀v H',Rep H' v d->Same H H'->Q v H'
theorem zl6(Y:Ev K mg):FnOk P w K mg base CX0 3 Y.a_cond_in Y.d_cond_in zeK zmt:=by
 have G_plain_cond_in:FnOk P w K mg base CX0 2 Y.a_plain_cond_in Y.d_plain_cond_in zbj zmu:=zfX Y
 refine Y.cond_in.fn.okQ ziT (λvs H Q E h=>?_) `X2
 ·obtain ⟨l,d,rfl,_⟩:=h;rfl
 ·obtain ⟨l,d,rfl,hl,hd,q⟩:=h
  obtain⟨x,e,rfl⟩:=zai d hd
  rw[zaE] at hd
  refine⟨_,(zh (zar (zM (zst (zn2 hr)) (zfd zaN (qv 0) zbM (za2 ze)) (zbb (za zy zb))) (zj (zw (zf G_plain_cond_in `n3 Y.plain_cond_in.mg Y.plain_cond_in.kp Y.plain_cond_in.b .nil zi (za (qv 0) zb)))) zS)
   (zh (zL 1 ziT.nd (zf G_plain_cond_in `n3 Y.plain_cond_in.mg Y.plain_cond_in.kp Y.plain_cond_in.b .nil zi (za (zfd zaN (qv 0) (za2 ze) zbM) zb)))
   (zj (zw (zgK (zM zed (qv 1) za9) za9 (zaf (za zy (za (qv 1) zb)))))))),?_⟩
  by_cases hx:x="not"
  ·subst hx
   rw[p0 rfl] at hd
   have hl:H l=some (.lst ((("not":Str)::zby e).map V.str)):=hl
   refine⟨_,rfl,_,rfl,l,_,rfl,SqL.of hl,λa ha=>⟨few rfl,λb hb=>?_⟩⟩
   have S1:=(Same.new (o:= .lst (za0 ((("not":Str)::zby e).map V.str) none (some 1))) ha).trans (Same.new (o:= .lst [.str "not"]) hb)
   have e1:za0 ((("not":Str)::zby e).map V.str) none (some 1)=[("not":Str)].map V.str:=zhJ (n:=1)
   have ha2:=Same.new (o:= .lst [.str "not"]) hb _ _ (upd_same (H:=H) (a:=a) (o:= .lst (za0 ((("not":Str)::zby e).map V.str) none (some 1))))
   rw[e1] at ha2
   refine⟨_,_,TrX.txs ha2 (λy hy=>?_),TrX.txs (xs:=[("not":Str)]) upd_same (λy hy=>?_),F1 (Nat.min_le_right _ _) ⋯,_,rfl,zas (by rw[show([("not":Str)].map PyData.str)=[PyData.str "not"] from rfl,zgQ,D0 rfl];rfl) ?_⟩
   ·rw[E1.mp hy];decide +kernel
   ·rw[E1.mp hy];decide +kernel
   generalize upd (upd H a _) b _=H2 at *
   dsimp only[zcl]
   refine⟨_,rfl,_,rfl,l,_,rfl,SqL.of (S1 _ _ hl),λc hc=>?_⟩
   refine⟨c,e,rfl,by rw[upd_same,zlm];rfl,hd,λv H' rv s'=>?_⟩
   obtain⟨x2,e2,rfl⟩:=zO e hd
   obtain⟨p,v0,v1,rfl,hp,_⟩:=id rv.of2
   refine⟨_,rfl,rfl,_,rfl,zas (G0 λz=>nomatch z) ⟨_,rfl,few rfl,λt ht=>?_⟩⟩
   exact q _ _ (.mk2 upd_same (.str _ ⋯) (rv.same (Same.new ht))) (((S1.trans (Same.new hc)).trans s').trans (Same.new ht))
  ·rw[V0 hx] at hd
   have hw:zab (.tup [.str x,e])=[x,zbc e]:=V0 hx
   rw[hw] at hl
   refine⟨_,rfl,_,rfl,l,_,rfl,SqL.of hl,λa ha=>⟨few rfl,λb hb=>?_⟩⟩
   have S1:=(Same.new (o:= .lst (za0 ([x,zbc e].map V.str) none (some 1))) ha).trans (Same.new (o:= .lst [.str "not"]) hb)
   have e1:za0 ([x,zbc e].map V.str) none (some 1)=[x].map V.str:=zhJ (n:=1)
   have ha2:=Same.new (o:= .lst [.str "not"]) hb _ _ (upd_same (H:=H) (a:=a) (o:= .lst (za0 ([x,zbc e].map V.str) none (some 1))))
   rw[e1] at ha2
   refine⟨_,_,TrX.txs ha2 (λy hy=>?_),TrX.txs (xs:=[("not":Str)]) upd_same (λy hy=>?_),F1 (Nat.min_le_right _ _) ⋯,_,rfl,zcx (by rw[show([("not":Str)].map PyData.str)=[PyData.str "not"] from rfl,show([x].map PyData.str)=[PyData.str x] from rfl,zgQ,G0 hx];rfl) ?_⟩
   ·rw[E1.mp hy];exact znN hd
   ·rw[E1.mp hy];decide +kernel
   exact⟨_,rfl,l, .tup [.str x,e],rfl,S1 _ _ hl,hd,λv H' rv s'=>q v H' rv (S1.trans s')⟩
theorem zf1(h:zo d=true):(zab d).length<=3:=by
 obtain⟨x,e,rfl⟩:=zai d h
 rw[zaE] at h
 show(if x="not"then ("not":Str)::zby e else [x,zbc e]).length<=3
 split
 ·rename_i z
  rw[p0 z] at h
  obtain⟨y,f,rfl⟩:=zO e h
  exact K0 3
 ·exact (by decide:2<=3)
theorem zhd:∀{cs:List D},(∀d∈cs,zo d=true)->(zbG cs).length<=4*cs.length
 |[],_=>K0 _
 |c::cs,h=>by
  have h1:=zf1 (h c Q0)
  have h2:=zhd (cs:=cs) λd hd=>h d (N0 _ hd)
  show(("and":Str)::(zab c ++zbG cs)).length<=4*(c::cs).length
  rw[Z0,O0,Z0];lia
theorem zlA{c:D}(h4:(c::cs).length<=4)(h:∀d∈c::cs,zo d=true):(zab c ++zbG cs).length<=900:=by
 have h1:=zf1 (h c Q0)
 have h2:=zhd (cs:=cs) λd hd=>h d (N0 _ hd)
 rw[Z0] at h4
 rw[O0];lia
noncomputable def zkD:Sp:=λvs H Q _=>∃(l:Addr) (cs:List D),vs=[.ref l]/\H l=some (.lst ((ze5 cs).map V.str))/\cs.length<=4/\(∀d∈cs,zo d=true)/\∀p us H',H' p=some (.lst us)->RepL H' us cs->Same H H'->Q (.ref p) H'
theorem zk8(Y:Ev K mg):FnOk P w K mg base CX0 4 Y.a_conds_in Y.d_conds_in zdq zkD:=by
 have G_cond_in:FnOk P w K mg base CX0 3 Y.a_cond_in Y.d_cond_in zeK zmt:=zl6 Y
 have G_parted:FnOk P w K mg base CX0 1 Y.a_parted Y.d_parted zfM zoW:=znD Y
 refine Y.conds_in.fn.okQ zlO (λvs H Q E h=>?_) `X2
 ·obtain ⟨l,cs,rfl,_⟩:=h;rfl
 ·obtain ⟨l,cs,rfl,hl,h4,hc,q⟩:=h
  refine⟨_,(zj (zw (zgK (zjv (qv 0)) (zaB (src:=[none]) zfJ rfl rfl (zgi (zf G_parted `n3 Y.parted.mg Y.parted.kp Y.parted.b .nil zi (za (zfd zaN (qv 0) (za2 ze) zbM) (za zy zb)))) (λ_ _ _ _ _=>(zl 0 zfJ.nd)) (λ_ _ _ _ _=>zaJ) (λ_ _ _ _ _=>(zf G_cond_in `n3 Y.cond_in.mg Y.cond_in.kp Y.cond_in.b .nil zi (za (qv 0) zb)))) (zbb zb)))),?_⟩
  cases cs with
  |nil=>
   refine⟨_,rfl,false, .inl ⟨_,SqL.of hl,rfl⟩,zas rfl ?_⟩
   exact⟨few rfl,λp hp=>q p [] _ upd_same .nil (Same.new hp)⟩
  |cons c cs=>
   have hl:H l=some (.lst ((("if":Str)::(zab c ++zbG cs)).map V.str)):=hl
   refine⟨_,rfl,true, .inl ⟨_,SqL.of hl,rfl⟩,zcx rfl ?_⟩
   dsimp only[zcl]
   refine⟨_,rfl,_,rfl,l,_,rfl,SqL.of hl,λa ha=>?_⟩
   have e1:za0 ((("if":Str)::(zab c ++zbG cs)).map V.str) (some 1) none=(zab c ++zbG cs).map V.str:=zd4 (m:=1)
   rw[e1]
   have S1:=Same.new (o:= .lst ((zab c ++zbG cs).map V.str)) ha
   refine⟨a,zab c ++zbG cs,_,rfl,upd_same,zlA (show(c::cs).length<=4 from h4) hc,λp as H2 hp pts s2=>?_⟩
   rw[zlT hc] at pts
   have S2:=S1.trans s2
   refine⟨p,rfl,⟨_,SqL.of hp⟩,?_⟩
   have al:as.length<=4:=by rw[pts.1,B0];exact h4
   refine zaD zeA (λl i ys σ' H'=>(∃o,σ'=[o])/\RepL H' ys ((c::cs).take i)/\Same H2 H') (λl hl=>⟨⟨_,rfl⟩, .nil,Same.new hl⟩) (λl i ys σ' H' _ z=>SqL.of (z.2.2 _ _ hp)) ?_ ?_
   ·rintro l i y ys σ' H' hl2 hi hy ⟨⟨o,rfl⟩,rl,s3⟩ hl'
    rw[W0] at hy
    cases ea:as[i]? with
    |none=>rw[ea] at hy;cases hy
    |some ai=>
     rw[ea] at hy
     cases hy
     rw[B0] at hi
     have hci:i<(c::cs).length:=by rw[pts.1,B0] at hi;exact hi
     have ed:(c::cs)[i]?=some (c::cs)[i]:=l0 hci
     have hmem:=L0 ed
     generalize (c::cs)[i]=d at *
     have hai:=pts.2 i ai (zab d) ea (by rw[W0,ed];rfl)
     refine⟨_,rfl,ai,d,rfl,s3 _ _ hai,hc d hmem,λv H3 rv s4=>⟨s4 _ _ hl',zeM (by rw[rl.1,K1];lia),⟨_,rfl⟩,?_,zag (s3.trans s4) hl2⟩⟩
     have m4:=Mono.lset (ys:=ys ++ [v]) (s4 _ _ hl')
     rw[N1,ed]
     exact(rl.mono ((Mono.of s4).trans m4)).append (.cons (rv.mono m4) .nil)
   ·rintro l ys σ' H3 hl2 ⟨⟨o,rfl⟩,rl,s3⟩ hl3
    rw[B0,List.take_of_length_le (by rw[pts.1,B0];exact K0 _)] at rl
    exact q l ys H3 hl3 rl (S2.trans s3)
noncomputable def zmI(tw:D->List Str)(c:D->Bool):Sp:=λvs H Q _=>∃(l:Addr) (x:D),vs=[.ref l]/\H l=some (.lst ((tw x).map V.str))/\c x=true/\∀p v H',H' p=some (.lst [v])->Rep H' v x->Same H H'->Q (.ref p) H'
noncomputable def zfY(x:D):List Str:=[zF x]
theorem ziW(Y:Ev K mg):FnOk P w K mg base CX0 2 Y.a_worths_in Y.d_worths_in zcX (zmI zfY zT):=by
 have G_is_figures:FnOk P w K mg base CX0 1 Y.a_is_figures Y.d_is_figures zbA zpJ:=zeX Y
 refine Y.worths_in.fn.okQ zkM (λvs H Q E h=>?_) `X2
 ·obtain ⟨l,x,rfl,_⟩:=h;rfl
 ·obtain ⟨l,x,rfl,hl,hx,q⟩:=h
  have hl:H l=some (.lst ([zF x].map V.str)):=hl
  refine⟨_,(zh (zar (zM (zpV (zn2 hr)) (qv 0) (zbb (za zy zb))) (zj (zw (zbb (za za9 zb)))) zS)
   (zh (zar (t_w (zdu (zM zfN (zp zH Y.len zaC (za (qv 0) zb)) ze) (zdu (zM (zpV (zn2 hr)) (qv 0) (zbb (za zy zb))) (zdc (zaW (zay (zf G_is_figures `n3 Y.is_figures.mg Y.is_figures.kp Y.is_figures.b .nil zi (za (zdm O2 F.slot_str_removeprefix F.type_str_removeprefix zo0 (zN zA (qv 0) ze) (za zy zb)) (za (zbB Y.m_MOST_FIGURES Y.r_MOST_FIGURES) zb))))))))) (zj (zw (zbb zb))) zS)
   (zj (zw (zbb (za (zG zio Y.int zdQ (za (zN zA (qv 0) ze) zb)) zb)))))),?_⟩
  have ok1:PyData.strOk (zF x)=true:=by
   rcases zaK hx with rfl|⟨i,rfl,i0,i9⟩
   ·decide +kernel
   ·exact zsJ i0 i9
  refine⟨_,rfl,few rfl,λa ha=>?_⟩
  have S1:=Same.new (o:= .lst [V.str "never"]) ha
  have e1:∀y:Str,[y].map PyData.str=[PyData.str y]:=λ_=>rfl
  refine⟨_,_,TrX.txs (S1 _ _ hl) (λy hy=>by rw[E1.mp hy];exact ok1),TrX.txs (xs:=[("never":Str)]) upd_same (λy hy=>by rw[E1.mp hy];decide +kernel),F1 (Nat.min_le_right _ _) ⋯,_,rfl,?_⟩
  rw[e1,e1,zgQ]
  rcases zaK hx with rfl|⟨i,rfl,i0,i9⟩
  ·refine zcx (D0 rfl) ⟨few rfl,λp hp=>?_⟩
   exact q p _ _ upd_same .non (S1.trans (Same.new hp))
  obtain⟨nv,n0,fg,rd,nl⟩:=zn3 i0 i9
  refine zas (G0 nv) ?_
  generalize upd H a _=H1 at *
  have hl1:=S1 _ _ hl
  refine⟨_,rfl, .inl ⟨l,_,rfl, .inl (SqL.of hl1),rfl,_,rfl,zas (by show(!decide (V.int (1:Int)=V.int 1))=false;rw[D0 rfl];rfl) ?_⟩⟩
  refine⟨_,rfl,few rfl,λb hb=>?_⟩
  have S2:=Same.new (o:= .lst [V.str "-0"]) hb
  refine⟨_,_,TrX.txs (S2 _ _ hl1) (λy hy=>by rw[E1.mp hy];exact ok1),TrX.txs (xs:=[("-0":Str)]) upd_same (λy hy=>by rw[E1.mp hy];decide +kernel),F1 (Nat.min_le_right _ _) ⋯,_,rfl,?_⟩
  rw[e1,e1,zgQ]
  refine zas (G0 n0) ?_
  generalize upd H1 b _=H2 at *
  have hl2:=S2 _ _ hl1
  refine⟨_,rfl,l,_,_, .str (zbv i),rfl,rfl,SqL.of hl2,at0,rfl,zbv i,_,rfl,rfl,F1 nl ⋯,_,rfl,fg,λH3 s3=>⟨_,rfl,zas rfl ?_⟩⟩
  refine⟨_,rfl,l,_,_, .str (zbv i),rfl,rfl,SqL.of (s3 _ _ hl2),at0,_,_,rfl,rd,nl,few rfl,λp hp=>?_⟩
  exact q p _ _ upd_same (.int i) (((S1.trans S2).trans s3).trans (Same.new hp))
noncomputable def zjP(x:D):List Str:=zbl x
theorem zlE(Y:Ev K mg):FnOk P w K mg base CX0 4 Y.a_acts_in Y.d_acts_in zet (zmI zjP zZ):=by
 have G_is_act:FnOk P w K mg base CX0 3 Y.a_is_act Y.d_is_act zd5 (zae zZ):=ziE Y
 refine Y.acts_in.fn.okQ znL (λvs H Q E h=>?_) `X2
 ·obtain ⟨l,x,rfl,_⟩:=h;rfl
 ·obtain ⟨l,x,rfl,hl,hx,q⟩:=h
  obtain⟨xs,rfl,_,_,lx,hxs⟩:=zbU hx
  have hl:H l=some (.lst (xs.map V.str)):=by
   have e:zjP (.tup (xs.map D.str))=xs:=strs_map xs
   rw[e] at hl;exact hl
  refine⟨_,(zj (zw (zgK (zay (zf G_is_act `n3 Y.is_act.mg Y.is_act.kp Y.is_act.b .nil zi (za (zG zC Y.tuple zX (za (qv 0) zb)) zb))) (zbb (za (zG zC Y.tuple zX (za (qv 0) zb)) zb)) (zbb zb)))),?_⟩
  refine⟨_,rfl,l,_,rfl, .inl ⟨SqL.of hl,λa ha=>?_⟩⟩
  have S1:=Same.new (o:= .tup (xs.map V.str)) ha
  refine⟨_,_,rfl, .mkL upd_same (by rw[B0];lia) (zhL λx hx=>F1 (hxs x hx) ⋯),λH2 s2=>⟨_,rfl,zcx hx ?_⟩⟩
  have S2:=S1.trans s2
  refine⟨_,rfl,l,_,rfl, .inl ⟨SqL.of (S2 _ _ hl),λb hb=>⟨few rfl,λp hp=>?_⟩⟩⟩
  exact q p _ _ upd_same ((Rep.mkL upd_same (by rw[B0];lia) (zhL λx hx=>F1 (hxs x hx) ⋯)).same (Same.new hp)) ((S2.trans (Same.new hb)).trans (Same.new hp))
def RuleK(w:Str)(tw:List Str)(x:D):Prop:=(w="like"/\tw=zfY x/\zT x=true)\/(w="hand"/\tw=zjP x/\zZ x=true)
theorem RuleK.two{w:Str}{x:D}(r:RuleK w tw x):1<=tw.length/\tw.length<=2/\("if":Str)∉tw:=by
 rcases r with⟨rfl,rfl,hx⟩|⟨rfl,rfl,hx⟩
 ·refine ⟨K0 1,(by decide:1<=2),λz=>?_⟩
  have z:=E1.mp z
  rcases zaK hx with rfl|⟨i,rfl,i0,i9⟩
  ·exact absurd z `Y2
  ·exact (zk4 i0 i9).2.1 z.symm
 ·rcases zhC hx with rfl|⟨v,y,rfl,hv,hy⟩
  ·exact ⟨(by decide:1<=1),(by decide:1<=2),λz=>absurd z `Y2⟩
  ·refine ⟨(by decide:1<=2),K0 2,λz=>?_⟩
   have z:("if":Str)∈ [v,y]:=z
   simp only[I0,U1,or_false] at z
   rcases z with z|z
   ·rcases hv with rfl|rfl<;>exact absurd z `Y2
   ·exact (zhw hy).2.1 z.symm
theorem zma(h4:cs.length<=4)(h:∀d∈cs,zo d=true):(ze5 cs).length<=20:=by
 cases cs with
 |nil=>exact X1 _
 |cons c cs=>
  have h1:=zf1 (h c Q0)
  have h2:=zhd (cs:=cs) λd hd=>h d (N0 _ hd)
  rw[Z0] at h4
  show(("if":Str)::(zab c ++zbG cs)).length<=20
  rw[Z0,O0];lia
theorem zfZ{w h:Str}:(zcd w h tw cs).length=2+tw.length+(ze5 cs).length:=by
 unfold zcd;rw[Z0,Z0,O0];lia
theorem zp4{w h:Str}:za0 ((zcd w h tw cs).map V.str) (some 2) (some ((2+tw.length:Nat):Int))=tw.map V.str:=by
 refine(zrr (m:=2) (n:=2+tw.length)).trans ?_
 rw[B0,zfZ,Nat.min_eq_left (),Nat.min_eq_left (),Nat.add_sub_cancel_left]
 unfold zcd
 rw[J1,J1,U0]
 show((tw.map V.str)++_).take tw.length=_
 rw[List.take_left' (by rw[B0])]
theorem zsN{w h:Str}:za0 ((zcd w h tw cs).map V.str) (some ((2+tw.length:Nat):Int)) none=(ze5 cs).map V.str:=by
 refine(zd4 (m:=2+tw.length)).trans ?_
 unfold zcd
 rw[J1,J1,U0,Nat.add_comm 2]
 show((tw.map V.str)++_).drop tw.length=_
 rw[List.drop_left' (by rw[B0])]
theorem ztA{w h:Str}{c:D}(h1:w≠"if")(h2:h≠"if")(h3:("if":Str)∉tw):(zcd w h tw (c::cs))[2+tw.length]?=some "if"/\∀i<2+tw.length,(zcd w h tw (c::cs))[i]?≠some "if":=by
 refine⟨?_,λi hi=>?_⟩
 ·show (w::h::(tw ++("if":Str)::(zab c ++zbG cs)))[2+tw.length]?=some "if"
  rw[Nat.add_comm 2]
  show(tw ++("if":Str)::(zab c ++zbG cs))[tw.length]?=some "if"
  rw[E2 (K0 _),Nat.sub_self];rfl
 ·intro z
  match i,hi,z with
  |0,_,z=>exact h1 (A1 z)
  |1,_,z=>exact h2 (A1 z)
  |i+2,hi,z=>
   have z:(tw ++("if":Str)::(zab c ++zbG cs))[i]?=some "if":=z
   rw[K2 ()] at z
   exact h3 (L0 z)
theorem zrh(h:∀d∈cs,zo d=true):((pyL cs).any λy=>y.eqv .none)=false:=by
 rw[List.any_eq_false]
 intro y hy
 rw[zgU] at hy
 obtain⟨d,hd,rfl⟩:=T1.mp hy
 obtain⟨x,e,rfl⟩:=zai d (h d hd)
 rw[pyD];simp[PyData.eqv]
theorem zqx(e:H l=some (.lst vs))(r:RepL H vs ds)(ok:∀d∈ds,okD d=true):Tr H (.ref l) (.list (pyL ds)):=by
 rw[zgU]
 refine .lst e (by rw[r.1,B0]) λi v d e1 e2=>?_
 rw[W0] at e2
 cases e3:ds[i]? with
 |none=>rw[e3] at e2;cases e2
 |some d'=>
  rw[e3] at e2;cases e2
  exact ztW (r.2 i v d' e1 e3) (ok d' (L0 e3))
noncomputable def zmg:Sp:=λvs H Q _=>∃(l:Addr) (w h:Str) (tw:List Str) (cs:List D) (x:D),vs=[.ref l]/\H l=some (.lst ((zcd w h tw cs).map V.str))/\RuleK w tw x/\zm h=true/\cs.length<=4/\(∀d∈cs,zo d=true)/\∀v H',Rep H' v (.tup [.str h, .tup [.tup cs,x]])->Same H H'->Q v H'
theorem zlR(Y:Ev K mg):FnOk P w K mg base CX0 5 Y.a_rule_in Y.d_rule_in zeI zmg:=by
 have G_is_name:FnOk P w K mg base CX0 1 Y.a_is_name Y.d_is_name zaQ (zae zD):=zbo Y
 have G_worths_in:FnOk P w K mg base CX0 2 Y.a_worths_in Y.d_worths_in zcX (zmI zfY zT):=ziW Y
 have G_acts_in:FnOk P w K mg base CX0 4 Y.a_acts_in Y.d_acts_in zet (zmI zjP zZ):=zlE Y
 have G_conds_in:FnOk P w K mg base CX0 4 Y.a_conds_in Y.d_conds_in zdq zkD:=zk8 Y
 refine Y.rule_in.fn.okQ zeC (λvs H Q E h=>?_) `X2
 ·obtain ⟨l,w,h,tw,cs,x,rfl,_⟩:=h;rfl
 ·obtain ⟨l,wd,h,tw,cs,x,rfl,hl,hk,hh,h4,hc,q⟩:=h
  obtain⟨t1,t2,tif⟩:=hk.two
  have lc:(ze5 cs).length<=20:=zma h4 hc
  have hw2:wd="like"\/wd="hand":=hk.elim (λz=> .inl z.1) λz=> .inr z.1
  refine⟨_,(zh (zar (zM zdL (zN zA (qv 0) ze) (zaf (za zy (za zy zb)))) (zj (zw za9)) zS)
   (zka (zL 1 zeC.nd (zgK (zM zdh zy (qv 0)) (zdm F.plainAttrs_list F.slot_list_index F.type_list_index znA (qv 0) (za zy zb)) (zp zH Y.len zaC (za (qv 0) zb))))
   (zka (zL 2 zeC.nd (zgK (zM zaX (zN zA (qv 0) ze) zy) (zf G_worths_in `n3 Y.worths_in.mg Y.worths_in.kp Y.worths_in.b .nil zi (za (zfd zaN (qv 0) (za2 ze) (za2 (qv 1))) zb)) (zf G_acts_in `n3 Y.acts_in.mg Y.acts_in.kp Y.acts_in.b .nil zi (za (zfd zaN (qv 0) (za2 ze) (za2 (qv 1))) zb))))
   (zh (zL 3 zeC.nd (zf G_conds_in `n3 Y.conds_in.mg Y.conds_in.kp Y.conds_in.b .nil zi (za (zfd zaN (qv 0) (za2 (qv 1)) zbM) zb)))
   (zh (zar (t_w (zdu (zaW (zjv (qv 2))) (zdu (zM (zsl (zn2 hr)) za9 (qv 3)) (zdc (zaW (zay (zf G_is_name `n3 Y.is_name.mg Y.is_name.kp Y.is_name.b .nil zi (za (zN zA (qv 0) ze) zb)))))))) (zj (zw za9)) zS)
   (zj (zw (zaf (za (zN zA (qv 0) ze) (za (zaf (za (zG zC Y.tuple zX (za (qv 3) zb)) (za (zN zA (qv 2) ze) zb))) zb)))))))))),?_⟩
  refine⟨_,rfl,l,_,0, .str wd,rfl,rfl,SqL.of hl,at0,few rfl,λa ha=>?_⟩
  have S1:=Same.new (o:= .tup [V.str "like",V.str "hand"]) ha
  have e1:inV (V.str wd) [V.str "like",V.str "hand"]=true:=by rcases hw2 with rfl|rfl<;>decide +kernel
  refine⟨a,_,rfl, .inr (.inl (.inl upd_same)),rfl,rfl,_,rfl,zas (by show(!inV (V.str wd) [V.str "like",V.str "hand"])=false;rw[e1];rfl) ?_⟩
  generalize upd H a _=H1 at *
  have hl1:=S1 _ _ hl
  have wif:wd≠"if":=by rcases hw2 with rfl|rfl<;>decide +kernel
  have hif:=(zhw hh).2.1
  refine⟨λσ' H'=>σ'=[some (.ref l),some (.int ((2+tw.length:Nat):Int)),none,none]/\H'=H1,?_,?_⟩
  ·refine ⟨_,rfl,l,_,rfl, .inl (SqL.of hl1),rfl,zfU,_,rfl,?_⟩
   cases cs with
   |nil=>
    refine zas ?_ ⟨_,rfl, .inl ⟨l,_,rfl, .inl (SqL.of hl1),?_,rfl⟩⟩
    ·show inV (.str "if") _=false
     rw[inS]
     refine G0 λz=>?_
     have z:("if":Str)∈wd::h::(tw ++ []):=z
     rw[O1] at z
     rcases I0.mp z with z|z
     ·exact wif z.symm
     ·rcases I0.mp z with z|z
      ·exact hif z.symm
      ·exact tif z
    ·rw[B0,zfZ];rfl
   |cons c cs=>
    obtain⟨g1,g2⟩:=ztA (c:=c) (cs:=cs) wif hif tif
    refine zcx ?_ ⟨_,rfl, .inl ⟨rfl,_,SqL.of hl1⟩,l,_,_,_,rfl,rfl,hl1,g1,g2,by rw[zfZ];lia,rfl,rfl⟩
    show inV (.str "if") _=true
    rw[inS]
    exact D0 (L0 g1)
  rintro σ' H1 ⟨rfl,rfl⟩
  refine⟨λσ' H'=>∃p v,σ'=[some (.ref l),some (.int ((2+tw.length:Nat):Int)),some (.ref p),none]/\H' p=some (.lst [v])/\Rep H' v x/\Same H1 H',?_,?_⟩
  ·refine ⟨_,rfl,l,_,0, .str wd,rfl,rfl,SqL.of hl1,at0,rfl,_,rfl,?_⟩
   rcases hk with⟨rfl,rfl,hx⟩|⟨rfl,rfl,hx⟩
   ·refine zcx (D0 rfl) ⟨_,rfl,_,rfl,_,rfl,_,rfl,l,_,rfl,SqL.of hl1,λb hb=>?_⟩
    refine⟨b,x,rfl,by rw[upd_same,zp4],hx,λp v H' hp rv s'=>⟨p,v,rfl,hp,rv,(Same.new hb).trans s'⟩⟩
   ·refine zas (G0 λz=>absurd (V.str.inj z) `Y2) ⟨_,rfl,_,rfl,_,rfl,_,rfl,l,_,rfl,SqL.of hl1,λb hb=>?_⟩
    refine⟨b,x,rfl,by rw[upd_same,zp4],hx,λp v H' hp rv s'=>⟨p,v,rfl,hp,rv,(Same.new hb).trans s'⟩⟩
  rintro σ' H2 ⟨p,v,rfl,hp,rv,s2⟩
  have hl2:=s2 _ _ hl1
  dsimp only[zcl]
  refine⟨_,rfl,_,rfl,_,rfl,l,_,rfl,SqL.of hl2,λb hb=>⟨b,cs,rfl,by rw[upd_same,zsN],h4,hc,λp2 us H3 hp2 rl s3'=>?_⟩⟩
  have s3:=(Same.new (o:= .lst (za0 ((zcd wd h tw cs).map V.str) (some ((2+tw.length:Nat):Int)) none)) hb).trans s3'
  have hp3:=s3 _ _ hp
  have hl3:=s3 _ _ hl2
  refine⟨_,rfl,true, .inl ⟨_,SqL.of hp3,rfl⟩,zas rfl ?_⟩
  refine⟨_,rfl,_,_, .non, .inl (zqx hp2 rl λd hd=>zpe (hc d hd)),⋯,_,rfl,zas (zrh hc) ?_⟩
  refine⟨_,rfl,l,_,1, .str h,rfl,rfl,SqL.of hl3,at1,_,_,rfl, .str h (zQ hh),λH4 s4=>⟨_,rfl,zas (by rw[zbx,hh];rfl) ?_⟩⟩
  have hp4:=s4 _ _ hp3
  have hl4:=s4 _ _ hl3
  refine⟨_,rfl,l,_,1, .str h,rfl,rfl,SqL.of hl4,at1,_,rfl,p2,us,rfl, .inl ⟨SqL.of (s4 _ _ hp2),λt ht=>?_⟩⟩
  have S5:=Same.new (o:= .tup us) ht
  refine⟨_,rfl,p,_,0,v,rfl,rfl,SqL.of (S5 _ _ hp4),at0,few rfl,λu hu=>⟨few rfl,λz hz=>?_⟩⟩
  have S6:=Same.new (o:= .tup [V.ref t,v]) hu
  have S7:=Same.new (o:= .tup [V.str h, .ref u]) hz
  have rc:Rep (upd H4 t (.tup us)) (.ref t) (.tup cs):= .mkL upd_same () (rl.mono (.of (s4.trans S5)))
  have rx:=rv.same ((s3.trans s4).trans S5)
  refine q _ _ (.mk2 upd_same (.str h (zQ hh)) ((Rep.mk2 upd_same (rc.same S6) (rx.same S6)).same S7)) ?_
  exact(((((S1.trans s2).trans s3).trans s4).trans S5).trans S6).trans S7
def zqA(hs ws:List Str)(kp:Int×Int)(d:D):Prop:=
 (∃a b,ws=[("tie":Str),a,b]/\zm a=true/\zm b=true/\kp=(0,0)/\d= .tup [.str a, .str b])\/
 ∃(w h:Str) (tw:List Str) (cs:List D) (x:D) (j:Nat),ws=zcd w h tw cs/\RuleK w tw x/\zm h=true/\cs.length<=4/\(∀c∈cs,zo c=true)/\hs[j]?=some h/\(∀i<j,hs[i]?≠some h)/\kp=((if w="like"then 1 else 2),(j:Int))/\d= .tup [.tup cs,x]
noncomputable def zqG(e:(Int×Int)×D):D:= .tup [.tup [.int e.1.1, .int e.1.2],e.2]
noncomputable def zoZ:Sp:=λvs H Q _=>∃(ph l:Addr) (hs ws:List Str) (kp:Int×Int) (d:D),vs=[.ref ph, .ref l]/\H ph=some (.tup (hs.map V.str))/\H l=some (.lst (ws.map V.str))/\zqA hs ws kp d/\∀v H',Rep H' v (zqG (kp,d))->Same H H'->Q v H'
theorem zn0(Y:Ev K mg):FnOk P w K mg base CX0 6 Y.a_row_in Y.d_row_in zfx zoZ:=by
 have G_all_names:FnOk P w K mg base CX0 2 Y.a_all_names Y.d_all_names zbV zoK:=zfm Y
 have G_rule_in:FnOk P w K mg base CX0 5 Y.a_rule_in Y.d_rule_in zeI zmg:=zlR Y
 refine Y.row_in.fn.okQ zk2 (λvs H Q E h=>?_) `X2
 ·obtain ⟨ph,l,hs,ws,kp,d,rfl,_⟩:=h;rfl
 ·obtain ⟨ph,l,hs,ws,kp,d,rfl,hph,hl,hw,q⟩:=h
  refine⟨_,(zh (zar (zM zaX (zN zA (qv 1) ze) zy) (zj (zw (zgK (t_w (zms (zM zaX (zp zH Y.len zaC (za (qv 1) zb)) ze) (zjV (zay (zf G_all_names `n3 Y.all_names.mg Y.all_names.kp Y.all_names.b .nil zi (za (zfd zaN (qv 1) (za2 ze) zbM) zb)))))) (zaf (za (zaf (za ze (za ze zb))) (za (zG zC Y.tuple zX (za (zfd zaN (qv 1) (za2 ze) zbM) zb)) zb))) za9))) zS)
   (zh (zL 2 zk2.nd (zf G_rule_in `n3 Y.rule_in.mg Y.rule_in.kp Y.rule_in.b .nil zi (za (qv 1) zb)))
   (zh (zar (t_w (zdu (zM zed (qv 2) za9) (zdc (zM zdL (zN zR (qv 2) ze) (qv 0))))) (zj (zw za9)) zS)
   (zj (zw (zaf (za (zaf (za (zdm F.plainAttrs_tuple F.slot_tuple_index F.type_tuple_index ziJ (zbB (v:= .ref Y.a_KINDS) Y.m_KINDS rfl) (za (zN zA (qv 1) ze) zb)) (za (zdm F.plainAttrs_tuple F.slot_tuple_index F.type_tuple_index ziJ (qv 0) (za (zN zR (qv 2) ze) zb)) zb))) (za (zN zR (qv 2) ze) zb)))))))),?_⟩
  rcases hw with⟨a,b,rfl,ha,hb,rfl,rfl⟩|⟨wd,h,tw,cs,x,j,rfl,hk,hh,h4,hc,hj,hbe,rfl,rfl⟩
  ·refine ⟨_,rfl,l,_,0, .str "tie",rfl,rfl,SqL.of hl,at0,rfl,_,rfl,zcx (D0 rfl) ?_⟩
   refine⟨_,rfl, .inl ⟨l,_,rfl, .inl (SqL.of hl),rfl,_,rfl,zcx (by show decide (V.int (3:Int)=V.int 3)=true;exact D0 rfl) ?_⟩⟩
   refine⟨_,rfl,_,rfl,l,_,rfl,SqL.of hl,λp hp=>?_⟩
   refine⟨p,[a,b],rfl,by rw[upd_same,zlm];rfl,(by decide:2<=900),λx hx=>?_,λH1 s1=>⟨_,rfl,zcx rfl ⟨few rfl,λu hu=>?_⟩⟩⟩
   ·simp only[I0,U1,or_false] at hx
    rcases hx with rfl|rfl
    ·exact ha
    ·exact hb
   have S1:=(Same.new hp).trans s1
   have S2:=S1.trans (Same.new (o:= .tup [V.int 0,V.int 0]) hu)
   refine⟨_,rfl,_,rfl,l,_,rfl,SqL.of (S2 _ _ hl),λp2 hp2=>?_⟩
   have S3:=Same.new (o:= .lst (za0 ([("tie":Str),a,b].map V.str) (some 1) none)) hp2
   have e3:za0 ([("tie":Str),a,b].map V.str) (some 1) none=[V.str a,V.str b]:=by rw[zlm];rfl
   refine⟨p2,_,rfl, .inl ⟨SqL.of upd_same,λt ht=>⟨few rfl,λz hz=>?_⟩⟩⟩
   have S4:=Same.new (o:= .tup (za0 ([("tie":Str),a,b].map V.str) (some 1) none)) ht
   have S5:=Same.new (o:= .tup [V.ref u,V.ref t]) hz
   have ru:=S4 _ _ (S3 _ _ (upd_same (H:=H1) (a:=u) (o:= .tup [V.int 0,V.int 0])))
   have rt:∀G:Hp,upd G t (.tup (za0 ([("tie":Str),a,b].map V.str) (some 1) none)) t=some (.tup [V.str a,V.str b]):=λG=>by rw[upd_same,e3]
   refine q _ _ (.mk2 upd_same ((Rep.mk2 ru (.int 0) (.int 0)).same S5) ((Rep.mk2 (rt _) (.str a (zQ ha)) (.str b (zQ hb))).same S5)) (((S2.trans S3).trans S4).trans S5)
  have wt:wd≠"tie":=by rcases hk with⟨rfl,_⟩|⟨rfl,_⟩<;>decide +kernel
  refine⟨_,rfl,l,_,0, .str wd,rfl,rfl,SqL.of hl,at0,rfl,_,rfl,zas (G0 λz=>wt (V.str.inj z)) ?_⟩
  refine⟨_,rfl,l,wd,h,tw,cs,x,rfl,hl,hk,hh,h4,hc,λv H1 rv s1=>?_⟩
  obtain⟨p,v0,v1,rfl,hp,r0,r1⟩:=rv.of2
  cases r0
  have hph1:=s1 _ _ hph
  have hl1:=s1 _ _ hl
  refine⟨_,rfl,rfl,_,rfl,zas (G0 λz=>nomatch z) ?_⟩
  have hin:(!inV (.str h) (hs.map V.str))=false:=by rw[inS,D0 (L0 hj)];rfl
  refine⟨_,rfl,p,_,0, .str h,rfl,rfl, .inl (.inl hp),at0,_,rfl,ph,_,rfl, .inr (.inl (.inl hph1)),rfl,zfU,_,rfl,zas hin ?_⟩
  have hk3:∃k:Nat,[("tie":Str),"like","hand"][k]?=some wd/\(∀i<k,[("tie":Str),"like","hand"][i]?≠some wd)/\(k:Int)=if wd="like"then 1 else 2:=by
   rcases hk with⟨rfl,_⟩|⟨rfl,_⟩
   ·exact ⟨1,rfl,λi hi=>by match i,hi with|0,_=>exact λz=>absurd (A1 z) `Y2,by rw[p0 rfl];rfl⟩
   ·refine ⟨2,rfl,λi hi=>?_,by rw[V0 `Y2];rfl⟩
    match i,hi with
    |0,_=>exact λz=>absurd (A1 z) `Y2
    |1,_=>exact λz=>absurd (A1 z) `Y2
  obtain⟨k,hk1,hk2,hk4⟩:=hk3
  refine⟨.inr (.inl ⟨rfl,Y.y_KINDS⟩),_,rfl,l,_,0, .str wd,rfl,rfl,SqL.of hl1,at0,Y.a_KINDS,[("tie":Str),"like","hand"],wd,k,rfl,rfl,(Y.t_KINDS _),hk1,hk2,?_⟩
  refine⟨_,rfl, .inr (.inr (.inr (.inr ⟨rfl,_,hph1⟩))),_,rfl,p,_,0, .str h,rfl,rfl, .inl (.inl hp),at0,ph,hs,h,j,rfl,rfl, .inl (.inl hph1),hj,hbe,few rfl,λu hu=>?_⟩
  have S2:=Same.new (o:= .tup [V.int k,V.int j]) hu
  refine⟨_,rfl,p,_,1,v1,rfl,rfl, .inl (.inl (S2 _ _ hp)),at1,few rfl,λz hz=>?_⟩
  have S3:=Same.new (o:= .tup [V.ref u,v1]) hz
  have ru:=S3 _ _ (upd_same (H:=H1) (a:=u) (o:= .tup [V.int k,V.int j]))
  refine q _ _ ?_ ((s1.trans S2).trans S3)
  show Rep _ _ (.tup [.tup [.int (if wd="like"then 1 else 2), .int j], .tup [.tup cs,x]])
  rw[←hk4]
  exact .mk2 upd_same (.mk2 ru (.int _) (.int _)) ((r1.same S2).same S3)
noncomputable def zp3(a b:Int×Int):Bool:=lexLt [a.1,a.2] [b.1,b.2]
def zrR(hs:List Str)(wss:List (List Str))(rs:List ((Int×Int)×D)):Prop:=
 wss.length=rs.length/\(∀(i:Nat) (ws:List Str) (e:(Int×Int)×D),wss[i]?=some ws->rs[i]?=some e->zqA hs ws e.1 e.2)/\
 (∀(i:Nat) (e f:(Int×Int)×D),rs[i]?=some e->rs[i+1]?=some f->zp3 f.1 e.1=false)/\∀e∈rs,0<=e.1.1/\0<=e.1.2
noncomputable def d00:D:= .tup [.tup [.int 0, .int 0], .non]
theorem zmC(s:Same H H')(h:H' a=none):H a=none:=by
 cases e:H a with
 |none=>rfl
 |some o=>rw[s _ _ e] at h;cases h
theorem zup{a b:Int}(ha:0<=a)(hb:0<=b):zp3 (a,b) (0,0)=false:=by
 show(if a=0 then(if b=0 then false else decide (b<0))else decide (a<0))=false
 split
 ·split
  ·rfl
  ·exact G0 ()
 ·exact G0 ()
noncomputable def zkP:Sp:=λvs H Q _=>∃(ph l:Addr) (hs:List Str) (as:List Addr) (wss:List (List Str)) (rs:List ((Int×Int)×D)),vs=[.ref ph, .ref l]/\H ph=some (.tup (hs.map V.str))/\H l=some (.lst (as.map V.ref))/\Pts H as wss/\zrR hs wss rs/\wss.length<=90000/\∀p us H',H' p=some (.lst us)->RepL H' us (rs.map zqG)->Same H H'->Q (.ref p) H'
theorem zlt(Y:Ev K mg):FnOk P w K mg base CX0 7 Y.a_rows_in Y.d_rows_in zeL zkP:=by
 have G_row_in:FnOk P w K mg base CX0 6 Y.a_row_in Y.d_row_in zfx zoZ:=zn0 Y
 refine Y.rows_in.fn.okQ zde (λvs H Q E h=>?_) `X2
 ·obtain ⟨ph,l,hs,as,wss,rs,rfl,_⟩:=h;rfl
 ·obtain ⟨ph,l,hs,as,wss,rs,rfl,hph,hl,pts,⟨rl,rw1,rs1,rp⟩,l9,q⟩:=h
  refine⟨_,(zh (zL 2 zde.nd (zbb (za (zaf (za (zaf (za ze (za ze zb))) (za za9 zb))) zb)))
   (zh (zcz U2 rfl (zqc Y.enumerate (za (qv 1) zb)) (zdi 2 rfl (zu (zl 3 zde.nd) (zu (zl 4 zde.nd) zaA))) (zh (zL 5 zde.nd (zf G_row_in `n3 Y.row_in.mg Y.row_in.kp Y.row_in.b .nil zi (za (qv 0) (za (qv 4) zb))))
   (zh (zar (t_w (zdu (zM zed (qv 5) za9) (zdc (zM (zr9 hr.units0) (zN zR (qv 5) ze) (zN zR (zN zA (qv 2) (zpG zhO ze)) ze))))) (zj zfs) zS)
   (zj (zdY (zdm F.plainAttrs_list F.slot_list_append F.type_list_append zau (qv 2) (za (qv 5) zb)))))))
   (zj (zw (zfd zaN (qv 2) (za2 ze) zbM))))),?_⟩
  refine⟨few rfl,λu0 hu0=>⟨few rfl,λu1 hu1=>⟨few rfl,λf hf=>?_⟩⟩⟩
  have S1:=Same.new (o:= .tup [V.int 0,V.int 0]) hu0
  have S2:=Same.new (o:= .tup [V.ref u0,V.non]) hu1
  have S3:=Same.new (o:= .lst [V.ref u1]) hf
  have S13:=(S1.trans S2).trans S3
  have f0:H f=none:=zmC S1 (zmC S2 hf)
  have r0:Rep (upd (upd (upd H u0 (.tup [V.int 0,V.int 0])) u1 (.tup [V.ref u0,V.non])) f (.lst [V.ref u1])) (.ref u1) d00:=
   (Rep.mk2 (upd_same) (Rep.mk2 (S2 _ _ upd_same) (.int 0) (.int 0)) .non).same S3
  have hf1:(upd (upd (upd H u0 (.tup [V.int 0,V.int 0])) u1 (.tup [V.ref u0,V.non])) f (.lst [V.ref u1])) f=some (.lst [V.ref u1]):=upd_same
  generalize (upd (upd (upd H u0 (HO.tup [V.int 0,V.int 0])) u1 (HO.tup [V.ref u0,V.non])) f (HO.lst [V.ref u1]))=H1 at *
  refine⟨_,rfl,l,_,rfl,SqL.of (S13 _ _ hl),?_⟩
  have al:(as.map V.ref).length=wss.length:=by rw[B0];exact pts.1
  rw[al]
  refine zgW (n:=wss.length) (λi σ' H'=>(∃o1 o2 o3,σ'=[some (.ref ph),some (.ref l),some (.ref f),o1,o2,o3])/\Same H H'/\∃us,H' f=some (.lst us)/\RepL H' us (d00::(rs.take i).map zqG)) ⟨⟨_,_,_,rfl⟩,S13,_,hf1, .cons r0 .nil⟩ ?_ ?_ ?_ ?_
  ·rintro i σ' H' hi ⟨_,s',_⟩
   exact⟨_,(as.map V.ref)[i]'(by rw[al];exact hi),SqL.of (s' _ _ hl),al,`Z2⟩
  ·rintro σ' H' ⟨_,s',_⟩
   exact⟨_,SqL.of (s' _ _ hl),al,K0 _⟩
  ·rintro i x σ' H4 H4' hi ⟨⟨o1,o2,o3,rfl⟩,s4,us,hf4,rl4⟩ ⟨T,y,rfl,hT,hy,rfl⟩
   have hy:=hy _ (SqL.of (s4 _ _ hl))
   rw[W0] at hy
   cases ea:as[i]? with
   |none=>rw[ea] at hy;cases hy
   |some ai=>
    rw[ea] at hy
    cases hy
    have ew:wss[i]?=some wss[i]:=l0 hi
    have hri:i<rs.length:=by rw[←rl];exact hi
    have er:rs[i]?=some rs[i]:=l0 hri
    have RW1:=rw1 i _ _ ew er
    have hai:=pts.2 i ai _ ea ew
    generalize wss[i]=ws at *
    have ST:=Same.new (o:= .tup [V.int ((3+i:Nat):Int),V.ref ai]) hT
    refine⟨T,_,rfl, .inl (.inl upd_same),rfl,_,_,rfl,_,_,rfl,rfl,?_⟩
    refine⟨_,rfl,_,rfl,ph,ai,hs,ws,rs[i].1,rs[i].2,rfl,ST _ _ (s4 _ _ hph),ST _ _ (s4 _ _ hai),RW1,λv H5 rv s5=>?_⟩
    obtain⟨pv,vk,vd,rfl,hpv,rk,rd⟩:=Rep.of2 (show Rep H5 v (.tup [.tup [.int rs[i].1.1, .int rs[i].1.2],rs[i].2])from rv)
    obtain⟨pk,ka,kb,rfl,hpk,ra,rb⟩:=rk.of2
    cases ra
    cases rb
    have S45:=ST.trans s5
    have hf5:=S45 _ _ hf4
    have rl5:=rl4.mono (.of S45)
    have une:us≠ []:=λz=>by have:=rl4.1;rw[z] at this;cases this
    obtain⟨zs,z,rfl⟩:∃zs z,us=zs ++ [z]:=⟨us.dropLast,us.getLast une,(List.dropLast_concat_getLast une).symm⟩
    have lz:zs.length=i:=by
     have:=rl4.1
     rw[O0,Z0 (a:=d00),B0,K1,List.length_singleton] at this
     lia
    obtain⟨dz,hdz,rz⟩:=rl5.get (i:=i) (v:=z) (by rw[←lz];simp)
    have key:∃k' p' e',dz= .tup [.tup [.int k', .int p'],e']/\zp3 rs[i].1 (k',p')=false:=by
     cases i with
     |zero=>
      cases hdz
      exact⟨0,0, .non,rfl,zup (rp _ (L0 er)).1 (rp _ (L0 er)).2⟩
     |succ j=>
      have hj:j<rs.length:=()
      have ej:rs[j]?=some rs[j]:=l0 hj
      rw[List.getElem?_cons_succ,W0,List.getElem?_take,p0 (),ej] at hdz
      cases hdz
      exact⟨_,_,_,rfl,rs1 j _ _ ej er⟩
    obtain⟨k',p',e',rfl,hlex⟩:=key
    obtain⟨pz,zk,zd,rfl,hpz,rzk,_⟩:=rz.of2
    obtain⟨pk',ka',kb',rfl,hpk',ra',rb'⟩:=rzk.of2
    cases ra'
    cases rb'
    refine⟨_,rfl,rfl,_,rfl,zas (G0 λz=>nomatch z) ?_⟩
    refine⟨_,rfl,pv,_,0, .ref pk,rfl,rfl, .inl (.inl hpv),at0,_,rfl,_,rfl,f,_,_, .ref pz,rfl,rfl,SqL.of hf5,zlf _ _,pz,_,0, .ref pk',rfl,rfl, .inl (.inl hpz),at0,pk,pk',[rs[i].1.1,rs[i].1.2],[k',p'],rfl,rfl, .inl (.inl hpk), .inl (.inl hpk'),_,rfl,zas hlex ?_⟩
    have m6:=Mono.lset (ys:=(zs ++ [V.ref pz])++ [V.ref pv]) hf5
    refine⟨_,rfl, .inl ⟨rfl,_,SqL.of hf5⟩,_,rfl,f,_,_,rfl,rfl,hf5,zeM (by rw[O0,List.length_singleton];lia),⟨_,_,_,rfl⟩,zag (s4.trans S45) f0,_,upd_same,?_⟩
    rw[N1,er,U0]
    exact(rl5.mono m6).append (.cons (rv.mono m6) .nil)
  ·rintro σ' H4 ⟨⟨o1,o2,o3,rfl⟩,s4,us,hf4,rl4⟩
   dsimp only[zcl]
   refine⟨_,rfl,_,rfl,f,us,rfl,SqL.of hf4,λp hp=>?_⟩
   have S5:=Same.new (o:= .lst (za0 us (some 1) none)) hp
   rw[rl,B2] at rl4
   refine q p (us.drop 1) _ (by rw[upd_same,zlm]) ((rl4.drop 1).mono (.of S5)) (s4.trans S5)
theorem zgY{a b:Int}(h:H p=some (.tup [.int a, .int b])):Tr H (.ref p) (.tuple [.int a, .int b]):=by
 refine .tup h rfl λi v d h1 h2=>?_
 match i,h1,h2 with
 |0,h1,h2=>cases h1;cases h2;exact .int a
 |1,h1,h2=>cases h1;cases h2;exact .int b
theorem zle{a b c d:Int}:(PyData.tuple [.int a, .int b]).eqv (.tuple [.int c, .int d])=decide ((a,b)=(c,d)):=by
 rw[Bool.eq_iff_iff]
 simp[PyData.eqv,PyData.eqvAll]
theorem zkL{d:PyData}{a b:Int}:min d.depth (PyData.tuple [.int a, .int b]).depth<=60:=F1 (Nat.min_le_right _ _) (by simp[PyData.depth,PyData.depthAll])
noncomputable def zV(rs:List ((Int×Int)×D))(k j:Int):List D:=(rs.filter λe=>decide (e.1=(k,j))).map (·.2)
theorem zeH{e:(Int×Int)×D}{k j:Int}:zV (rs ++ [e]) k j=zV rs k j ++if e.1=(k,j)then [e.2] else []:=by
 unfold zV
 rw[List.filter_append,U0]
 by_cases h:e.1=(k,j)
 ·rw[p0 h,List.filter_cons_of_pos (by exact D0 h)];rfl
 ·rw[V0 h,List.filter_cons_of_neg (by rw[G0 h];exact Y0)];rfl
theorem zkc{k j:Int}(r:RepL H zs (zV rs k j))(h:rs.length<=90000):zs.length<100000:=by
 have h1:=r.1
 have h2:(zV rs k j).length<=rs.length:=by unfold zV;rw[B0];exact List.length_filter_le _ _
 lia
noncomputable def ziG:Sp:=λvs H Q _=>∃(l ph:Addr) (k:Int) (hs:List Str) (us:List V) (rs:List ((Int×Int)×D)) (ds:List D),vs=[.ref l, .int k, .ref ph]/\H l=some (.lst us)/\H ph=some (.tup (hs.map V.str))/\RepL H us (rs.map zqG)/\hs.length<=10/\rs.length<=90000/\
 ds.length=hs.length/\(∀(j:Nat) (d:D),ds[j]?=some d->d= .tup (zV rs k j)/\(zV rs k j).length<=90)/\∀v H',Rep H' v (.tup ds)->Same H H'->Q v H'
theorem zla(Y:Ev K mg):FnOk P w K mg base CX0 1 Y.a_rules_in Y.d_rules_in zdB ziG:=by
 refine Y.rules_in.fn.okQ zlB (λvs H Q E h=>?_) `X2
 ·obtain ⟨l,ph,k,hs,us,rs,ds,rfl,_⟩:=h;rfl
 ·obtain ⟨l,ph,k,hs,us,rs,ds,rfl,hl,hph,rl,h10,l9,dl,hds,q⟩:=h
  refine⟨_,(zj (zw (zG zC Y.tuple zX (za (zqd (src:=[none,some 1,some 0]) zfl rfl rfl (zdF Y.range (za (zp zH Y.len zaC (za (qv 2) zb)) zb)) (λ_ _ _ _ _=>(zmZ 0 zfl.nd)) (λ_ _ _ _ _=>zaJ) (λ_ _ _ _ _=>(zG (zhN (K:=K) rfl) Y.tuple zX (za (zaB (src:=[none,none,some 1,some 0]) zdo rfl rfl ((zqu (K:=K) rfl) (qc 2)) (λ_ _ _ _ _=>(zd3 (K:=K) 2 rfl rfl (zu (zl 0 zdo.nd) (zu (zl 1 zdo.nd) zaA)))) (λ_ _ _ _ _=>(zrw (zM (zpL (zn2 hr)) (qv 0) (zaf (za (qc 2) (za (qc 3) zb)))))) (λ_ _ _ _ _=>(qv 1))) zb)))) zb)))),?_⟩
  refine⟨_,rfl, .inl ⟨ph,_,rfl, .inr (.inl (.inl hph)),?_⟩⟩
  rw[B0]
  refine⟨_,rfl,(),(),?_⟩
  refine zaD zc9 (λl2 i ys σ' H'=>(∃o,σ'=[o,some (.int k),some (.ref l)])/\RepL H' ys (ds.take i)/\Same H H') (λl2 h=>⟨⟨_,rfl⟩, .nil,Same.new h⟩) (λ_ _ _ _ _ _ _=>trivial) ?_ ?_
  ·rintro l2 i y ys σ' H' hl2 hi rfl ⟨⟨o,rfl⟩,rl2,s'⟩ hl2'
   rw[Q2] at hi
   have hdi:i<ds.length:=by rw[dl];exact hi
   have ed:ds[i]?=some ds[i]:=l0 hdi
   obtain⟨e1,e2⟩:=hds i _ ed
   refine⟨_,rfl,l,rfl,⟨_,SqL.of (s' _ _ hl)⟩,?_⟩
   refine zaD zeA (λl3 m zs σ2 H2=>(∃o1 o2,σ2=[o1,o2,some (.int k),some (.int (0+(i:Int)))])/\RepL H2 zs (zV (rs.take m) k i)/\Same H' H2) (λl3 h=>⟨⟨_,_,rfl⟩, .nil,Same.new h⟩) (λ_ _ _ _ _ _ z=>SqL.of (z.2.2 _ _ (s' _ _ hl))) ?_ ?_
   ·rintro l3 m y zs σ2 H2 hl3 hm hy ⟨⟨o1,o2,rfl⟩,rz,s2⟩ hl3'
    obtain⟨d,hd,rd⟩:=rl.get hy
    rw[W0] at hd
    cases er:rs[m]? with
    |none=>rw[er] at hd;cases hd
    |some e=>
     rw[er] at hd
     cases hd
     obtain⟨p,va,vr,rfl,hp,ra,rr⟩:=Rep.of2 (show Rep H y (.tup [.tup [.int e.1.1, .int e.1.2],e.2])from rd)
     obtain⟨pa,va,vb,rfl,hpa,rva,rvb⟩:=ra.of2
     cases rva
     cases rvb
     have S2:=s'.trans s2
     refine⟨p,_,rfl, .inl (.inl (S2 _ _ hp)),rfl,_,_,rfl,_,_,rfl,rfl,?_⟩
     refine⟨_,rfl,_,rfl,_,rfl,few rfl,λa ha=>?_⟩
     have S3:=Same.new (o:= .tup [V.int k,V.int (0+(i:Int))]) ha
     refine⟨_,_,zgY (S3 _ _ (S2 _ _ hpa)),zgY upd_same,zkL,_,rfl,?_⟩
     rw[zle,Int.zero_add]
     rw[Int.zero_add] at S3
     have tk:rs.take (m+1)=rs.take m ++ [e]:=by rw[N1,er];rfl
     refine zak (λhe=>?_) (λhe=>?_)
     ·have he:e.1=(k,(i:Int)):=B1 he
      have hl4:=S3 _ _ hl3'
      have m5:=Mono.lset (ys:=zs ++ [vr]) hl4
      refine⟨_,rfl,hl4,zeM (zkc rz (by rw[K1];lia)),⟨_,_,rfl⟩,?_,zag (s2.trans S3) hl3⟩
      rw[tk,zeH,p0 he]
      exact(rz.mono ((Mono.of S3).trans m5)).append (.cons ((rr.same (S2.trans S3)).mono m5) .nil)
     ·have he:¬e.1=(k,(i:Int)):=λz=>he (D0 z)
      refine⟨S3 _ _ hl3',⟨_,_,rfl⟩,?_,s2.trans S3⟩
      rw[tk,zeH,V0 he,O1]
      exact rz.mono (.of S3)
   ·rintro l3 zs σ2 H3 hl3 ⟨⟨o1,o2,rfl⟩,rz,s3⟩ hl3'
    have el:us.length=rs.length:=by rw[rl.1,B0]
    rw[el,B2] at rz
    refine⟨l3,_,rfl, .inl ⟨SqL.of hl3',λt ht=>?_⟩⟩
    have S4:=Same.new (o:= .tup zs) ht
    have hl5:=S4 _ _ (s3 _ _ hl2')
    have m5:=Mono.lset (ys:=ys ++ [V.ref t]) hl5
    refine⟨hl5,zeM (by rw[rl2.1,K1];lia),⟨_,rfl⟩,?_,zag (s'.trans (s3.trans S4)) hl2⟩
    rw[N1,ed]
    refine(rl2.mono ((Mono.of (s3.trans S4)).trans m5)).append (.cons ?_ .nil)
    rw[e1]
    exact(Rep.mkL upd_same () (rz.mono (.of S4))).mono m5
  ·rintro l2 ys σ' H3 hl2 ⟨⟨o,rfl⟩,rl2,s3⟩ hl2'
   rw[Q2,List.take_of_length_le ()] at rl2
   refine⟨l2,_,rfl, .inl ⟨SqL.of hl2',λt ht=>?_⟩⟩
   have S4:=Same.new (o:= .tup ys) ht
   exact q _ _ (.mkL upd_same () (rl2.mono (.of S4))) (s3.trans S4)
noncomputable def zlZ(w h:Str)(tw:D->List Str):D->List Str
 | .tup [.tup cs,x]=>zcd w h (tw x) cs
 |_=> []
noncomputable def zfF(w:Str)(tw:D->List Str):List Str->List D->List (List Str)
 |h::hs, .tup rs::ds=>rs.map (zlZ w h tw)++zfF w tw hs ds
 |_::hs,_::ds=>zfF w tw hs ds
 |_,_=> []
noncomputable def zcM(k:Int):Nat->List D->List ((Int×Int)×D)
 |_,[]=> []
 |j, .tup rs::ds=>rs.map (λr=>((k,(j:Int)),r))++zcM k (j+1) ds
 |j,_::ds=>zcM k (j+1) ds
noncomputable def zgm(hs:List Str)(ps:List (Str×Str))(lks hds:List D):List (List Str):=ps.map (λp=> [("tie":Str),p.1,p.2])++(zfF "like" zfY hs lks ++zfF "hand" zjP hs hds)
noncomputable def zat(ps:List (Str×Str))(lks hds:List D):List ((Int×Int)×D):=ps.map (λp=>((0,0),pairD p))++(zcM 1 0 lks ++zcM 2 0 hds)
inductive Al{α β:Type}(R:α->β->Prop):List α->List β->Prop
 |nil:Al R [] []
 |cons {a:α} {b:β} {as:List α} {bs:List β} (h:R a b) (r:Al R as bs):Al R (a::as) (b::bs)
theorem Al.app{R:α->β->Prop}{as cs:List α}{bs ds:List β}(h:Al R as bs)(k:Al R cs ds):Al R (as ++cs) (bs ++ds):=by
 induction h with
 |nil=>exact k
 |cons h _ ih=>exact .cons h ih
theorem Al.len{R:α->β->Prop}{as:List α}{bs:List β}(h:Al R as bs):as.length=bs.length:=by
 induction h with
 |nil=>rfl
 |cons _ _ ih=>rw[Z0,Z0,ih]
theorem Al.get{R:α->β->Prop}{as:List α}{bs:List β}(h:Al R as bs):∀(i:Nat) (a:α) (b:β),as[i]?=some a->bs[i]?=some b->R a b:=by
 induction h with
 |nil=>intro i a b e;simp at e
 |cons h _ ih=>
  intro i a b e1 e2
  cases i with
  |zero=>cases e1;cases e2;exact h
  |succ i=>exact ih i a b (by simpa using e1) (by simpa using e2)
theorem Al.maps{R:α->β->Prop}{f:γ->α}{g:γ->β}:∀{xs:List γ},(∀x∈xs,R (f x) (g x))->Al R (xs.map f) (xs.map g)
 |[],_=> .nil
 |x::xs,h=> .cons (h x Q0) (Al.maps λy hy=>h y (N0 _ hy))
def zek(pr:D->Bool)(ds:List D):Prop:=∀d∈ds,zgJ pr d
theorem zjL{hs:List Str}{w:Str}{tw:D->List Str}{k:Int}{pr:D->Bool}(nd:hs.Nodup)(hn:∀x∈hs,zm x=true)(hk:∀x,pr x=true->RuleK w (tw x) x)(ek:k=if w="like"then 1 else 2):
 ∀(hs':List Str) (ds:List D) (pre:List Str),hs=pre ++hs'->ds.length=hs'.length->zek pr ds->Al (λws e=>zqA hs ws e.1 e.2) (zfF w tw hs' ds) (zcM k pre.length ds)
 |[],[],_,_,_,_=> .nil
 |[],_::_,_,_,e,_=>by cases e
 |_::_,[],_,_,e,_=>by cases e
 |h::hs',d::ds,pre,eh,el,ok=>by
  obtain⟨rs,rfl,_,hr⟩:=ok d Q0
  have ih:=zjL nd hn hk ek hs' ds (pre ++ [h]) (by rw[eh,V1];rfl) (by simpa using el) λx hx=>ok x (N0 _ hx)
  rw[O0,List.length_singleton] at ih
  refine Al.app (Al.maps λr hrm=>?_) ih
  obtain⟨cs,x,rfl,h4,hc,hx⟩:=hr r hrm
  have hmem:h∈hs:=by rw[eh];exact S0 _ Q0
  refine .inr ⟨w,h,tw x,cs,x,pre.length,rfl,hk x hx,hn h hmem,h4,hc,?_,λi hi=>?_,by rw[ek],rfl⟩
  ·rw[eh,E2 (K0 _),Nat.sub_self];rfl
  ·rw[eh,K2 hi]
   intro z
   rw[eh] at nd
   exact(List.nodup_append.mp nd).2.2 h (L0 z) h Q0 rfl
theorem zaR{k:Int}:∀{ds:List D} {j:Nat},∀e∈zcM k j ds,e.1.1=k/\(j:Int)<=e.1.2
 |[],_,e,h=>by cases h
 |d::ds,j,e,h=>by
  have ih:∀e∈zcM k (j+1) ds,e.1.1=k/\(j:Int)<=e.1.2:=λe he=>by
   have:=zaR e he
   exact⟨this.1,()⟩
  cases d with
  |tup rs=>
   rcases G1.mp h with h|h
   ·obtain ⟨r,_,rfl⟩:=T1.mp h
    exact⟨rfl,Int.le_refl _⟩
   ·exact ih e h
  |_=>exact ih e h
def LeK(e f:(Int×Int)×D):Prop:=zp3 f.1 e.1=false
theorem zji{e f:(Int×Int)×D}(h:e.1.1<f.1.1\/(e.1.1=f.1.1/\e.1.2<=f.1.2)):LeK e f:=by
 show(if f.1.1=e.1.1 then(if f.1.2=e.1.2 then false else decide (f.1.2<e.1.2))else decide (f.1.1<e.1.1))=false
 split
 ·split
  ·rfl
  ·exact G0 ()
 ·exact G0 ()
theorem zgd{α:Type}{key:Int×Int}{f:α->D}:∀{xs:List α},(xs.map λx=>(key,f x)).Pairwise LeK
 |[]=> .nil
 |x::xs=>List.pairwise_cons.mpr ⟨λy hy=>by
   obtain⟨z,_,rfl⟩:=T1.mp hy
   exact zji (.inr ⟨rfl,Int.le_refl _⟩),zgd⟩
theorem zds{k:Int}:∀{ds:List D} {j:Nat},(zcM k j ds).Pairwise LeK
 |[],_=> .nil
 |d::ds,j=>by
  cases d with
  |tup rs=>
   refine List.pairwise_append.mpr ⟨zgd (f:=λr=>r),zds,λe he f hf=>?_⟩
   obtain⟨r,_,rfl⟩:=T1.mp he
   have:=zaR f hf
   exact zji (.inr ⟨this.1.symm,by show(j:Int)<=f.1.2;lia⟩)
  |_=>exact zds (j:=j+1)
theorem zm4(h:rs.Pairwise LeK):∀(i:Nat) (e f:(Int×Int)×D),rs[i]?=some e->rs[i+1]?=some f->zp3 f.1 e.1=false:=λi e f h1 h2=>by
 obtain⟨l1,rfl⟩:=List.getElem?_eq_some_iff.mp h1
 obtain⟨l2,rfl⟩:=List.getElem?_eq_some_iff.mp h2
 exact List.pairwise_iff_getElem.mp h i (i+1) l1 l2 (Nat.lt_succ_self i)
theorem zcv{xs ys:List ((Int×Int)×D)}{k j:Int}:zV (xs ++ys) k j=zV xs k j ++zV ys k j:=by
 unfold zV;rw[List.filter_append,U0]
theorem zex{xs:List ((Int×Int)×D)}{k j:Int}(h:∀e∈xs,e.1≠(k,j)):zV xs k j=[]:=by
 unfold zV
 rw[List.filter_eq_nil_iff.mpr λe he=>by rw[G0 (h e he)];exact Y0];rfl
theorem zhn{α:Type}{f:α->D}{k j:Int}:∀{xs:List α},zV (xs.map λx=>((k,j),f x)) k j=xs.map f
 |[]=>rfl
 |x::xs=>by
  have ih:=zhn (f:=f) (k:=k) (j:=j) (xs:=xs)
  unfold zV at ih⊢
  rw[J1,List.filter_cons_of_pos (by exact D0 rfl),J1,ih];rfl
theorem zgh{k:Int}:∀{ds:List D} {j i:Nat} {rs:List D},(∀d∈ds,∃r,d= .tup r)->ds[i]?=some (.tup rs)->zV (zcM k j ds) k ((j+i:Nat):Int)=rs
 |[],_,_,_,_,e=>by simp at e
 |d::ds,j,i,rs,h,e=>by
  obtain⟨r,rfl⟩:=h d Q0
  show zV (r.map (λr=>((k,(j:Int)),r))++zcM k (j+1) ds) k _=rs
  rw[zcv]
  cases i with
  |zero=>
   cases e
   rw[zex (xs:=zcM k (j+1) ds) λf hf z=>by have:=zaR f hf;rw[z] at this;have:=this.2;simp at this;lia,O1]
   exact(zhn (f:=λr=>r)).trans (List.map_id' _)
  |succ i=>
   rw[zex (xs:=r.map _) λf hf z=>by
    obtain⟨y,_,rfl⟩:=T1.mp hf
    have:=congrArg Prod.snd z
    have:(j:Int)=((j+(i+1):Nat):Int):=this
    lia,List.nil_append]
   have:=zgh (k:=k) (j:=j+1) (i:=i) (rs:=rs) (λd hd=>h d (N0 _ hd)) (by simpa using e)
   rw[show j+1+i=j+(i+1) by lia] at this
   exact this
theorem zgb{w:Str}{f:D->Str}{tw:D->List Str}{pr:D->Bool}(hj:∀x,pr x=true->tw x≠ []/\Str.join " " (tw x)=f x):∀(hs:List Str) (ds:List D),zek pr ds->(zfF w tw hs ds).map (Str.join " ")=zhR w f hs ds
 |[],[],_=>rfl
 |[],_::_,_=>rfl
 |_::_,[],_=>rfl
 |h::hs,d::ds,ok=>by
  obtain⟨rs,rfl,_,hr⟩:=ok d Q0
  have ih:=zgb (w:=w) hj hs ds λx hx=>ok x (N0 _ hx)
  show((rs.map (zlZ w h tw)++zfF w tw hs ds).map (Str.join " "))=_
  unfold zhR at ih⊢
  rw[List.zip_cons_cons,List.flatMap_cons,←ih,U0,List.map_map]
  congr 1
  show _=rs.map (zec w f h)
  refine List.map_congr_left λr hrm=>?_
  obtain⟨cs,x,rfl,_,hc,hx⟩:=hr r hrm
  obtain⟨j1,j2⟩:=hj x hx
  show Str.join " " (zcd w h (tw x) cs)=zbm w h (f x) (cs.map condT)
  rw[znt j1 hc,j2]
theorem zjs{w:Str}{tw:D->List Str}{pr:D->Bool}(hw:Wd w)(ht:∀x,pr x=true->∀y∈tw x,Wd y):∀(hs:List Str) (ds:List D),(∀x∈hs,zm x=true)->zek pr ds->∀ws∈zfF w tw hs ds,ws≠ []/\∀x∈ws,Wd x
 |[],[],_,_,ws,h=>by cases h
 |[],_::_,_,_,ws,h=>by cases h
 |_::_,[],_,_,ws,h=>by cases h
 |h::hs,d::ds,hn,ok,ws,hws=>by
  obtain⟨rs,rfl,_,hr⟩:=ok d Q0
  rcases G1.mp (show ws∈rs.map (zlZ w h tw)++zfF w tw hs ds from hws)with hws|hws
  ·obtain ⟨r,hrm,rfl⟩:=T1.mp hws
   obtain⟨cs,x,rfl,_,hc,hx⟩:=hr r hrm
   exact⟨List.cons_ne_nil _ _,zra hw (.name (hn h Q0)) (ht x hx) hc⟩
  ·exact zjs hw ht hs ds (λx hx=>hn x (N0 _ hx)) (λx hx=>ok x (N0 _ hx)) ws hws
theorem zf5{k:Int}{pr:D->Bool}:∀{ds:List D} {j:Nat},zek pr ds->(zcM k j ds).length<=90*ds.length
 |[],_,_=>K0 _
 |d::ds,j,ok=>by
  obtain⟨rs,rfl,l9,_⟩:=ok d Q0
  have ih:=zf5 (k:=k) (ds:=ds) (j:=j+1) λx hx=>ok x (N0 _ hx)
  show(rs.map _ ++zcM k (j+1) ds).length<=_
  rw[O0,B0,Z0];lia
theorem zow{x:D}(h:zT x=true):∀y∈zfY x,Wd y:=λy hy=>by
 rw[E1.mp hy]
 rcases zaK h with rfl|⟨i,rfl,i0,i9⟩
 ·exact .of `Y2
 ·exact .num i0 i9
theorem zsk{x:D}(h:zZ x=true):∀y∈zjP x,Wd y:=λy hy=>by
 rcases zhC h with rfl|⟨v,z,rfl,hv,hz⟩
 ·rw[E1.mp (show y∈ [("keep":Str)] from hy)];exact .of `Y2
 ·have hy:y∈ [v,z]:=hy
  simp only[I0,U1,or_false] at hy
  rcases hy with rfl|rfl
  ·rcases hv with rfl|rfl<;>exact .of `Y2
  ·exact .name hz
theorem zpW{x:D}(h:zZ x=true):zjP x≠ []/\Str.join " " (zjP x)=zbw x:=by
 rcases zhC h with rfl|⟨v,z,rfl,hv,hz⟩<;>exact ⟨List.cons_ne_nil _ _,rfl⟩
section
variable{g:Str}
noncomputable def zfv(g:Str)(hs:List Str)(ps:List (Str×Str))(lks hds:List D):List (List Str):=[("goal":Str),g]::(("houses":Str)::hs)::zgm hs ps lks hds
theorem zp2(p:Str×Str):Str.join " " [("tie":Str),p.1,p.2]=zcw p:=by
 show("tie"++" "++(p.1 ++" "++p.2):Str)="tie "++p.1 ++" "++p.2
 have e:("tie"++" ":Str)="tie ":=`Y2
 rw[e];simp only[zbn]
theorem zdA(T:TownOk g hs ps lks hds):zek zT lks:=λd hd=>zeE (T.likes d hd)
theorem zdH(T:TownOk g hs ps lks hds):zek zZ hds:=λd hd=>zey (T.hands d hd)
theorem zul(T:TownOk g hs ps lks hds):hs≠ []:=λz=>by have:=T.one;rw[z] at this;exact absurd this ⋯
theorem zeJ(T:TownOk g hs ps lks hds):(zfv g hs ps lks hds).map (Str.join " ")=zac g hs ps lks hds:=by
 unfold zfv zgm zac
 rw[J1,J1,U0,U0,zgb (f:=zF) (tw:=zfY) (pr:=zT) (λx _=>⟨List.cons_ne_nil _ _,rfl⟩) _ _ (zdA T),zgb (f:=zbw) (tw:=zjP) (pr:=zZ) (λx h=>zpW h) _ _ (zdH T),zhK (zul T),List.map_map]
 have e1:Str.join " " [("goal":Str),g]="goal "++g:=by
  show("goal"++" "++g:Str)=_
  have e:("goal"++" ":Str)="goal ":=`Y2
  rw[e]
 have e2:ps.map (Str.join " "∘λp=> [("tie":Str),p.1,p.2])=ps.map zcw:=List.map_congr_left λp _=>zp2 p
 rw[e1,e2]
 simp only[V1,List.cons_append,List.nil_append]
theorem zsB(T:TownOk g hs ps lks hds):∀ws∈zfv g hs ps lks hds,ws≠ []/\∀x∈ws,Wd x:=λws h=>by
 have nm:=λx hx=>Wd.name (T.names x hx)
 rcases I0.mp h with rfl|h
 ·refine ⟨List.cons_ne_nil _ _,λx hx=>?_⟩
  simp only[I0,U1,or_false] at hx
  rcases hx with rfl|rfl
  ·exact .of `Y2
  ·exact nm _ T.goal
 rcases I0.mp h with rfl|h
 ·refine ⟨List.cons_ne_nil _ _,λx hx=>?_⟩
  rcases I0.mp hx with rfl|hx
  ·exact .of `Y2
  ·exact nm x hx
 rcases G1.mp h with h|h
 ·obtain ⟨p,hp,rfl⟩:=T1.mp h
  obtain⟨t1,t2,_⟩:=T.ties p hp
  refine⟨List.cons_ne_nil _ _,λx hx=>?_⟩
  simp only[I0,U1,or_false] at hx
  rcases hx with rfl|rfl|rfl
  ·exact .of `Y2
  ·exact nm _ t1
  ·exact nm _ t2
 rcases G1.mp h with h|h
 ·exact zjs (.of `Y2) (λx hx=>zow hx) _ _ T.names (zdA T) ws h
 ·exact zjs (.of `Y2) (λx hx=>zsk hx) _ _ T.names (zdH T) ws h
theorem zfj(T:TownOk g hs ps lks hds):zrR hs (zgm hs ps lks hds) (zat ps lks hds):=by
 have nd:=T.hs_nd
 have al:Al (λws e=>zqA hs ws e.1 e.2) (zgm hs ps lks hds) (zat ps lks hds):=by
  refine Al.app (Al.maps λp hp=>?_) (Al.app (zjL nd T.names (λx hx=> .inl ⟨rfl,rfl,hx⟩) (by rw[p0 rfl]) hs lks [] rfl T.ll (zdA T)) (zjL nd T.names (λx hx=> .inr ⟨rfl,rfl,hx⟩) (by rw[V0 `Y2]) hs hds [] rfl T.lh (zdH T)))
  obtain⟨t1,t2,_⟩:=T.ties p hp
  exact .inl ⟨p.1,p.2,rfl,T.names _ t1,T.names _ t2,rfl,rfl⟩
 refine⟨al.len,al.get,zm4 ?_,λe he=>?_⟩
 ·refine List.pairwise_append.mpr ⟨zgd,List.pairwise_append.mpr ⟨zds,zds,λe he f hf=>?_⟩,λe he f hf=>?_⟩
  ·exact zji (.inl (by rw[(zaR e he).1,(zaR f hf).1];decide))
  ·obtain ⟨p,_,rfl⟩:=T1.mp he
   refine zji (.inl ?_)
   show(0:Int)<f.1.1
   rcases G1.mp hf with hf|hf
   ·rw[(zaR f hf).1];decide
   ·rw[(zaR f hf).1];decide
 ·rcases G1.mp he with he|he
  ·obtain ⟨p,_,rfl⟩:=T1.mp he
   exact⟨Int.le_refl _,Int.le_refl _⟩
  rcases G1.mp he with he|he
  ·have:=zaR e he;exact⟨by rw[this.1];decide,by have:=this.2;lia⟩
  ·have:=zaR e he;exact⟨by rw[this.1];decide,by have:=this.2;lia⟩
theorem zgn(T:TownOk g hs ps lks hds)(h:ps.length<=1000):(zat ps lks hds).length<=2900:=by
 have h1:=zf5 (k:=1) (j:=0) (zdA T)
 have h2:=zf5 (k:=2) (j:=0) (zdH T)
 have:=T.ll
 have:=T.lh
 have:=T.ten
 unfold zat
 rw[O0,O0,B0];lia
theorem zis{k j:Int}(h:k≠0):zV (ps.map λp=>(((0,0):Int×Int),pairD p)) k j=[]:=zex λe he z=>by
 obtain⟨p,_,rfl⟩:=T1.mp he
 exact h (congrArg Prod.fst z).symm
theorem zez{k k' j:Int}(h:k'≠k):zV (zcM k i ds) k' j=[]:=zex λe he z=>by
 have:=(zaR e he).1
 rw[z] at this;exact h this
theorem znI:zV (zat ps lks hds) 0 0=ps.map pairD:=by
 unfold zat
 rw[zcv,zcv,zez ⋯,zez ⋯,O1,O1]
 exact zhn
theorem zfz0{pr:D->Bool}(h:zek pr ds):∀d∈ds,∃r,d= .tup r:=λd hd=>let ⟨r,e,_⟩:=h d hd;⟨r,e⟩
theorem znS(T:TownOk g hs ps lks hds)(j:Nat)(d:D)(h:lks[j]?=some d):d= .tup (zV (zat ps lks hds) 1 j)/\(zV (zat ps lks hds) 1 j).length<=90:=by
 obtain⟨rs,rfl,l9,_⟩:=zdA T d (L0 h)
 have e:=zgh (k:=1) (j:=0) (zfz0 (zdA T)) h
 rw[Nat.zero_add] at e
 have e2:zV (zat ps lks hds) 1 j=rs:=by
  unfold zat
  rw[zcv,zcv,zis ⋯,zez (k:=2) ⋯,O1,List.nil_append,e]
 rw[e2];exact⟨rfl,l9⟩
theorem znw(T:TownOk g hs ps lks hds)(j:Nat)(d:D)(h:hds[j]?=some d):d= .tup (zV (zat ps lks hds) 2 j)/\(zV (zat ps lks hds) 2 j).length<=90:=by
 obtain⟨rs,rfl,l9,_⟩:=zdH T d (L0 h)
 have e:=zgh (k:=2) (j:=0) (zfz0 (zdH T)) h
 rw[Nat.zero_add] at e
 have e2:zV (zat ps lks hds) 2 j=rs:=by
  unfold zat
  rw[zcv,zcv,zis ⋯,zez (k:=1) ⋯,List.nil_append,List.nil_append,e]
 rw[e2];exact⟨rfl,l9⟩
end
theorem znx(h:X.K=K):MtR X "str.split" zoe:=zk1
theorem Pts.same{ps:List (List Str)}(h:Pts H as ps)(s:Same H H'):Pts H' as ps:=⟨h.1,λi a p h1 h2=>s _ _ (h.2 i a p h1 h2)⟩
theorem Pts.tail{p:List Str}{ps:List (List Str)}(h:Pts H (a::as) (p::ps)):H a=Option.some (.lst (p.map V.str))/\Pts H as ps:=
 ⟨h.2 0 a p rfl rfl,by have:=h.1;simp at this;exact this,λi b q h1 h2=>h.2 (i+1) b q (by simpa using h1) (by simpa using h2)⟩
theorem zmk{x:Str}:∀{xs:List Str},x∈xs->x.length<=(xs.map (·.length)).sum
 |[],h=>by cases h
 |y::ys,h=>by
  rw[J1,List.sum_cons]
  rcases I0.mp h with rfl|h
  ·lia
  ·have:=zmk h
   lia
noncomputable def zmW:Sp:=λvs H Q _=>∃(g:Str) (hs:List Str) (ps:List (Str×Str)) (lks hds:List D),vs=[.str (Str.join "\n" (zac g hs ps lks hds))]/\TownOk g hs ps lks hds/\ps.length<=1000/\∀v H',Rep H' v (ze0 g hs ps lks hds)->Same H H'->Q v H'
theorem zjp(Y:Ev K mg):FnOk P w K mg base CX0 9 Y.a_read_town Y.d_read_town zcP zmW:=by
 have G_all_names:FnOk P w K mg base CX0 2 Y.a_all_names Y.d_all_names zbV zoK:=zfm Y
 have G_rows_in:FnOk P w K mg base CX0 7 Y.a_rows_in Y.d_rows_in zeL zkP:=zlt Y
 have G_rules_in:FnOk P w K mg base CX0 1 Y.a_rules_in Y.d_rules_in zdB ziG:=zla Y
 have G_is_town:FnOk P w K mg base CX0 8 Y.a_is_town Y.d_is_town zew (zae zer):=zlL Y
 refine Y.read_town.fn.okQ zbt (λvs H Q E h=>?_) `X2
 ·obtain ⟨g,hs,ps,lks,hds,rfl,_⟩:=h;rfl
 ·obtain ⟨g,hs,ps,lks,hds,rfl,T,p9,q⟩:=h
  refine⟨_,(zh (zar (zaW (zay (zp zaI Y.isinstance zI (za (qv 0) (za (zga Y.str zd2) zb))))) (zj zfs) zS)
   (zh (ziw 1 (src:=[none]) ze4 rfl rfl zbt.nd (zgi (zdm O2 F.slot_str_split F.type_str_split zk1 (qv 0) (za zy zb))) (λ_ _ _ _ _=>(zl 0 ze4.nd)) (λ_ _ _ _ _=>zaJ) (λ_ _ _ _ _=>(zrH (K:=K) rfl O2 F.slot_str_split F.type_str_split (znx (K:=K) rfl) (qv 0) (za zy zb))))
   (zh (zar (t_w (zdu (zM zfN (zp zH Y.len zaC (za (zN zA (qv 1) ze) zb)) ze) (zdu (zM zfN (zN zA (zN zA (qv 1) ze) ze) zy) (zdc (zaW (zay (zf G_all_names `n3 Y.all_names.mg Y.all_names.kp Y.all_names.b .nil zi (za (zfd zaN (zN zA (qv 1) ze) (za2 ze) zbM) zb)))))))) (zj zfs) zS)
   (zh (zar (t_w (zdu (zM zoE (zp zH Y.len zaC (za (qv 1) zb)) ze) (zdu (zM zoE (zp zH Y.len zaC (za (zN zA (qv 1) ze) zb)) ze) (zdu (zM zfN (zN zA (zN zA (qv 1) ze) ze) zy) (zdc (zaW (zay (zf G_all_names `n3 Y.all_names.mg Y.all_names.kp Y.all_names.b .nil zi (za (zfd zaN (zN zA (qv 1) ze) (za2 ze) zbM) zb))))))))) (zj zfs) zS)
   (zh (zoB 2 3 zbt.nd (za (zN zA (zN zA (qv 1) ze) ze) (za (zG zC Y.tuple zX (za (zfd zaN (zN zA (qv 1) ze) (za2 ze) zbM) zb)) zb)))
   (zh (zL 4 zbt.nd (zf G_rows_in `n3 Y.rows_in.mg Y.rows_in.kp Y.rows_in.b .nil zi (za (qv 3) (za (zfd zaN (qv 1) (za2 ze) zbM) zb))))
   (zh (zL 5 zbt.nd (zG zC Y.tuple zX (za (zaB (src:=[none,none]) zc5 rfl rfl (zgi (qv 4)) (λ_ _ _ _ _=>(zd3 (K:=K) 2 rfl rfl (zu (zl 0 zc5.nd) (zu (zl 1 zc5.nd) zaA)))) (λ_ _ _ _ _=>(zrw (zM (zpL (zn2 hr)) (qv 0) (zaf (za ze (za ze zb)))))) (λ_ _ _ _ _=>(qv 1))) zb)))
   (zh (zL 6 zbt.nd (zaf (za (qv 2) (za (qv 3) (za (qv 5) (za (zf G_rules_in `n3 Y.rules_in.mg Y.rules_in.kp Y.rules_in.b .nil zi (za (qv 4) (za ze (za (qv 3) zb)))) (za (zf G_rules_in `n3 Y.rules_in.mg Y.rules_in.kp Y.rules_in.b .nil zi (za (qv 4) (za ze (za (qv 3) zb)))) zb)))))))
   (zh (zar (zaW (zay (zf G_is_town `n3 Y.is_town.mg Y.is_town.kp Y.is_town.b .nil zi (za (qv 6) zb)))) (zj zfs) zS)
   (zj (zw (qv 6)))))))))))),?_⟩
  have TL:=zfV T p9
  have WD:=zsB T
  have tne:zac g hs ps lks hds≠ []:=λz=>nomatch z
  have sp:Txt.split (Str.join "\n" (zac g hs ps lks hds)) "\n"=zac g hs ps lks hds:=zpv tne λx hx=>by
   rw[←zeJ T] at hx
   obtain⟨ws,hws,rfl⟩:=T1.mp hx
   exact ziI (WD ws hws).2
  have nw:(zfv g hs ps lks hds).length<=3000:=by
   have h1:=(zfj T).1
   have h2:=zgn T p9
   show(zgm hs ps lks hds).length+1+1<=3000
   lia
  refine⟨_,rfl,_,_,_,_,rfl, .str _,rfl,_,rfl,zas rfl ?_⟩
  refine⟨_,rfl,rfl,_,_,rfl,rfl,rfl,F1 (Nat.add_le_add_right TL.2 2) (Nat.le_of_ble_eq_true rfl),λlr hlr=>?_⟩
  rw[sp]
  have S1:=Same.new (o:= .lst ((zac g hs ps lks hds).map V.str)) hlr
  have hl1:(upd H lr (.lst ((zac g hs ps lks hds).map V.str))) lr=some (.lst ((zac g hs ps lks hds).map V.str)):=upd_same
  generalize upd H lr (.lst ((zac g hs ps lks hds).map V.str))=H1 at *
  refine⟨lr,rfl,⟨_,SqL.of hl1⟩,?_⟩
  refine zaD zeA (λl i ys σ' H'=>(∃o,σ'=[o])/\Same H1 H'/\∃as,ys=as.map V.ref/\l∉as/\Pts H' as ((zfv g hs ps lks hds).take i)) (λl hl=>⟨⟨_,rfl⟩,Same.new hl,[],rfl,`Z2, .nil⟩) (λ_ _ _ _ _ _ z=>SqL.of (z.2.1 _ _ hl1)) ?_ ?_
  ·rintro l i y ys σ' H' hl2 hi hy ⟨⟨o,rfl⟩,s',as,rfl,nl,pts⟩ hl'
   rw[W0,←zeJ T,W0] at hy
   cases ew:(zfv g hs ps lks hds)[i]? with
   |none=>rw[ew] at hy;cases hy
   |some ws=>
    rw[ew] at hy
    cases hy
    have wm:=L0 ew
    obtain⟨wne,wwd⟩:=WD ws wm
    have lj:(Str.join " " ws).length<=1048576:=by
     have:Str.join " " ws∈zac g hs ps lks hds:=by rw[←zeJ T];exact List.mem_map_of_mem wm
     have:=zmk this
     have:=TL.1
     lia
    refine⟨_,rfl,rfl,_,_,rfl,rfl,rfl,F1 (Nat.add_le_add_right lj 2) (Nat.le_of_ble_eq_true rfl),λa ha=>?_⟩
    rw[zpH wne wwd]
    have S2:=Same.new (o:= .lst (ws.map V.str)) ha
    have nal:a≠l:=λz=>by rw[z,hl'] at ha;cases ha
    have al:=pts.1
    rw[K1] at al
    refine⟨S2 _ _ hl',zeM (by rw[B0];lia),⟨_,rfl⟩,zag (s'.trans S2) hl2,as ++ [a],by rw[U0];rfl,λz=>?_,?_⟩
    ·rcases G1.mp z with z|z
     ·exact nl z
     ·exact nal (E1.mp z).symm
    ·rw[N1,ew]
     refine((pts.same S2).snoc upd_same).keep λb hb=>?_
     rw[zn λz=>?_]
     subst z
     rcases G1.mp hb with hb|hb
     ·exact nl hb
     ·exact nal (E1.mp hb).symm
  rintro l ys σ' H2 hl2 ⟨⟨o,rfl⟩,s2,as,rfl,nl,pts⟩ hl'
  have el:((zac g hs ps lks hds).map V.str).length=(zfv g hs ps lks hds).length:=by rw[B0,←zeJ T,B0]
  rw[el,B2] at pts
  have S12:=S1.trans s2
  match as,pts,hl',nl with
  |[],pts,_,_=>exact absurd pts.1 (by unfold zfv;simp)
  |[_],pts,_,_=>exact absurd pts.1 (by unfold zfv;simp)
  |a0::a1::as,pts,hl',nl=>
  obtain⟨h0,pts⟩:=pts.tail
  obtain⟨h1,pts⟩:=pts.tail
  dsimp only[zb1]
  have n0:∀x:Str,(!decide (V.str x=V.str x))=false:=λx=>by rw[D0 rfl];rfl
  refine⟨_,rfl,l,_,0, .ref a0,rfl,rfl,SqL.of hl',at0, .inl ⟨a0,_,rfl, .inl (SqL.of h0),rfl,_,rfl,zas (by show(!decide (V.int (2:Int)=V.int 2))=false;rw[D0 rfl];rfl) ?_⟩⟩
  refine⟨_,rfl,l,_,0, .ref a0,rfl,rfl,SqL.of hl',at0,a0,_,0, .str "goal",rfl,rfl,SqL.of h0,at0,rfl,_,rfl,zas (n0 _) ?_⟩
  dsimp only[zcl]
  refine⟨_,rfl,l,_,0, .ref a0,rfl,rfl,SqL.of hl',at0,_,rfl,a0,_,rfl,SqL.of h0,λb hb=>⟨b,[g],rfl,by rw[upd_same,zlm];rfl,(by decide:1<=900),λx hx=>by rw[E1.mp hx];exact T.names _ T.goal,λH3 s3'=>⟨_,rfl,zas rfl ?_⟩⟩⟩
  have s3:=(Same.new hb).trans s3'
  have hl3:=s3 _ _ hl'
  have h03:=s3 _ _ h0
  have h13:=s3 _ _ h1
  have hs1:=T.one
  have hs10:=T.ten
  refine⟨_,rfl, .inl ⟨l,_,rfl, .inl (SqL.of hl3),_,_,rfl,rfl,_,rfl,zas (G0 (by rw[B0,Z0,Z0];lia)) ?_⟩⟩
  refine⟨_,rfl,l,_,1, .ref a1,rfl,rfl,SqL.of hl3,at1, .inl ⟨a1,_,rfl, .inl (SqL.of h13),_,_,rfl,rfl,_,rfl,zas (G0 (by rw[B0,Z0];lia)) ?_⟩⟩
  refine⟨_,rfl,l,_,1, .ref a1,rfl,rfl,SqL.of hl3,at1,a1,_,0, .str "houses",rfl,rfl,SqL.of h13,at0,rfl,_,rfl,zas (n0 _) ?_⟩
  dsimp only[zcl]
  refine⟨_,rfl,l,_,1, .ref a1,rfl,rfl,SqL.of hl3,at1,_,rfl,a1,_,rfl,SqL.of h13,λb hb=>⟨b,hs,rfl,by rw[upd_same,zlm];rfl,(),T.names,λH4 s4'=>⟨_,rfl,zas rfl ?_⟩⟩⟩
  have s4:=(Same.new hb).trans s4'
  have hl4:=s4 _ _ hl3
  have h04:=s4 _ _ h03
  have h14:=s4 _ _ h13
  refine⟨_,rfl,l,_,0, .ref a0,rfl,rfl,SqL.of hl4,at0,a0,_,1, .str g,rfl,rfl,SqL.of h04,at1,?_⟩
  refine⟨_,rfl,l,_,1, .ref a1,rfl,rfl,SqL.of hl4,at1,_,rfl,a1,_,rfl,SqL.of h14,λc hc=>⟨c,_,rfl, .inl ⟨SqL.of upd_same,λt ht=>⟨_,_,rfl,?_⟩⟩⟩⟩
  have e1:za0 ((("houses":Str)::hs).map V.str) (some 1) none=hs.map V.str:=by rw[zlm];rfl
  rw[e1] at ht⊢
  have S5:=(Same.new (o:= .lst (hs.map V.str)) hc).trans (Same.new (o:= .tup (hs.map V.str)) ht)
  have ht5:upd (upd H4 c (.lst (hs.map V.str))) t (.tup (hs.map V.str)) t=some (.tup (hs.map V.str)):=upd_same
  generalize upd (upd H4 c (.lst (hs.map V.str))) t (.tup (hs.map V.str))=H5 at *
  have s25:=(s3.trans s4).trans S5
  dsimp only[zcl]
  refine⟨_,rfl,_,rfl,_,rfl,l,_,rfl,SqL.of (s25 _ _ hl'),λd hd=>?_⟩
  have e2:za0 ((a0::a1::as).map V.ref) (some 2) none=as.map V.ref:=zd4 (m:=2)
  rw[e2]
  have S6:=Same.new (o:= .lst (as.map V.ref)) hd
  refine⟨t,d,hs,as,zgm hs ps lks hds,zat ps lks hds,rfl,S6 _ _ ht5,upd_same,pts.same (s25.trans S6),zfj T,by have:=(zfj T).1;have:=zgn T p9;lia,λf us H6 hf rl s6'=>?_⟩
  have s6:=S6.trans s6'
  have ht6:=s6 _ _ ht5
  have r9:=zgn T p9
  refine⟨_,rfl,f,rfl,⟨_,SqL.of hf⟩,?_⟩
  refine zaD zeA (λl3 m zs σ2 H2=>(∃o1 o2,σ2=[o1,o2])/\RepL H2 zs (zV ((zat ps lks hds).take m) 0 0)/\Same H6 H2) (λl3 h=>⟨⟨_,_,rfl⟩, .nil,Same.new h⟩) (λ_ _ _ _ _ _ z=>SqL.of (z.2.2 _ _ hf)) ?_ ?_
  ·rintro l3 m y zs σ2 H7 hl3 hm hy ⟨⟨o1,o2,rfl⟩,rz,s7⟩ hl3'
   obtain⟨d,hd,rd⟩:=rl.get hy
   rw[W0] at hd
   cases er:(zat ps lks hds)[m]? with
   |none=>rw[er] at hd;cases hd
   |some e=>
    rw[er] at hd
    cases hd
    obtain⟨p,va,vr,rfl,hp,ra,rr⟩:=Rep.of2 (show Rep H6 y (.tup [.tup [.int e.1.1, .int e.1.2],e.2])from rd)
    obtain⟨pa,va,vb,rfl,hpa,rva,rvb⟩:=ra.of2
    cases rva
    cases rvb
    refine⟨p,_,rfl, .inl (.inl (s7 _ _ hp)),rfl,_,_,rfl,_,_,rfl,rfl,?_⟩
    refine⟨_,rfl,few rfl,λa ha=>?_⟩
    have S8:=Same.new (o:= .tup [V.int 0,V.int 0]) ha
    refine⟨_,_,zgY (S8 _ _ (s7 _ _ hpa)),zgY upd_same,zkL,_,rfl,?_⟩
    rw[zle]
    have tk:(zat ps lks hds).take (m+1)=(zat ps lks hds).take m ++ [e]:=by rw[N1,er];rfl
    refine zak (λhe=>?_) (λhe=>?_)
    ·have he:e.1=(0,0):=B1 he
     have hl4:=S8 _ _ hl3'
     have m5:=Mono.lset (ys:=zs ++ [vr]) hl4
     refine⟨_,rfl,hl4,zeM (zkc rz (by rw[K1];lia)),⟨_,_,rfl⟩,?_,zag (s7.trans S8) hl3⟩
     rw[tk,zeH,p0 he]
     exact(rz.mono ((Mono.of S8).trans m5)).append (.cons ((rr.same (s7.trans S8)).mono m5) .nil)
    ·have he:¬e.1=(0,0):=λz=>he (D0 z)
     refine⟨S8 _ _ hl3',⟨_,_,rfl⟩,?_,s7.trans S8⟩
     rw[tk,zeH,V0 he,O1]
     exact rz.mono (.of S8)
  rintro l3 zs σ2 H7 hl3 ⟨⟨o1,o2,rfl⟩,rz,s7⟩ hl3'
  have eu:us.length=(zat ps lks hds).length:=by rw[rl.1,B0]
  rw[eu,B2,znI] at rz
  refine⟨l3,_,rfl, .inl ⟨SqL.of hl3',λu hu=>?_⟩⟩
  have S8:=Same.new (o:= .tup zs) hu
  have rt:Rep (upd H7 u (.tup zs)) (.ref u) (.tup (ps.map pairD)):= .mkL upd_same (by rw[B0];exact p9) (rz.mono (.of S8))
  have s8:=s7.trans S8
  generalize upd H7 u (.tup zs)=H8 at *
  have hf8:=s8 _ _ hf
  have ht8:=s8 _ _ ht6
  refine⟨_,rfl,_,rfl,_,rfl,_,rfl,_,rfl,f,t,1,hs,us,zat ps lks hds,lks,rfl,hf8,ht8,rl.mono (.of s8),hs10,(),T.ll,znS T,λv1 H9 rv1 s9=>?_⟩
  refine⟨_,rfl,_,rfl,f,t,2,hs,us,zat ps lks hds,hds,rfl,s9 _ _ hf8,s9 _ _ ht8,rl.mono (.of (s8.trans s9)),hs10,(),T.lh,znw T,λv2 H10 rv2 s10=>⟨few rfl,λz hz=>?_⟩⟩
  have S11:=Same.new (o:= .tup [V.str g, .ref t, .ref u,v1,v2]) hz
  have s9z:=s9.trans s10
  have rh:Rep H10 (.ref t) (.tup (hs.map D.str)):= .mkL (s9z _ _ ht8) (by rw[B0];lia) (zhL λx hx=>zQ (T.names x hx))
  have rtown:Rep (upd H10 z (.tup [V.str g, .ref t, .ref u,v1,v2])) (.ref z) (ze0 g hs ps lks hds):= .mkL upd_same (Nat.le_of_ble_eq_true rfl) (.cons (.str g (zQ (T.names g T.goal))) (.cons (rh.same S11) (.cons ((rt.same s9z).same S11) (.cons ((rv1.same s10).same S11) (.cons (rv2.same S11) .nil)))))
  refine⟨_,rfl, .ref z,_,rfl,rtown,λH12 s12=>⟨_,rfl,zas (by rw[T.ok];rfl) ?_⟩⟩
  exact⟨_,rfl,q _ _ (rtown.same s12) (((((S12.trans s25).trans s6).trans s8).trans s9z).trans (S11.trans s12))⟩
noncomputable def dep:Nat->D->Bool
 |0,_=>false
 |_+1, .oth=>false
 |_+1, .bl _=>false
 |n+1, .tup ds=>ds.all (dep n)
 |_+1,_=>true
noncomputable def zeq(n:Nat):Sp:=λvs H Q _=>∃(a b:V) (d:D),vs=[a,b]/\Rep H a d/\Rep H b d/\dep n d=true/\∀H',Same H H'->Q (.bl true) H'
theorem zoc(Y:Ev K mg):FnOk P w K mg base CX0 1 Y.a__law_same Y.d__law_same za1 (zeq 0):=by
 refine Y._law_same.fn.okQ zgE (λvs H Q E h=>?_) `X2
 ·obtain ⟨a,b,d,rfl,_⟩:=h;rfl
 ·obtain ⟨a,b,d,rfl,_,_,z,_⟩:=h;cases z
theorem zaw(Y:Ev K mg)(G__law_same:FnOk P w K mg base CX0 k Y.a__law_same Y.d__law_same za1 (zeq n)):FnOk P w K mg base CX0 (k+1) Y.a__law_same Y.d__law_same za1 (zeq (n+1)):=by
 refine Y._law_same.fn.okQ zgE (λvs H Q E h=>?_) `X2
 ·obtain ⟨a,b,d,rfl,_⟩:=h;rfl
 ·obtain ⟨a,b,d,rfl,ra,rb,hd,q⟩:=h
  refine⟨_,(zh (zar (zay (zp zaI Y.isinstance zI (za (qv 1) (za (zga Y.tuple zX) zb)))) (zh (zar (t_w (zdu (zaW (zay (zp zaI Y.isinstance zI (za (qv 0) (za (zga Y.tuple zX) zb))))) (zdc (zM zfN (zp zH Y.len zaC (za (qv 0) zb)) (zp zH Y.len zaC (za (qv 1) zb)))))) (zj (zw zei)) zS)
   (zj (zw (zp (zav rfl) Y.all zca (za (zaB (src:=[none,none]) zc7 rfl rfl (zkk Y.zip (za (qv 0) (za (qv 1) zb))) (λ_ _ _ _ _=>(zd3 (K:=K) 2 rfl rfl (zu (zl 0 zc7.nd) (zu (zl 1 zc7.nd) zaA)))) (λ_ _ _ _ _=>zaJ) (λ_ _ _ _ _=>(zf G__law_same hr Y._law_same.mg Y._law_same.kp Y._law_same.b .nil zi (za (qv 0) (za (qv 1) zb))))) zb))))) zS)
   (zh (zar (zay (zp zaI Y.isinstance zI (za (qv 1) (za (zga Y.str zd2) zb)))) (zj (zw (zaO (zp zaI Y.isinstance zI (za (qv 0) (za (zga Y.str zd2) zb))) (zbe (zbH zaX (qv 0) (qv 1)))))) zS)
   (zh (zar (zM zed (qv 1) za9) (zj (zw (zbH zed (qv 0) za9))) zS)
   (zj (zw (zaO (zp zaI Y.isinstance zI (za (qv 0) (za (zga Y.int zdQ) zb))) (zaO (zol (zp zaI Y.isinstance zI (za (qv 0) (za (zga Y.bool zmV) zb)))) (zbe (zbH zaX (qv 0) (qv 1)))))))))),?_⟩
  cases d with
  |oth=>cases hd
  |bl _=>cases hd
  |non=>
   cases ra
   cases rb
   refine⟨_,rfl,_,_,_,_,rfl, .non,rfl,_,rfl,zas rfl ?_⟩
   refine⟨_,rfl,_,_,_,_,rfl, .non,rfl,_,rfl,zas rfl ?_⟩
   exact⟨_,rfl,rfl,_,rfl,zcx rfl ⟨_,rfl,rfl,q H (Same.refl H)⟩⟩
  |str x=>
   cases ra
   cases rb
   refine⟨_,rfl,_,_,_,_,rfl, .str _,rfl,_,rfl,zas rfl ?_⟩
   refine⟨_,rfl,_,_,_,_,rfl, .str _,rfl,_,rfl,zcx rfl ?_⟩
   refine⟨_,rfl,_,_,_,_,rfl, .str _,rfl,_,rfl,zcx rfl ⟨_,rfl,_,rfl,rfl,?_⟩⟩
   have e:decide (V.str x=V.str x)=true:=D0 rfl
   rw[e];exact q H (Same.refl H)
  |int i=>
   cases ra
   cases rb
   refine⟨_,rfl,_,_,_,_,rfl, .int _,rfl,_,rfl,zas rfl ?_⟩
   refine⟨_,rfl,_,_,_,_,rfl, .int _,rfl,_,rfl,zas rfl ?_⟩
   refine⟨_,rfl,rfl,_,rfl,zas rfl ?_⟩
   refine⟨_,rfl,_,_,_,_,rfl, .int _,rfl,_,rfl,zcx rfl ?_⟩
   refine⟨_,rfl,_,_,_,_,rfl, .int _,rfl,_,rfl,_,rfl,zcx rfl ⟨_,rfl,_,rfl,rfl,?_⟩⟩
   have e:decide (V.int i=V.int i)=true:=D0 rfl
   rw[e];exact q H (Same.refl H)
  |tup ds=>
   obtain⟨pa,xs,rfl,ha,la,d9⟩:=ra.ofT
   obtain⟨pb,ys,rfl,hb,lb,_⟩:=rb.ofT
   have hd:ds.all (dep n)=true:=hd
   rw[T0] at hd
   have exy:xs.length=ys.length:=by rw[la.1,lb.1]
   refine⟨_,rfl,_,_,_,_,rfl, .tup hb,rfl,_,rfl,zcx rfl ?_⟩
   refine⟨_,rfl,_,_,_,_,rfl, .tup ha,rfl,_,rfl,zas rfl ?_⟩
   refine⟨_,rfl, .inl ⟨pa,_,rfl, .inr (.inl (.inl ha)),_,rfl, .inl ⟨pb,_,rfl, .inr (.inl (.inl hb)),rfl,_,rfl,zas (by rw[exy,D0 rfl];rfl) ?_⟩⟩⟩
   refine⟨_,rfl,_,rfl,pa,pb,true,true,_,_,rfl,ha,hb,?_⟩
   have eN:min xs.length ys.length=xs.length:=by rw[←exy,Nat.min_self]
   have xl:xs.length<=1000:=by rw[la.1];exact d9
   rw[eN]
   refine zo9 (n:=xs.length) (λl i zs σ' H'=>(∃o1 o2,σ'=[o1,o2])/\zs=(List.replicate i true).map V.bl/\Same H H') (λl hl=>⟨⟨_,_,rfl⟩,rfl,Same.new hl⟩) ?_ ?_ ?_ ?_
   ·rintro l i zs σ' H' _ hi ⟨_,_,s'⟩
    have hi2:i<ys.length:=by rw[←exy];exact hi
    exact⟨_,_,xs[i],ys[i],s' _ _ ha,s' _ _ hb,eN,by simp[hi],by simp[hi2]⟩
   ·rintro l zs σ' H' _ ⟨_,_,s'⟩
    exact⟨_,_,s' _ _ ha,s' _ _ hb,eN,K0 _⟩
   ·rintro l i x zs σ' H1 H1' hl hi ⟨⟨o1,o2,rfl⟩,rfl,s1⟩ hl' ⟨Tt,xs',ys',u,v,hx',hy',rfl,hT,hu,hv,rfl⟩
    have ex:xs'=xs:=SqZ.inj (t:=true) hx' (s1 _ _ ha)
    have ey:ys'=ys:=SqZ.inj (t:=true) hy' (s1 _ _ hb)
    subst ex ey
    obtain⟨d,hdi,rd⟩:=la.get hu
    have re:=lb.2 i v d hv hdi
    have ST:=Same.new (o:= .tup [u,v]) hT
    have S2:=s1.trans ST
    have hl2:=ST _ _ hl'
    refine⟨Tt,_,rfl, .inl (.inl upd_same),rfl,_,_,rfl,_,_,rfl,rfl,?_⟩
    refine⟨_,rfl,_,rfl,u,v,d,rfl,rd.same S2,re.same S2,hd d (L0 hdi),λH3 s3=>⟨s3 _ _ hl2,zeM (by rw[B0,List.length_replicate];lia),⟨_,_,rfl⟩,by rw[List.replicate_succ',U0];rfl,zag (S2.trans s3) hl⟩⟩
   ·rintro l zs σ' H3 hl ⟨⟨o1,o2,rfl⟩,rfl,s3⟩ hl'
    refine⟨l,List.replicate xs.length true,rfl,SqL.of hl',?_⟩
    have e1:((List.replicate xs.length true).all id)=true:=T0.mpr λb hb=>by rw[List.eq_of_mem_replicate hb];rfl
    rw[e1];exact q H3 s3
theorem znP(Y:Ev K mg):FnOk P w K mg base CX0 9 Y.a__law_same Y.d__law_same za1 (zeq 8):=
 zaw Y (zaw Y (zaw Y (zaw Y (zaw Y (zaw Y (zaw Y (zaw Y (zoc Y))))))))
theorem znr(h:zt d=true):dep 2 d=true:=by
 obtain⟨x,e,rfl⟩:=zO d h
 rcases zaa h with⟨rfl,i,rfl,_⟩|⟨_,y,rfl,_⟩<;>rfl
theorem zpp(h:zo d=true):dep 3 d=true:=by
 obtain⟨x,e,rfl⟩:=zai d h
 rw[zaE] at h
 split at h
 ·show (true&&(dep 2 e&&true))=true
  rw[znr h];rfl
 ·rcases zaa h with⟨rfl,i,rfl,_⟩|⟨_,y,rfl,_⟩<;>rfl
theorem zkZ{pr:D->Bool}(hp:∀x,pr x=true->dep 4 x=true)(h:zek pr ds):dep 7 (.tup ds)=true:=by
 refine T0.mpr λd hd=>?_
 obtain⟨rs,rfl,_,hr⟩:=h d hd
 refine T0.mpr λr hrm=>?_
 obtain⟨cs,x,rfl,_,hc,hx⟩:=hr r hrm
 have e1:dep 4 (.tup cs)=true:=T0.mpr λc hcm=>zpp (hc c hcm)
 show(dep 4 (.tup cs)&&(dep 4 x&&true))=true
 rw[e1,hp x hx];rfl
theorem zkH{g:Str}(T:TownOk g hs ps lks hds):dep 8 (ze0 g hs ps lks hds)=true:=by
 have e1:dep 7 (.tup (hs.map D.str))=true:=T0.mpr λd hd=>by
  obtain⟨x,_,rfl⟩:=T1.mp hd
  rfl
 have e2:dep 7 (.tup (ps.map pairD))=true:=T0.mpr λd hd=>by
  obtain⟨x,_,rfl⟩:=T1.mp hd
  rfl
 have e3:=zkZ (λx hx=>by rcases zaK hx with rfl|⟨i,rfl,_⟩<;>rfl) (zdA T)
 have e4:=zkZ (λx hx=>by rcases zhC hx with rfl|⟨v,y,rfl,_⟩<;>rfl) (zdH T)
 show(true&&(dep 7 (.tup (hs.map D.str))&&(dep 7 (.tup (ps.map pairD))&&(dep 7 (.tup lks)&&(dep 7 (.tup hds)&&true)))))=true
 rw[e1,e2,e3,e4];rfl
def Ahead(H:Hp)(v:V):Prop:=v= .non\/∃(p:Addr) (vt:V) (g:Str) (hs:List Str) (ps:List (Str×Str)) (lks hds:List D),v= .ref p/\H p=some (.tup [vt, .str (Str.join "\n" (zac g hs ps lks hds))])/\Rep H vt (ze0 g hs ps lks hds)/\TownOk g hs ps lks hds
theorem Ahead.same(h:Ahead H v)(s:Same H H'):Ahead H' v:=by
 rcases h with h|⟨p,vt,g,hs,ps,lks,hds,h,hp,r,T⟩
 ·exact .inl h
 ·exact .inr ⟨p,vt,g,hs,ps,lks,hds,h,s _ _ hp,r.same s,T⟩
noncomputable def spLaw(K:W.Frag):Sp:=λvs H Q _=>∃(a:Addr) (ns:List Int),vs=[.ref a]/\SqL K H a (ns.map V.int)/\ns.length<=63/\∀H',Q (.bl true) H'
theorem ok_law_of(Y:Ev K mg){fl:Addr}{fdl:FuncData}(FL:Fun K "law" "law" zmR fl fdl):FnOk P w K mg base CX0 10 fl fdl zpA (spLaw K):=by
 have G__law_hand:FnOk P w K mg base CX0 1 Y.a__law_hand Y.d__law_hand zcG (zpj K):=zri Y
 have G__law_town:FnOk P w K mg base CX0 6 Y.a__law_town Y.d__law_town zcZ zpy:=zqq Y
 have G__law_rows:FnOk P w K mg base CX0 5 Y.a__law_rows Y.d__law_rows zcQ zmE:=zp9 Y
 have G_show_town:FnOk P w K mg base CX0 5 Y.a_show_town Y.d_show_town zcI zmv:=zjF Y
 have G_read_town:FnOk P w K mg base CX0 9 Y.a_read_town Y.d_read_town zcP zmW:=zjp Y
 have G__law_same:FnOk P w K mg base CX0 9 Y.a__law_same Y.d__law_same za1 (zeq 8):=znP Y
 refine FL.okQ zgD (λvs H Q E h=>?_) `X2
 ·obtain ⟨a,ns,rfl,_⟩:=h;rfl
 ·obtain ⟨b,ns,rfl,hS,hns,q⟩:=h
  refine⟨_,(zh (zL 1 zgD.nd za9)
   (zh (zcz U2 rfl (zdF Y.range (za (zp (zm7 rfl) Y.max zl9 (za ze (za (zp (zin rfl) Y.min zi5 (za (zp zH Y.len zaC (za (qv 0) zb)) (za ze zb))) zb))) zb)) (zl 2 zgD.nd) (zh (zL 3 zgD.nd (zf G__law_hand `n3 Y._law_hand.mg Y._law_hand.kp Y._law_hand.b .nil zi (za (qv 0) (za (qv 2) zb))))
   (zh (zL 4 zgD.nd (zf G__law_town `n3 Y._law_town.mg Y._law_town.kp Y._law_town.b .nil zi (za (qv 3) zb)))
   (zh (zL 5 zgD.nd (zdm O2 F.slot_str_join F.type_str_join zjd zy (za (zf G__law_rows `n3 Y._law_rows.mg Y._law_rows.kp Y._law_rows.b .nil zi (za (qv 4) zb)) zb)))
   (zh (zar (zM zmh (zp zH Y.len zaC (za (qv 5) zb)) ze) (zj zsR) zS)
   (zh (zcz U2 rfl (zb2 (zaf (za (qv 5) (za (zf G_show_town `n3 Y.show_town.mg Y.show_town.kp Y.show_town.b .nil zi (za (qv 4) zb)) zb)))) (zl 6 zgD.nd) (zj (zar (zaW (zay (zf G__law_same `n3 Y._law_same.mg Y._law_same.kp Y._law_same.b .nil zi (za (zf G_read_town `n3 Y.read_town.mg Y.read_town.kp Y.read_town.b .nil zi (za (qv 6) zb)) (za (qv 4) zb))))) (zj (zw zei)) zS)))
   (zh (zar (zM zfN (zf G_show_town `n3 Y.show_town.mg Y.show_town.kp Y.show_town.b .nil zi (za (zf G_read_town `n3 Y.read_town.mg Y.read_town.kp Y.read_town.b .nil zi (za (qv 5) zb)) zb)) (qv 5)) (zj (zw zei)) zS)
   (zh (zar (t_w (zms (zM zqH (qv 1) za9) (zjV (zaW (zay (zf G__law_same `n3 Y._law_same.mg Y._law_same.kp Y._law_same.b .nil zi (za (zf G_read_town `n3 Y.read_town.mg Y.read_town.kp Y.read_town.b .nil zi (za (zN zR (qv 1) ze) zb)) (za (zN zR (qv 1) ze) zb)))))))) (zj (zw zei)) zS)
   (zj (zL 1 zgD.nd (zaf (za (qv 4) (za (qv 5) zb)))))))))))))
   (zj (zw zei)))),?_⟩
  refine⟨_,rfl, .inl ⟨b,_,rfl, .inl hS,_,_,rfl,_,_,rfl,_,rfl,?_,?_,?_⟩⟩
  ·split<;>(try split)<;>lia
  ·rw[B0]
   split<;>(try split)<;>lia
  refine zcE zc9 (λi σ' H'=>(∃va o2 o3 o4 o5 o6,σ'=[some (.ref b),some va,o2,o3,o4,o5,o6]/\Ahead H' va)/\Same H H') ⟨⟨_,_,_,_,_,_,rfl, .inl rfl⟩,Same.refl H⟩ (λ_ _ _ _=>trivial) ?_ ?_
  ·rintro i y σ' H0 hi rfl ⟨⟨va,o2,o3,o4,o5,o6,rfl,AH⟩,s0⟩
   have hi':i<1000:=by
    refine C1 hi ?_
    rw[B0]
    split<;>(try split)<;>lia
   refine⟨_,rfl,_,rfl,b,ns,_,rfl,s0.seq hS,(),(),λa H1 ha hH1 s1=>?_⟩
   refine⟨_,rfl,a,0,rfl,hH1,⋯,λv g hs ps lks hds H2 hv T _ _ _ _ hH2 k2=>?_⟩
   have p9:=zmF hv
   have TL:=zfV T p9
   have sa2:Same H0 H2:=λc o e=>k2 c o (zB e ha) (s1 c o e)
   dsimp only[zb1]
   refine⟨rfl,_,rfl,v,g,hs,ps,lks,hds,rfl,hv,T,λl H3 hl s3=>⟨"\n",l,_,rfl,rfl,SqL.of hl,⋯,TL.1,?_⟩⟩
   rw[txj]
   dsimp only[zb1]
   have sa3:=sa2.trans s3
   have hv3:=hv.same s3
   have AH3:=AH.same sa3
   refine⟨_,rfl, .inr ⟨_,rfl,F1 TL.2 (Nat.le_of_ble_eq_true rfl),_,_,rfl,rfl,_,rfl,zak (λ_=>?_) (λ_=>?_)⟩⟩
   ·exact ⟨⟨_,_,_,_,_,_,rfl,AH3⟩,s0.trans sa3⟩
   refine⟨_,rfl,_,rfl,v,g,hs,ps,lks,hds,rfl,hv3,T,λH4 s4=>⟨few rfl,λp hp=>?_⟩⟩
   have S5:=Same.new (o:= .tup [V.str (Str.join "\n" (zac g hs ps lks hds)),V.str (Str.join "\n" (zac g hs ps lks hds))]) hp
   have hp5:upd H4 p (.tup [V.str (Str.join "\n" (zac g hs ps lks hds)),V.str (Str.join "\n" (zac g hs ps lks hds))]) p=some (.tup [V.str (Str.join "\n" (zac g hs ps lks hds)),V.str (Str.join "\n" (zac g hs ps lks hds))]):=upd_same
   have hv5:=(hv3.same s4).same S5
   have AH5:=(AH3.same s4).same S5
   have sa5:=(sa3.trans s4).trans S5
   generalize upd H4 p (.tup [V.str (Str.join "\n" (zac g hs ps lks hds)),V.str (Str.join "\n" (zac g hs ps lks hds))])=H5 at *
   refine⟨p,rfl,⟨_, .inl (.inl hp5)⟩,?_⟩
   refine zcE (zaT (K:=K) (xs:=[V.str (Str.join "\n" (zac g hs ps lks hds)),V.str (Str.join "\n" (zac g hs ps lks hds))])) (λj σ' H'=>(∃o,σ'=[some (.ref b),some va,some (.int (0+(i:Int))),some (.ref a),some v,some (.str (Str.join "\n" (zac g hs ps lks hds))),o])/\Same H5 H') ⟨⟨_,rfl⟩,Same.refl H5⟩ (λ_ _ _ z=> .inl (.inl (z.2 _ _ hp5))) ?_ ?_
   ·rintro j y σ' H6 hj hy ⟨⟨o,rfl⟩,s6⟩
    have ey:y= .str (Str.join "\n" (zac g hs ps lks hds)):=by
     match j,hj,hy with
     |0,_,hy=>cases hy;rfl
     |1,_,hy=>cases hy;rfl
    subst ey
    exact⟨_,rfl,g,hs,ps,lks,hds,rfl,T,p9,λv2 H7 r2 s7=>⟨_,rfl,v2,v,_,rfl,r2,hv5.same (s6.trans s7),zkH T,λH8 s8=>⟨_,rfl,zas rfl ⟨⟨_,rfl⟩,(s6.trans s7).trans s8⟩⟩⟩⟩
   rintro σ' H6 ⟨⟨o,rfl⟩,s6⟩
   have hv6:=hv5.same s6
   have ne0:∀x:Str,(!decide (V.str x=V.str x))=false:=λx=>by rw[D0 rfl];rfl
   refine⟨_,rfl,g,hs,ps,lks,hds,rfl,T,p9,λv3 H7 r3 s7=>⟨v3,g,hs,ps,lks,hds,rfl,r3,T,λH8 s8=>⟨_,rfl,rfl,_,rfl,zas (ne0 _) ?_⟩⟩⟩
   have s78:=s7.trans s8
   have hv8:=hv6.same s78
   have AH8:=(AH5.same s6).same s78
   have sa8:=(sa5.trans s6).trans s78
   rcases AH8 with rfl|⟨pA,vA,gA,hsA,psA,lksA,hdsA,rfl,hpA,rA,TA⟩
   ·exact ⟨_,rfl,rfl,_,rfl,zas rfl (zas rfl ⟨_,rfl,_,rfl,few rfl,λp5 hp5=>⟨⟨_,_,_,_,_,_,rfl, .inr ⟨p5,v,g,hs,ps,lks,hds,rfl,upd_same,hv8.same (Same.new hp5),T⟩⟩,(s0.trans sa8).trans (Same.new hp5)⟩⟩)⟩
   ·exact ⟨_,rfl,rfl,_,rfl,zcx rfl ⟨_,rfl,pA,_,1,_,rfl,rfl, .inl (.inl hpA),at1,gA,hsA,psA,lksA,hdsA,rfl,TA,zmF rA,λv4 H9 r4 s9=>⟨_,rfl,pA,_,0,vA,rfl,rfl, .inl (.inl (s9 _ _ hpA)),at0,v4,vA,_,rfl,r4,rA.same s9,zkH TA,λH10 s10=>⟨_,rfl,zas rfl ⟨_,rfl,_,rfl,few rfl,λp5 hp5=>⟨⟨_,_,_,_,_,_,rfl, .inr ⟨p5,v,g,hs,ps,lks,hds,rfl,upd_same,(hv8.same (s9.trans s10)).same (Same.new hp5),T⟩⟩,(s0.trans (sa8.trans (s9.trans s10))).trans (Same.new hp5)⟩⟩⟩⟩⟩⟩
  ·rintro σ' H1 ⟨⟨va,o2,o3,o4,o5,o6,rfl,AH⟩,s1⟩
   exact q _
end
noncomputable def evOf    (F:Fk K) (X:K.In h) (G:h.Ns mainGlobals mg):Ev K mg:={
 a_TAKEN:=F.TAKEN.f9,m_TAKEN:=W.mg_of X G F.TAKEN.a9,t_TAKEN:=erT F.TAKEN ⋯,
 a_NAMING:=F.NAMING.f9,m_NAMING:=W.mg_of X G F.NAMING.a9,t_NAMING:=erT F.NAMING ⋯,
 a_KINDS:=F.KINDS.f9,m_KINDS:=W.mg_of X G F.KINDS.a9,t_KINDS:=erT F.KINDS ⋯,y_KINDS:=⟨_,F.KINDS.l9,rfl,rfl⟩,
 v_LONGEST:=_,m_LONGEST:=W.mg_of X G F.LONGEST.a9,r_LONGEST:=⟨F.LONGEST.tk9,rfl⟩,
 v_MOST_CONDS:=_,m_MOST_CONDS:=W.mg_of X G F.MOST_CONDS.a9,r_MOST_CONDS:=⟨F.MOST_CONDS.tk9,rfl⟩,
 v_LONGEST_ASKED:=_,m_LONGEST_ASKED:=W.mg_of X G F.LONGEST_ASKED.a9,r_LONGEST_ASKED:=⟨F.LONGEST_ASKED.tk9,rfl⟩,
 v_GREATEST_WORTH:=_,m_GREATEST_WORTH:=W.mg_of X G F.GREATEST_WORTH.a9,r_GREATEST_WORTH:=⟨F.GREATEST_WORTH.tk9,rfl⟩,
 v_MOST_HOUSES:=_,m_MOST_HOUSES:=W.mg_of X G F.MOST_HOUSES.a9,r_MOST_HOUSES:=⟨F.MOST_HOUSES.tk9,rfl⟩,
 v_MOST_RULES:=_,m_MOST_RULES:=W.mg_of X G F.MOST_RULES.a9,r_MOST_RULES:=⟨F.MOST_RULES.tk9,rfl⟩,
 v_MOST_FIGURES:=_,m_MOST_FIGURES:=W.mg_of X G F.MOST_FIGURES.a9,r_MOST_FIGURES:=⟨F.MOST_FIGURES.tk9,rfl⟩,
 a_is_name:=_,d_is_name:=_,is_name:=erA F.is_name X G λ_ _ _ _ _ _=>(of1 λ_=>rfl),
 a_is_number:=_,d_is_number:=_,is_number:=erA F.is_number X G λ_ _ _ _ _ _=>(of1 λ_=>rfl),
 a_is_whole:=_,d_is_whole:=_,is_whole:=erA F.is_whole X G λ_ _ _ _ _ _=>(of3 λ_ _ _=>rfl),
 a_is_row:=_,d_is_row:=_,is_row:=erA F.is_row X G λ_ _ _ _ _ _=>(of3 λ_ _ _=>rfl),
 a_is_rising:=_,d_is_rising:=_,is_rising:=erA F.is_rising X G λ_ _ _ _ _ _=>(of1 λ_=>rfl),
 a_is_worded:=_,d_is_worded:=_,is_worded:=erA F.is_worded X G λ_ _ _ _ _ _=>(of2 λ_ _=>rfl),
 a_is_plain_cond:=_,d_is_plain_cond:=_,is_plain_cond:=erA F.is_plain_cond X G λ_ _ _ _ _ _=>(of1 λ_=>rfl),
 a_is_cond:=_,d_is_cond:=_,is_cond:=erA F.is_cond X G λ_ _ _ _ _ _=>(of1 λ_=>rfl),
 a_are_conds:=_,d_are_conds:=_,are_conds:=erA F.are_conds X G λ_ _ _ _ _ _=>(of1 λ_=>rfl),
 a_asks_to:=_,d_asks_to:=_,asks_to:=erA F.asks_to X G λ_ _ _ _ _ _=>(of1 λ_=>rfl),
 a_is_worth:=_,d_is_worth:=_,is_worth:=erA F.is_worth X G λ_ _ _ _ _ _=>(of1 λ_=>rfl),
 a_is_liking:=_,d_is_liking:=_,is_liking:=erA F.is_liking X G λ_ _ _ _ _ _=>(of1 λ_=>rfl),
 a_is_act:=_,d_is_act:=_,is_act:=erA F.is_act X G λ_ _ _ _ _ _=>(of1 λ_=>rfl),
 a_is_hand:=_,d_is_hand:=_,is_hand:=erA F.is_hand X G λ_ _ _ _ _ _=>(of1 λ_=>rfl),
 a_are_houses:=_,d_are_houses:=_,are_houses:=erA F.are_houses X G λ_ _ _ _ _ _=>(of1 λ_=>rfl),
 a_is_house:=_,d_is_house:=_,is_house:=erA F.is_house X G λ_ _ _ _ _ _=>(of2 λ_ _=>rfl),
 a_is_tie:=_,d_is_tie:=_,is_tie:=erA F.is_tie X G λ_ _ _ _ _ _=>(of2 λ_ _=>rfl),
 a_are_ties:=_,d_are_ties:=_,are_ties:=erA F.are_ties X G λ_ _ _ _ _ _=>(of2 λ_ _=>rfl),
 a_are_likings:=_,d_are_likings:=_,are_likings:=erA F.are_likings X G λ_ _ _ _ _ _=>(of1 λ_=>rfl),
 a_are_hands:=_,d_are_hands:=_,are_hands:=erA F.are_hands X G λ_ _ _ _ _ _=>(of1 λ_=>rfl),
 a_is_town:=_,d_is_town:=_,is_town:=erA F.is_town X G λ_ _ _ _ _ _=>(of1 λ_=>rfl),
 a_is_figures:=_,d_is_figures:=_,is_figures:=erA F.is_figures X G λ_ _ _ _ _ _=>(of2 λ_ _=>rfl),
 a_all_names:=_,d_all_names:=_,all_names:=erA F.all_names X G λ_ _ _ _ _ _=>(of1 λ_=>rfl),
 a_parted:=_,d_parted:=_,parted:=erA F.parted X G λ_ _ _ _ _ _=>(of2 λ_ _=>rfl),
 a_plain_cond_in:=_,d_plain_cond_in:=_,plain_cond_in:=erA F.plain_cond_in X G λ_ _ _ _ _ _=>(of1 λ_=>rfl),
 a_cond_in:=_,d_cond_in:=_,cond_in:=erA F.cond_in X G λ_ _ _ _ _ _=>(of1 λ_=>rfl),
 a_conds_in:=_,d_conds_in:=_,conds_in:=erA F.conds_in X G λ_ _ _ _ _ _=>(of1 λ_=>rfl),
 a_worths_in:=_,d_worths_in:=_,worths_in:=erA F.worths_in X G λ_ _ _ _ _ _=>(of1 λ_=>rfl),
 a_acts_in:=_,d_acts_in:=_,acts_in:=erA F.acts_in X G λ_ _ _ _ _ _=>(of1 λ_=>rfl),
 a_rule_in:=_,d_rule_in:=_,rule_in:=erA F.rule_in X G λ_ _ _ _ _ _=>(of1 λ_=>rfl),
 a_row_in:=_,d_row_in:=_,row_in:=erA F.row_in X G λ_ _ _ _ _ _=>(of2 λ_ _=>rfl),
 a_rows_in:=_,d_rows_in:=_,rows_in:=erA F.rows_in X G λ_ _ _ _ _ _=>(of2 λ_ _=>rfl),
 a_rules_in:=_,d_rules_in:=_,rules_in:=erA F.rules_in X G λ_ _ _ _ _ _=>(of3 λ_ _ _=>rfl),
 a_read_town:=_,d_read_town:=_,read_town:=erA F.read_town X G λ_ _ _ _ _ _=>(of1 λ_=>rfl),
 a_show_cond:=_,d_show_cond:=_,show_cond:=erA F.show_cond X G λ_ _ _ _ _ _=>(of1 λ_=>rfl),
 a_show_rule:=_,d_show_rule:=_,show_rule:=erA F.show_rule X G λ_ _ _ _ _ _=>(of4 λ_ _ _ _=>rfl),
 a_show_worth:=_,d_show_worth:=_,show_worth:=erA F.show_worth X G λ_ _ _ _ _ _=>(of1 λ_=>rfl),
 a_show_town:=_,d_show_town:=_,show_town:=erA F.show_town X G λ_ _ _ _ _ _=>(of1 λ_=>rfl),
 a__law_hand:=_,d__law_hand:=_,_law_hand:=erA F._law_hand X G λ_ _ _ _ _ _=>(of2 λ_ _=>rfl),
 a__law_take:=_,d__law_take:=_,_law_take:=erA F._law_take X G λ_ _ _ _ _ _=>(of2 λ_ _=>rfl),
 a__law_pick:=_,d__law_pick:=_,_law_pick:=erA F._law_pick X G λ_ _ _ _ _ _=>(of2 λ_ _=>rfl),
 a__law_names:=_,d__law_names:=_,_law_names:=erA F._law_names X G λ_ _ _ _ _ _=>(of2 λ_ _=>rfl),
 a__law_cond:=_,d__law_cond:=_,_law_cond:=erA F._law_cond X G λ_ _ _ _ _ _=>(of4 λ_ _ _ _=>rfl),
 a__law_conds:=_,d__law_conds:=_,_law_conds:=erA F._law_conds X G λ_ _ _ _ _ _=>(of4 λ_ _ _ _=>rfl),
 a__law_likings:=_,d__law_likings:=_,_law_likings:=erA F._law_likings X G λ_ _ _ _ _ _=>(of3 λ_ _ _=>rfl),
 a__law_hands:=_,d__law_hands:=_,_law_hands:=erA F._law_hands X G λ_ _ _ _ _ _=>(of3 λ_ _ _=>rfl),
 a__law_ties:=_,d__law_ties:=_,_law_ties:=erA F._law_ties X G λ_ _ _ _ _ _=>(of3 λ_ _ _=>rfl),
 a__law_town:=_,d__law_town:=_,_law_town:=erA F._law_town X G λ_ _ _ _ _ _=>(of1 λ_=>rfl),
 a__law_cond_text:=_,d__law_cond_text:=_,_law_cond_text:=erA F._law_cond_text X G λ_ _ _ _ _ _=>(of1 λ_=>rfl),
 a__law_rule_text:=_,d__law_rule_text:=_,_law_rule_text:=erA F._law_rule_text X G λ_ _ _ _ _ _=>(of4 λ_ _ _ _=>rfl),
 a__law_rows:=_,d__law_rows:=_,_law_rows:=erA F._law_rows X G λ_ _ _ _ _ _=>(of1 λ_=>rfl),
 a__law_same:=_,d__law_same:=_,_law_same:=erA F._law_same X G λ_ _ _ _ _ _=>(of2 λ_ _=>rfl),
 a_law:=_,d_law:=_,law:=erA F.law X G λ_ _ _ _ _ _=>(of1 λ_=>rfl),
 all:=W1 X G F.z_all,
 any:=W1 X G F.z_any,
 bool:=W1 X G F.z_bool,
 enumerate:=W1 X G F.z_enumerate,
 int:=W1 X G F.z_int,
 isinstance:=W1 X G F.z_isinstance,
 len:=W1 X G F.z_len,
 list:=W1 X G F.z_list,
 max:=W1 X G F.z_max,
 min:=W1 X G F.z_min,
 range:=W1 X G F.z_range,
 sorted:=W1 X G F.z_sorted,
 str:=W1 X G F.z_str,
 tuple:=W1 X G F.z_tuple,
 zip:=W1 X G F.z_zip}
end L2
open PySem PySem.W PyProof.Rows L2 L2
theorem PySem.Challenge.cw_restways_k83_read_again_holds : PySem.Challenge.rw_restways_k83_read_again.Holds := by
 refine topE λq loose XP YP d K hdf hd hY F=>walk_of (l:=PySem.Challenge.rw_restways_k83_read_again) (n:=63) (k:=10) (x:="_law_script") (CX:=λ_=>CX0) (sp:=λw=>spLaw (K w.params)) rfl (by decide) hdf ⟨rfl,by decide,by decide,rfl⟩ hY (λw mg fa h X G e=>?_) (λ_ _ a ns hl _ hS=>⟨a,ns,rfl,hS,hl,λ_=>rfl⟩) λ_ _ _ _ _ z=>z
 have Y:=evOf (F w) X G
 rw[hd] at e
 cases e.symm.trans Y.law.mg
 refine⟨_,λs v=>?_,λbase _ _=>ok_law_of Y Y.law.fn⟩
 obtain⟨_,_,_,_,_,_,_,_,_,e,_⟩:=Y.law.fn.ex
 rw[e]
 exact .of_eq rfl
