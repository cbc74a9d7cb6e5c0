import PyProof.Rows.All
import Wide.All
import OpenK.AllK
import Wide.FinOn
import Lean
import PyProof.EqAt
import PyProof.EqKinds
import PyProof.TupleCall
import KE.KSortTup
import KE.KDictSum
import PyProof.Rows.SortStr
import PyProof.AutoSeq1
import PyProof.ZipIter
import PyProof.Rows.FStr
import PyProof.Rows.FStrParts
import PyProof.AttrMissHeap
import KE.KDictOf
import PyProof.StrCalls
import KE.KStrOpen
import KE.KRevIter
import PyProof.WalkInts
import KE.KDictList
import PyProof.Rows.SetFrom
import PyProof.SetRoads
import PyProof.DictCompW
import PyProof.DictItems
import KE.KPairComp
import KE.KEqDict
import PyProof.Rows.Range3
import PyProof.WalksMore
import PyProof.DictWalks
import KE.KMinKey
import PySem.SetTable
import PySem.SetOps
import KE.KSetDisp
import PySem.Challenge.RW_restways_k66_whole_up_over_down
abbrev A0:=@PySem.wpAny_bind
abbrev C0:=@List.length_map
abbrev D0:=@List.getElem?_eq_getElem
abbrev F0:=@PySem.wpAny_pure
abbrev G0:=@PySem.Heap.get?_push_of_some
abbrev I0:=@List.getElem?_eq_none
abbrev K0:=@List.mem_singleton
abbrev L0:=@Nat.le_refl
abbrev N0:=@List.getElem?_map
abbrev O0:=@List.mem_append_right
abbrev P0:=@if_neg
abbrev Q0:=@List.mem_cons_self
abbrev R0:=@List.mem_cons
abbrev T0:=@PySem.Heap.get?_push_size
abbrev U0:=@decide_eq_true
abbrev V0:=@List.mem_cons_of_mem
abbrev W0:=@PySem.Heap.lt_size
abbrev X0:=@List.mem_map
abbrev Y0:=@of_decide_eq_true
abbrev Z0:=@List.length_append
abbrev c0:=@if_pos
abbrev o0:=@Option.some.inj
abbrev A1:=@decide_eq_false
abbrev B1:=@List.mem_of_getElem?
abbrev C1:=@Array.length_toList
abbrev D1:=@Nat.lt_or_ge
abbrev E1:=@Bool.and_eq_true
abbrev F1:=@List.mem_append
abbrev G1:=@List.size_toArray
abbrev J1:=@List.mem_filter
abbrev K1:=@PySem.wpAny_mono
abbrev L1:=@List.getElem?_append_right
abbrev N1:=@List.getElem?_append_left
abbrev O1:=@Bool.false_ne_true
abbrev P1:=@Nat.ne_of_lt
abbrev U1:=@List.nodup_cons
abbrev V1:=@List.map_cons
abbrev W1:=@List.mem_append_left
abbrev X1:=@Nat.zero_le
abbrev Y1:=@List.length_cons
abbrev Z1:=@Array.getElem?_eq_getElem
abbrev j1:=@PySem.wpAny_newObj_type
abbrev A2:=@Nat.lt_of_lt_of_le
abbrev B2:=@Nat.le_trans
abbrev C2:=@List.length_take
abbrev D2:=@List.take_add_one
abbrev E2:=@List.getElem_of_mem
abbrev F2:=@List.map_append
abbrev G2:=@PySem.wpAny_call_entry
abbrev K2:=@PySem.Heap.SameBut.update
abbrev O2:=@PySem.wpAny_holding
abbrev P2:=@List.take_length
abbrev Q2:=@PySem.wpAny_setState_of
abbrev U2:=@PySem.W.mg_none_of
abbrev V2:=@List.pairwise_map
abbrev X2:=@List.nodup_append
abbrev Y2:=@PySem.wpAny_callSpecial?_slot
abbrev Z2:=@List.getElem_mem
abbrev A3:=@Nat.le_of_lt
abbrev B3:=@decide_eq_true_iff
abbrev C3:=@List.all_eq_true
abbrev D3:=@PySem.PassesOwn.never
abbrev E3:=@List.mem_range
abbrev F3:=@PySem.F.plainAttrs_list
abbrev G3:=@List.map_map
abbrev J3:=@PySem.wpAny_standAt
abbrev K3:=@PySem.sizeLine_eq
abbrev L3:=@Int.toNat_natCast
abbrev M3:=@Bool.false_eq_true
set_option Elab.async false
set_option linter.all false
set_option maxRecDepth 100000
theorem v3(h:True:=by rfl):True:=h
def y3:Lean.Syntax:=v3._auto_1
theorem u4(h:True:=by decide):True:=h
def v4:Lean.Syntax:=u4._auto_1
theorem w4(h:True:=by intro _;rfl):True:=h
def y4:Lean.Syntax:=w4._auto_1
theorem u5(h:True:=by first|exact .inl rfl|exact .inr rfl|assumption):True:=h
def v5:Lean.Syntax:=u5._auto_1
theorem u6(h:True:=by intro _ _;rfl):True:=h
def v6:Lean.Syntax:=u6._auto_1
theorem w6(h:True:=by exact λ_ _=>rfl):True:=h
def y6:Lean.Syntax:=w6._auto_1
theorem u7(h:True:=by exact λ_ _ _ _ _ _ _ z=>z):True:=h
def v7:Lean.Syntax:=u7._auto_1
local macro_rules | `(())=> `(by lia)
local macro_rules | `(⋯)=> `(by decide)
set_option hygiene false in
local macro_rules
|`(`j3)=>`(by simp)
|`(`Z3)=>`(by decide +kernel)
|`(`Y3)=>`(model prog w)
|`(`X3)=>`(zg X N' scope cl C s₀ H₀ fp)
|`(`W3)=>`(model X.prog X.w)
|`(`V3)=>`(λcdv A outer s H vs Q E hr h=>?_)
namespace L2
open PySem PySem.Spec PyProof.Rows
variable{α β γ κ:Type}{p a it l f dx C sl fa lf I S:Addr}{an od:Option Addr}{us its ks its':List Value}{x y g name qual z:Str}{u doc pm cdv oc vl vu acc key ov:Value}{h h':Heap}{P:Program}{e c tg iter value elt target t1 i1 t2 i2 tg2 iter2 kx vx:Expr}{pins:List (Addr×Obj)}{s s':Shared}{g':Array GenState}{t' i j n ep finger moves wanted epR:Nat}{d':Drawn}{M:Model}{E Q:Value->Shared->Prop}{pos pos' px py tpos apos cpos spos p3 pos2:Pos}{rest es ifs elts f1 f2 ifs2:List Expr}{body sts:List Stmt}{R:Result->Shared->Prop}{lo hi:Option Int}{tk:Tok}{fp wr:List Addr}{op:CmpOp}{r q loose N' ss O ws ms ts as:List Str}{fd:FuncData}{ps:List (Str×Str)}{scope osc:Scope}{osl:Array (Option Value)}{T:String}{items:Array Value}{XP:(Str->Option Value)->Heap->Prop}{YP:World->Heap->Prop}{G:Array Nat->Prop}{OK:Heap->Prop}{Y:Prop}{rs ls L:List (List Str)}{owner:Array (Option Nat)}{oR:Obj}{esR:Array (Int×Value)}{tR:SetTable}{zs:List (Str×Tok)}{qk:Nat×Nat}
noncomputable def zY(s:Stmt):Arguments:=match s with
 | .FunctionDef _ a _ _ _ _ _ _ _ _=>a
 |_=>{posonlyargs:=[],args:=[],vararg:=none,kwonlyargs:=[],kw_defaults:=[],kwarg:=none,defaults:=[]}
noncomputable def zL(s:Stmt):List Stmt:=match s with
 | .FunctionDef _ _ b _ _ _ _ _ _ _=>b
 |_=> []
noncomputable def ze(s:Stmt):Scope:=match s with
 | .FunctionDef _ _ _ _ _ _ sc _ _ _=>sc
 |_=>{kind:= .function,names:=[],isGenerator:=false,isCoroutine:=false}
section
open PySem.W
noncomputable def zpP(tb:String->Option Builtin)(p:Program)(w:World)(n₀:Nat)(ann:Option Value):Nat->SharedT->Thread->Option SharedT
 |0,_,_=>none
 |n+1,s,t=>match through t with
  |true=>some s
  |false=>match stepOk n₀ ann t with
   |false=>none
   |true=>match stepT (denote tb) p w s t with
    |some (s',t')=>zpP tb p w n₀ ann n s' t'
    |none=>none
theorem znI{tb:String->Option Builtin}{p:Program}{w:World}{n₀:Nat}{ann:Option Value}:∀{n:Nat} {s s':SharedT} {t:Thread},zpP tb p w n₀ ann n s t=some s'->topRun tb p w n₀ ann n s.abs t=some s'.abs
 |0,_,_,_,h=>by cases h
 |n+1,s,s',t,h=>by
  unfold zpP at h
  unfold topRun
  cases ht:through t with
  |true=>rw[ht] at h;cases h;rfl
  |false=>
   rw[ht] at h
   cases hk:stepOk n₀ ann t with
   |false=>rw[hk] at h;cases h
   |true=>
    rw[hk] at h
    cases hs:stepT (denote tb) p w s t with
    |none=>rw[hs] at h;cases h
    |some r=>obtain ⟨s₂,t₂⟩:=r;rw[hs] at h;rw[stepT_spec hs];exact znI h
noncomputable def zk4:List Obj->BT->Nat->Option BT
 |[],t,_=>some t
 |o::l,t,n=>match ((t.ins n o).get n).isSome with
  |true=>zk4 l (t.ins n o) (n+1)
  |false=>none
theorem zgu{life:Life}:∀{l:List Obj} {t T:BT} {n:Nat},zk4 l t n=some T->absHeap T (n+l.length) life=⟨(absHeap t n life).objs ++l.toArray,life⟩
 |[],t,T,n,h=>by cases h;simp[absHeap]
 |o::l,t,T,n,h=>by
  unfold zk4 at h
  cases e:((t.ins n o).get n).isSome with
  |false=>rw[e] at h;cases h
  |true=>
   rw[e] at h
   have:=zgu (life:=life) h
   rw[Y1,show n+(l.length+1)=n+1+l.length by lia,this,absHeap_ins e]
   show Heap.mk _ _=Heap.mk _ _
   congr 1
   show(absHeap t n life).objs.push o ++_=_
   apply Array.ext'
   simp
noncomputable def ziC{α:Type}(T:BT):Nat->List Obj->(List Obj->α)->α
 |0,acc,k=>k acc
 |n+1,acc,k=>match T.get n with
  |some o=>ziC T n (o::acc) k
  |none=>ziC T n (default::acc) k
theorem zfY{α:Type}{T:BT}{k:List Obj->α}:∀{n:Nat} {acc:List Obj},ziC T n acc k=k (T.list n ++acc)
 |0,acc=>rfl
 |n+1,acc=>by
  have:T.list (n+1)++acc=T.list n ++((T.get n).getD default::acc):=by
   unfold BT.list
   rw[List.range_succ,F2,List.append_assoc];rfl
  rw[this]
  unfold ziC
  cases e:T.get n with
  |none=>exact zfY
  |some o=>exact zfY
noncomputable def zrH(g:Shared->α)(s:SharedT):α:=ziC s.tree s.n [] λL=>g ⟨⟨⟨L⟩,s.life⟩,s.gens,s.drawn,s.toks,s.os⟩
theorem zee{g:Shared->α}{s:SharedT}:zrH g s=g s.abs:=by
 unfold zrH
 rw[zfY,List.append_nil]
 rfl
noncomputable def look  (p:Program) (w:World) (os:OsState) (m:Nat) (an:Option Value) (N:Nat) (g:Shared->α):Option α:=
 (zk4 (boot_heap w.params).objs.toList .nil 0).bind λT=>(zpP treeTable p w m an N ⟨T,m,(boot_heap w.params).life, #[],boot_drawn,boot_toks,os⟩ (topStub p)).map (zrH g)
theorem look_ends{p:Program}{N m:Nat}{an:Option Value}{g:Shared->α}{w:World}{a:α}
 (op:opening p=plainProg p.main.scope.names) (hN:Nat.ble 600 N=true) (f:∀s,fenceModules? p s=some s)
 (size:((boot_heap w.params).isNs mainGlobals,(boot_heap w.params).objs.size,(boot_heap w.params).nsMap mainGlobals "__annotations__")=(true,m,an))
 (st:∀os,look p w os m an N (λs=>staticsOk (importedModules p.main.body) (boot_heap w.params) s.heap&&namesBound p s.heap&&gensDone s&&laidKept (boot_heap w.params) s.heap)=some true)
 (h:∀os,look p w os m an N g=some a):(openEnds treeTable p w N).map g=some a:=by
 obtain⟨⟨hh,gs,d,k,os⟩,e,e'⟩:=Option.map_eq_some_iff.mp (boot_open op hN f w)
 obtain⟨rfl,rfl,rfl,rfl⟩:hh=boot_heap w.params/\gs=Array.mk []/\d=boot_drawn/\k=boot_toks:=by simpa using e'
 obtain⟨z1,z2,z3⟩:_/\_/\_:=by simpa only[Prod.mk.injEq] using size
 have hs:=st os
 have hl:=h os
 unfold look at hs hl
 obtain⟨T,b,hs⟩:=Option.bind_eq_some_iff.mp hs
 rw[b] at hl
 replace hl:Option.map _ _=_:=hl
 obtain⟨s,r,hs⟩:=Option.map_eq_some_iff.mp hs
 rw[r] at hl
 rw[zee] at hs
 have hl:g s.abs=a:=by simpa[zee] using hl
 have ab:=zgu (life:=(boot_heap w.params).life) b
 have r:=znI r
 have l:(boot_heap w.params).objs.toList.length=m:=by rw[C1,z2]
 have ea:SharedT.abs ⟨T,m,(boot_heap w.params).life, #[],boot_drawn,boot_toks,os⟩=⟨boot_heap w.params, #[],boot_drawn,boot_toks,os⟩:=by
  unfold SharedT.abs
  dsimp only
  rw[Nat.zero_add,l] at ab
  rw[ab]
  have:(absHeap .nil 0 (boot_heap w.params).life).objs ++(boot_heap w.params).objs.toList.toArray=(boot_heap w.params).objs:=by
   apply Array.ext'
   simp[absHeap,BT.list]
  rw[this]
 rw[ea] at r
 have t:topFrom treeTable p w N ⟨boot_heap w.params,Array.mk [],boot_drawn,boot_toks,os⟩=some s.abs:=by
  unfold topFrom
  dsimp only
  rw[z1,z2,z3,r]
  show(match staticsOk (importedModules p.main.body) (boot_heap w.params) s.abs.heap&&namesBound p s.abs.heap&&gensDone s.abs&&laidKept (boot_heap w.params) s.abs.heap with|true=>_|false=>_)=_
  rw[hs]
 unfold openEnds
 rw[e]
 show(topFrom treeTable p w N _).map _=_
 rw[t]
 exact congrArg some hl
theorem vw_sz(w:World):((boot_heap w.params).isNs mainGlobals,(boot_heap w.params).objs.size,(boot_heap w.params).nsMap mainGlobals "__annotations__")=(true,11,some (.ref 6)):=by kernel_rfl
theorem map_two{o:Option α}{f:α->β}{g:α->γ}{a:β}{b:γ}(h:o.map f=some a)(k:o.map g=some b):o.map (λs=>(f s,g s))=some (a,b):=by
 cases o with
 |none=>cases h
 |some x=>cases h;cases k;rfl
theorem look_pair{p:Program}{w:World}{os:OsState}{m N:Nat}{an:Option Value}{g:Shared->α}{g':Shared->β}{a:α}{b:β}(h:look p w os m an N (λs=>(g s,g' s))=some (a,b)):look p w os m an N g=some a/\look p w os m an N g'=some b:=by
 unfold look at h⊢
 obtain⟨T,e,h⟩:=Option.bind_eq_some_iff.mp h
 rw[e]
 show(Option.map _ _=_)/\(Option.map _ _=_)
 obtain⟨s,r,h⟩:=Option.map_eq_some_iff.mp h
 rw[r]
 rw[zee] at h
 cases h
 exact⟨congrArg some zee,congrArg some zee⟩
end
set_option genInjectivity false in
set_option genSizeOfSpec false in
set_option genSizeOf false in
structure Er(K:W.Frag)(x:Str)(st:Stmt):Type where
 {f9:Addr} {oc9:Value} {od9 an9:Option Addr} {sl9:Array (Option Value)} {kV9 dc9 pm9 cd9 ct9:Value}
 a9:W.nsIn K mainGlobals x=some (some (.ref f9))
 l9:K.lookup f9=some ⟨oc9,od9, .func (W.fnOf x x (zY st) (zL st) (ze st) .none kV9 dc9 pm9 an9 cd9 ct9),sl9⟩
 c9:W.codeIn K cd9 x=true
 k9:W.keepIn K (.ref f9)=true
set_option genInjectivity false in
set_option genSizeOfSpec false in
set_option genSizeOf false in
structure ErD(K:W.Frag)(x:Str)(st:Stmt):Type where
 {f9:Addr} {oc9:Value} {od9 an9:Option Addr} {sl9:Array (Option Value)} {kV9 dc9 pm9 cd9 ct9:Value} {dt9:Addr} {odd9:Option Addr} {nd9:Nat} {sld9:Array (Option Value)}
 a9:W.nsIn K mainGlobals x=some (some (.ref f9))
 l9:K.lookup f9=some ⟨oc9,od9, .func (W.fnOf x x (zY st) (zL st) (ze st) (.ref dt9) kV9 dc9 pm9 an9 cd9 ct9),sl9⟩
 c9:W.codeIn K cd9 x=true
 k9:W.keepIn K (.ref f9)=true
 d9:K.lookup dt9=some ⟨.type "tuple",odd9, .seq #[.none] nd9,sld9⟩
set_option genInjectivity false in
set_option genSizeOfSpec false in
set_option genSizeOf false in
structure Em(K:W.Frag)(C:Addr)(x q:Str)(st:Stmt):Type where
 {f9:Addr} {oc9:Value} {od9 an9:Option Addr} {sl9:Array (Option Value)} {kV9 dc9 pm9 cd9 ct9:Value}
 a9:W.findIn K (.ref C) x=some (some (.ref f9))
 i9:W.isFn K (.ref f9)=true
 l9:K.lookup f9=some ⟨oc9,od9, .func (W.fnOf x q (zY st) (zL st) (ze st) .none kV9 dc9 pm9 an9 cd9 ct9),sl9⟩
 c9:W.codeIn K cd9 q=true
 k9:W.keepIn K (.ref f9)=true
set_option genInjectivity false in
set_option genSizeOfSpec false in
set_option genSizeOf false in
structure Ec(K:W.Frag)(x:Str)(C:Addr):Prop where
 a9:W.nsIn K mainGlobals x=some (some (.ref C))
 pg9:W.plainGet K C Str.empty=true
 hd9:W.hasDictIn K C=true
 po9:W.plainOver K C=true
 sa9:W.findIn K (.ref C) "__setattr__"=some (some (.builtin "object.__setattr__"))
 ms9:W.makesIn K C=true
 kc9:W.keepIn K (.ref C)=true
set_option genInjectivity false in
set_option genSizeOfSpec false in
set_option genSizeOf false in
structure En(K:W.Frag)(x:Str):Type where
 {f9 e9:Addr} {od9 oe9:Option Addr} {sl9 se9:Array (Option Value)} {n9 ne9:Nat} {tk9:Tok}
 a9:W.nsIn K mainGlobals x=some (some (.ref f9))
 l9:K.lookup f9=some ⟨.type "tuple",od9, .seq #[.int 0 tk9, .none, .ref e9] n9,sl9⟩
 d9:K.lookup e9=some ⟨.type "tuple",oe9, .seq #[] ne9,se9⟩
set_option genInjectivity false in
set_option genSizeOfSpec false in
set_option genSizeOf false in
structure Ei(K:W.Frag)(x:Str)(v:Int):Type where
 {tk9:Tok}
 a9:W.nsIn K mainGlobals x=some (some (.int v tk9))
set_option genInjectivity false in
set_option genSizeOfSpec false in
set_option genSizeOf false in
structure ExCls(K:W.Frag)(C:Addr):Prop where
 ga9:W.findIn K (.ref C) "__getattribute__"=some (some (.builtin "BaseException.__getattribute__"))
 gh9:W.findIn K (.ref C) "__getattr__"=some none
 fc9:W.findIn K (.ref C) "__class__"=some (some (.builtin "object.__class__"))
 sp9:W.specialIn K (.builtin "object.__class__") "__get__"=some (some (.builtin "getset_descriptor.__get__"))
 tk9:W.takesIn K (.builtin "object.__class__")=some true
 mo9:W.mroIn K C (.type "object")=some true
 mb9:W.mroIn K C (.type "BaseException")=some true
 cl9:∃c d cd sl,K.lookup C=some ⟨c,d, .cls cd,sl⟩
set_option genInjectivity false in
set_option genSizeOfSpec false in
set_option genSizeOf false in
structure Exn(K:W.Frag)(x:Str)(C:Addr):Prop where
 a9:W.nsIn K mainGlobals x=some (some (.ref C))
set_option maxHeartbeats 4000000
theorem hidZ{G:Prop}(k:∀γ:Prop,(G->γ)->γ):G:=k G id
local macro_rules | `(tactic|obtain $p:rcasesPatMed:= $e:term)=>do
 if ((p.raw.reprint.getD "").splitOn ",").length≥3 then `(tactic|first|(refine hidZ λγ hγ=>?_;rcases $e:term with $p<;>(refine hγ ?_;clear hγ γ))|rcases $e:term with $p)else `(tactic|rcases $e:term with $p)
noncomputable def top(i:Nat):Stmt:=Challenge.pw_restways_k66_whole_up_over_down.main.body.getD i (.Pass ⟨0,0,0,0⟩)
noncomputable abbrev zha:Stmt:=top 4
noncomputable abbrev zdG:Stmt:=top 5
noncomputable abbrev zcr:Stmt:=top 7
noncomputable abbrev zdx:Stmt:=top 8
noncomputable abbrev zfl:Stmt:=top 9
noncomputable abbrev zaR:Stmt:=top 11
noncomputable abbrev zfw:Stmt:=top 12
noncomputable abbrev zhv:Stmt:=top 14
noncomputable abbrev zcq:Stmt:=top 15
noncomputable abbrev zS:Stmt:=top 16
noncomputable abbrev zb3:Stmt:=top 19
noncomputable abbrev zdI:Stmt:=top 20
noncomputable abbrev zcO:Stmt:=top 21
noncomputable abbrev zfN:Stmt:=top 22
noncomputable abbrev zde:Stmt:=top 24
noncomputable abbrev zdH:Stmt:=top 25
noncomputable abbrev zb1:Stmt:=top 28
noncomputable abbrev zba:Stmt:=top 29
noncomputable abbrev zaB:Stmt:=top 30
noncomputable abbrev zcR:Stmt:=top 32
noncomputable abbrev zcS:Stmt:=top 33
noncomputable abbrev zcU:Stmt:=top 34
noncomputable abbrev zbs:Stmt:=top 35
noncomputable abbrev zcz:Stmt:=top 36
noncomputable abbrev zbk:Stmt:=top 37
noncomputable abbrev zcQ:Stmt:=top 38
noncomputable abbrev zct:Stmt:=top 39
noncomputable abbrev zcX:Stmt:=top 40
noncomputable abbrev zdw:Stmt:=top 41
noncomputable abbrev zfz:Stmt:=top 42
noncomputable def vw:Program:={Challenge.pw_restways_k66_whole_up_over_down with main:={Challenge.pw_restways_k66_whole_up_over_down.main with body:=([1,2,7,8,9,11,12,14,15,16,18,19,20,21,22,24,25,27,28,29,30,32,33,34,35,36,37,38,39,40,41,42]:List Nat).filterMap λi=>Challenge.pw_restways_k66_whole_up_over_down.main.body[i]?}}
set_option maxHeartbeats 0 in
theorem znv(w:World)(os:OsState):look Challenge.pw_restways_k66_whole_up_over_down w os 11 (some (.ref 6)) 2952 (λs=>(W.staticsOk (PySem.importedModules Challenge.pw_restways_k66_whole_up_over_down.main.body) (W.boot_heap w.params) s.heap&&W.namesBound Challenge.pw_restways_k66_whole_up_over_down s.heap&&W.gensDone s&&W.laidKept (W.boot_heap w.params) s.heap,(λs=>W.openSeen vw [(Str.ofString "holds"),(Str.ofString "all_hold")] (PySem.importedModules Challenge.pw_restways_k66_whole_up_over_down.main.body) (λz=>W.xlAt vw [] z&&W.recOk [] z) true s) s))=some (true,W.openGood vw [(Str.ofString "holds"),(Str.ofString "all_hold")]):=by kernel_rfl
theorem zsG(w:World)(os:OsState):look Challenge.pw_restways_k66_whole_up_over_down w os 11 (some (.ref 6)) 2952 (λs=>W.staticsOk (PySem.importedModules Challenge.pw_restways_k66_whole_up_over_down.main.body) (W.boot_heap w.params) s.heap&&W.namesBound Challenge.pw_restways_k66_whole_up_over_down s.heap&&W.gensDone s&&W.laidKept (W.boot_heap w.params) s.heap)=some true:=(look_pair (znv w os)).1
theorem ztr(w:World)(os:OsState):look Challenge.pw_restways_k66_whole_up_over_down w os 11 (some (.ref 6)) 2952 (λs=>W.openSeen vw [(Str.ofString "holds"),(Str.ofString "all_hold")] (PySem.importedModules Challenge.pw_restways_k66_whole_up_over_down.main.body) (λz=>W.xlAt vw [] z&&W.recOk [] z) true s)=some (W.openGood vw [(Str.ofString "holds"),(Str.ofString "all_hold")]):=(look_pair (znv w os)).2
theorem zsE:W.opening Challenge.pw_restways_k66_whole_up_over_down=W.plainProg Challenge.pw_restways_k66_whole_up_over_down.main.scope.names:=by kernel_rfl
theorem ztt(s:Shared):fenceModules? Challenge.pw_restways_k66_whole_up_over_down s=some s:=by kernel_rfl
theorem vw_any{g:Shared->α}{w:World}{a:α}(h:∀os,look Challenge.pw_restways_k66_whole_up_over_down w os 11 (some (.ref 6)) 2952 g=some a):(W.openEnds treeTable Challenge.pw_restways_k66_whole_up_over_down w 2952).map g=some a:=look_ends zsE ⋯ ztt (vw_sz w) (λos=>zsG w os) h
theorem vw_one(w:World):(W.openEnds treeTable Challenge.pw_restways_k66_whole_up_over_down w 2952).map (λs=>W.openSeen vw [(Str.ofString "holds"),(Str.ofString "all_hold")] (PySem.importedModules Challenge.pw_restways_k66_whole_up_over_down.main.body) (λz=>W.xlAt vw [] z&&W.recOk [] z) true s)=some (W.openGood vw [(Str.ofString "holds"),(Str.ofString "all_hold")]):=vw_any λos=>ztr w os
set_option maxHeartbeats 0 in
theorem vw_ws:W.OpenLaw.wellSaid Challenge.rw_restways_k66_whole_up_over_down=true:=by
 unfold W.OpenLaw.wellSaid W.OpenRow.wellSaid W.OpenRow.partSaid W.looksOpen
 repeat' with_reducible refine W.look_both ?_ ?_
 all_goals decide +kernel
set_option genInjectivity false in
set_option genSizeOfSpec false in
set_option genSizeOf false in
structure Fk(K:W.Frag):Type where
 holds:ErD K "holds" zha
 all_hold:ErD K "all_hold" zdG
 likings_of:Er K "likings_of" zcr
 hands_of:Er K "hands_of" zdx
 tied:Er K "tied" zfl
 marks_behind:Er K "marks_behind" zaR
 handed:Er K "handed" zfw
 worth:Er K "worth" zhv
 liking_key:Er K "liking_key" zcq
 most_liked_first:Er K "most_liked_first" zS
 marks_ahead:Er K "marks_ahead" zb3
 marks_of:Er K "marks_of" zdI
 let_marks:Er K "let_marks" zcO
 lets:Er K "lets" zfN
 ties_of:Er K "ties_of" zde
 is_elder:Er K "is_elder" zdH
 kin_likings:Er K "kin_likings" zb1
 kin_hands:Er K "kin_hands" zba
 kin_town:Er K "kin_town" zaB
 _law_hand:Er K "_law_hand" zcR
 _law_take:Er K "_law_take" zcS
 _law_pick:Er K "_law_pick" zcU
 _law_names:Er K "_law_names" zbs
 _law_kin:Er K "_law_kin" zcz
 _law_is_child:Er K "_law_is_child" zbk
 _law_fond:Er K "_law_fond" zcQ
 _law_steps:Er K "_law_steps" zct
 _law_gone:Er K "_law_gone" zcX
 _law_key:Er K "_law_key" zdw
 law:Er K "law" zfz
 MOST_LET:Ei K "MOST_LET" 400
 MORE_BY_CHILD:Ei K "MORE_BY_CHILD" 100
 z_all:W.nsIn K mainGlobals "all"=some none
 z_dict:W.nsIn K mainGlobals "dict"=some none
 z_enumerate:W.nsIn K mainGlobals "enumerate"=some none
 z_int:W.nsIn K mainGlobals "int"=some none
 z_isinstance:W.nsIn K mainGlobals "isinstance"=some none
 z_len:W.nsIn K mainGlobals "len"=some none
 z_list:W.nsIn K mainGlobals "list"=some none
 z_max:W.nsIn K mainGlobals "max"=some none
 z_min:W.nsIn K mainGlobals "min"=some none
 z_range:W.nsIn K mainGlobals "range"=some none
 z_repr:W.nsIn K mainGlobals "repr"=some none
 z_reversed:W.nsIn K mainGlobals "reversed"=some none
 z_sorted:W.nsIn K mainGlobals "sorted"=some none
 z_str:W.nsIn K mainGlobals "str"=some none
 z_tuple:W.nsIn K mainGlobals "tuple"=some none
 z_zip:W.nsIn K mainGlobals "zip"=some none
section
open PySem PySem.W PyProof.Rows
local macro_rules | `(tactic|o_head $H)=> `(tactic|(
 refine holds_open (N:=2952) (q:=vw) (loose:=[(Str.ofString "holds"),(Str.ofString "all_hold")]) (YP:=Hook.says $H) (Ya:=Hook.val $H) (Yf:=Hook.obs $H) (XP:=XL vw [])
  (Xt:=λz=>xlAt vw [] z&&recOk [] z) (λw=>map_two (vw_one w) (vw_any (λos=>by kernel_rfl))) (Hook.of $H) (Hook.keeps $H) (λz e=>xl_of z (Bool.and_eq_true_iff.mp e).1) XL.keeps
  (by rfl) (by rfl) (by rfl) (λz e=>recFacts_of (Bool.and_eq_true_iff.mp e).2) (by rfl) (by first|assumption|decide +kernel) `Z3
  ⟨rfl,rfl,rfl,rfl,rfl,`Z3⟩ ?hw ?hc))
set_option maxRecDepth 100000 in
set_option maxHeartbeats 0 in
theorem topE(HW:∀(q:PySem.Program) (loose:List PySem.Str) (XP:(PySem.Str->Option PySem.Value)->PySem.Heap->Prop) (YP:PySem.World->PySem.Heap->Prop) (d:DefRec) (K:PySem.Params->W.Frag),d.params.defaults=[]->d.name="law"->(∀w h,YP w h->(K w.params).In h)->(∀w:PySem.World,Fk (K w.params))->W.WalkO q loose XP YP Challenge.rw_restways_k66_whole_up_over_down.row.toRowW d [] (λf vs=>PySem.call f vs)):Challenge.rw_restways_k66_whole_up_over_down.Holds:=by
 w_on;refine W.holds_law vw_ws λsaid=>?_
 k_head
 (case hw=>w_witness2)
 k_fill
 refine HW _ _ _ _ _ _ rfl rfl (λw h Y=>W.kIn_of Y) ?F
 case F=>
  intro w
  refine' Fk.mk ?_ ?_ ?_ ?_ ?_ ?_ ?_ ?_ ?_ ?_ ?_ ?_ ?_ ?_ ?_ ?_ ?_ ?_ ?_ ?_ ?_ ?_ ?_ ?_ ?_ ?_ ?_ ?_ ?_ ?_ ?_ ?_ ?_ ?_ ?_ ?_ ?_ ?_ ?_ ?_ ?_ ?_ ?_ ?_ ?_ ?_ ?_ ?_
  all_goals first
   |k_is
   |(refine' Er.mk ?a ?l ?c ?k
     (case a=>k_is)
     (case l=>k_is)
     (case c=>k_is)
     (case k=>k_is))
   |(refine' Em.mk ?a ?i ?l ?c ?k
     (case a=>k_is)
     (case i=>k_is)
     (case l=>k_is)
     (case c=>k_is)
     (case k=>k_is))
   |(refine' ErD.mk ?a ?l ?c ?k ?d
     (case a=>k_is)
     (case l=>k_is)
     (case c=>k_is)
     (case k=>k_is)
     (case d=>k_is))
   |(refine' Ei.mk ?a
     (case a=>k_is))
end
noncomputable abbrev Key:=Sum Int Str
noncomputable def zfG:Key->Value->Bool
 | .inl k,v=>Value.isInt k v
 | .inr x,v=>Value.isStrOf x v
noncomputable def ztF(w:World):Key->Int
 | .inl k=>hashInt k
 | .inr x=>hashStr w x
theorem zP:∀{k:Key} {v:Value},zfG k v=true->(∃i t,k=Sum.inl i/\v=Value.int i t)\/(∃x t,k=Sum.inr x/\v=Value.str x t)
 | .inl i,v,h=>by
   obtain⟨t,e⟩:=Value.isInt_shape (k:=i) (v:=v) h
   exact .inl ⟨i,t,rfl,e⟩
 | .inr x,v,h=>by
   obtain⟨t,e⟩:=Value.isStrOf_shape (x:=x) (v:=v) h
   exact .inr ⟨x,t,rfl,e⟩
theorem zlT(i:Int)(t:Tok):zfG (.inl i) (.int i t)=true:=by simp[zfG,Value.isInt]
theorem zln(x:Str)(t:Tok):zfG (.inr x) (.str x t)=true:=by simp[zfG,Value.isStrOf]
theorem zsr(a b:Int):decide ((Sum.inl a:Key)=Sum.inl b)=(a==b):=by
 by_cases e:a=b
 ·subst e;simp
 ·have h:¬(Sum.inl a:Key)=Sum.inl b:=λq=>e (Sum.inl.inj q)
  rw[A1 h]
  exact(beq_eq_false_iff_ne.mpr e).symm
theorem zrq(a b:Str):decide ((Sum.inr a:Key)=Sum.inr b)=decide (a=b):=by
 by_cases e:a=b
 ·subst e;simp
 ·have h:¬(Sum.inr a:Key)=Sum.inr b:=λq=>e (Sum.inr.inj q)
  rw[A1 h,A1 e]
theorem zrw(a:Int)(b:Str):decide ((Sum.inl a:Key)=Sum.inr b)=false:=A1 (λq=>nomatch q)
theorem zr1(a:Str)(b:Int):decide ((Sum.inr a:Key)=Sum.inl b)=false:=A1 (λq=>nomatch q)
noncomputable def zU(prog:Program)(w:World):PySem.KeyKind prog w Key where
 is:=zfG
 hash:=ztF w
 inj:=λv a b ha hb=>by
  rcases zP ha with⟨i,t,rfl,rfl⟩|⟨x,t,rfl,rfl⟩
  ·rcases zP hb with⟨j,u,rfl,e⟩|⟨y,u,rfl,e⟩
   ·injection e with e1 _;rw[e1]
   ·exact nomatch e
  ·rcases zP hb with⟨j,u,rfl,e⟩|⟨y,u,rfl,e⟩
   ·exact nomatch e
   ·injection e with e1 _;rw[e1]
 byValue:=λk v h=>by
   rcases zP h with⟨i,t,rfl,rfl⟩|⟨x,t,rfl,rfl⟩<;>rfl
 pyHash:=λhv h=>by
  rcases zP hv with⟨i,t,rfl,rfl⟩|⟨x,t,rfl,rfl⟩
  ·exact wpAny_pyHash_int h
  ·exact wpAny_pyHash_str h
 eqBool:=λhu hv h=>by
  rcases zP hu with⟨i,t,rfl,rfl⟩|⟨x,t,rfl,rfl⟩
  ·rcases zP hv with⟨j,u,rfl,rfl⟩|⟨y,u,rfl,rfl⟩
   ·rw[zsr] at h;exact wpAny_eqBool_int h
   ·rw[zrw] at h;exact SeqAt.EqAt.int_str i t y u _ _ _ _ h
  ·rcases zP hv with⟨j,u,rfl,rfl⟩|⟨y,u,rfl,rfl⟩
   ·rw[zr1] at h;exact SeqAt.EqAt.str_int x t j u _ _ _ _ h
   ·rw[zrq] at h;exact wpAny_eqBool_str h
 «strs»:=λk x t v h=>by
  rcases zP h with⟨i,u,rfl,e⟩|⟨y,u,rfl,e⟩
  ·exact nomatch e
  ·injection e with e1 _
   subst e1
   cases v<;>rfl
theorem zif(prog:Program)(w:World)(i:Int)(t:Tok):(zU prog w).is (.inl i) (.int i t)=true:=zlT i t
theorem ziT(prog:Program)(w:World)(x:Str)(t:Tok):(zU prog w).is (.inr x) (.str x t)=true:=zln x t
inductive V where
 |non|bl (b:Bool)|int (i:Int)|str (x:Str)|byt (b:Array UInt8)|flt (b:UInt64)|ref (a:Addr)|ty (n:String)
 deriving DecidableEq
variable{xs ys dvs vs us':List V}{v:V}{kvs fk:List (List Key×V)}
def RelV:V->Value->Prop
 | .non,u=>u=Value.none
 | .bl b,u=>u=Value.bool b
 | .int i,u=>∃t,u=Value.int i t
 | .str x,u=>∃t,u=Value.str x t
 | .byt b,u=>∃t,u=Value.bytes b t
 | .flt b,u=>∃t,u=Value.float b t
 | .ref a,u=>u=Value.ref a
 | .ty n,u=>u=Value.type n
abbrev Vals:List V->List Value->Prop:=Paired RelV
theorem Vals.length(r:Vals xs us):xs.length=us.length:=Paired.length r
theorem Vals.get:∀{xs:List V} {us:List Value} {i:Nat} {x:V},Vals xs us->xs[i]?=some x->∃u,us[i]?=some u/\RelV x u
 |_,_,_,_, .nil,e=>by simp at e
 |_,_,0,_, .cons r _,e=>by simp at e;subst e;exact⟨_,rfl,r⟩
 |_,_,i+1,x, .cons _ t,e=>by
  obtain⟨u,h1,h2⟩:=Vals.get (i:=i) (x:=x) t (by simpa using e)
  exact⟨u,by simpa using h1,h2⟩
theorem Vals.set{x:V}(r:RelV x u):∀{xs:List V} {us:List Value} (i:Nat),Vals xs us->Vals (xs.set i x) (us.set i u)
 |_,_,_, .nil=> .nil
 |_,_,0, .cons _ t=> .cons r t
 |_,_,i+1, .cons q t=> .cons q (Vals.set r i t)
theorem Vals.append:∀{xs ys:List V} {us ws:List Value},Vals xs us->Vals ys ws->Vals (xs ++ys) (us ++ws)
 |_,_,_,_, .nil,s=>s
 |_,_,_,_, .cons r t,s=> .cons r (Vals.append t s)
theorem Vals.take:∀{xs:List V} {us:List Value} (n:Nat),Vals xs us->Vals (xs.take n) (us.take n)
 |_,_,0,_=> .nil
 |_,_,_+1, .nil=> .nil
 |_,_,n+1, .cons r t=> .cons r (Vals.take n t)
theorem Vals.drop:∀{xs:List V} {us:List Value} (n:Nat),Vals xs us->Vals (xs.drop n) (us.drop n)
 |_,_,0,r=>r
 |_,_,_+1, .nil=> .nil
 |_,_,n+1, .cons _ t=>Vals.drop n t
def RelO:Option V->Option Value->Prop
 |some v,some u=>RelV v u
 |none,none=>True
 |_,_=>False
def KV:List (κ×V)->List (κ×Value)->Prop:=Paired λ(p:κ×V) (q:κ×Value)=>p.1=q.1/\RelV p.2 q.2
noncomputable def kV:Key->V
 | .inl i=> .int i
 | .inr x=> .str x
inductive HO where
 |lst (xs:List V)
 |tup (xs:List V)
 |dK (kvs:List (Key×V))|dT (kvs:List (List Key×V))
 |set (S:Int->Bool) (n:Nat)
 |ins (C dx:Addr) (fs:List (Str×V))
 |own (x:Addr)
 |xd (fs:List (Str×V))
 |met (f x:Addr)
 |rng (lo hi:Int)
 |frz (o:Obj) (u:HO)
 |tbl (ps:Array Value)
 |ext (φ:Heap->Prop)
noncomputable abbrev Hp:=Addr->Option HO
variable{H H' H1 H2:Hp}
noncomputable def upd(H:Hp)(a:Addr)(o:HO):Hp:=λb=>if b=a then some o else H b
theorem zb{o:HO}:upd H a o a=some o:=by unfold upd;rw[c0 rfl]
theorem zc{b:Addr}{o:HO}(h:b≠a):upd H a o b=H b:=by unfold upd;rw[P0 h]
theorem zak{b:Addr}{o u:HO}(h:H a=some o)(h':H b=some u)(d:o≠u):a≠b:=by
 intro e;subst e;rw[h] at h';exact d (o0 h')
theorem zi{b:Addr}{o:HO}(h:H a=some o)(h':H b=none):a≠b:=by
 intro e;subst e;rw[h] at h';cases h'
section
variable(P:Program)(w:World)
def NoDict(h:Heap)(a:Addr):Prop:=∀o,h.get? a=some o->o.dict=none
theorem NoDict.new{o:Obj}(e:o.dict=none)(f:(h.push o).get? h.objs.size=some o):NoDict (h.push o) h.objs.size:=λo' z=>by rw[f] at z;cases z;exact e
def ObjOk(H:Hp)(h:Heap)(a:Addr):HO->Prop
 | .lst xs=>xs.length<=sizeLine/\∃(its:List Value) (n:Nat),Vals xs its/\h.get? a=some {cls:= .type "list",data:= .seq its.toArray n}
 | .tup xs=>xs.length<=sizeLine/\∃its:List Value,Vals xs its/\IsTup h a its.toArray/\NoDict h a
 | .dK kvs=>kvs.length<=sizeLine/\(a==sysModules)=false/\∃vs,KV kvs vs/\h.DictOf (zU P w) a vs
 | .dT kvs=>kvs.length<=sizeLine/\(a==sysModules)=false/\∃xs:List (List Key×Addr×Value),
    Paired (λ(p:List Key×V) (q:List Key×Addr×Value)=>p.1=q.1/\H q.2.1=some (.tup (p.1.map kV))/\RelV p.2 q.2.2) kvs xs/\
    ∃o es ep,h.get? a=some o/\o.ExactDict/\o.data= .dict es ep/\es.toList=xs.map (entryOfKey (tupleKind (zU P w)))/\(xs.map (·.1)).Nodup
 | .set S n=>h.SetOf (intKind P w) a S n
 | .ins C dx fs=>H dx=some (.own a)/\fs.length<=1000/\dx≠a/\h.get? a=some (W.instObj C dx)/\
    ∃mA,h.Ns1 dx mA/\(∀f,RelO (fs.lookup f) (mA f))/\PySem.Within mA (fs.map (·.1))
 | .own _=>∃o,h.get? a=some o
 | .xd fs=>∃mA,h.Ns1 a mA/\∀f,RelO (fs.lookup f) (mA f)
 | .rng lo hi=>∃t u v,h.get? a=some {cls:= .type "range",data:= .fields #[.int lo t, .int hi u, .int 1 v]}
 | .frz o u=>h.get? a=some o/\ObjOk H h a u
 | .tbl ps=>h.get? a=some {cls:= .none,data:= .fields ps}
 | .met f x=>h.get? a=some (W.methodObj (.ref f) (.ref x))
 | .ext φ=>φ h/\(∃o,h.get? a=some o)/\∀h1 h2:Heap,φ h1->(∀o,h1.get? a=some o->h2.get? a=some o)->φ h2
def HOk(H:Hp)(h:Heap):Prop:=∀a o,H a=some o->ObjOk P w H h a o
end
section
variable{w:World}{o:HO}
theorem ObjOk.lt(x:ObjOk P w H h a o):a<h.objs.size:=by
 cases o with
 |lst xs=>obtain ⟨_,_,_,_,e⟩:=x;exact W0 e
 |tup xs=>obtain ⟨_,_,_,p,_⟩:=x;exact p.lt
 |dK kvs=>obtain ⟨_,_,_,_,o,_,_,e,_⟩:=x;exact W0 e
 |dT kvs=>obtain ⟨_,_,_,_,o,_,_,e,_⟩:=x;exact W0 e
 |set S n=>obtain ⟨o,_,_,_,e,_⟩:=x;exact W0 e
 |ins C dx fs=>obtain ⟨_,_,_,e,_⟩:=x;exact W0 e
 |own y=>obtain ⟨_,e⟩:=x;exact W0 e
 |xd fs=>obtain ⟨_,⟨_,_,_,e,_⟩,_⟩:=x;exact W0 e
 |rng lo hi=>obtain ⟨_,_,_,e⟩:=x;exact W0 e
 |frz ob u=>obtain ⟨e,_⟩:=x;exact W0 e
 |tbl ps=>exact W0 (show h.get? a=some _ from x)
 |met f y=>exact W0 (show h.get? a=some _ from x)
 |ext φ=>obtain ⟨_,⟨_,e⟩,_⟩:=x;exact W0 e
theorem Paired.mapP{F G:α->β->Prop}:∀{l₁:List α} {l₂:List β},Paired F l₁ l₂->(∀a b,F a b->G a b)->Paired G l₁ l₂
 |_,_, .nil,_=> .nil
 |_,_, .cons r t,f=> .cons (f _ _ r) (Paired.mapP t f)
theorem ObjOk.stay(x:ObjOk P w H h a o)(k:∀b u,(b=a\/H b=some (.own a))->h.get? b=some u->h'.get? b=some u)
 (ho:∀b,H b=some (.own a)->H' b=some (.own a)) (ht:∀b xs,H b=some (.tup xs)->H' b=some (.tup xs)):ObjOk P w H' h' a o:=by
 induction o with
 |lst xs=>obtain ⟨z,its,n,r,e⟩:=x;exact⟨z,its,n,r,k _ _ (.inl rfl) e⟩
 |tup xs=>obtain ⟨z,its,r,⟨ob,e,c⟩,nd⟩:=x;exact⟨z,its,r,⟨ob,k _ _ (.inl rfl) e,c⟩,λo q=>by rw[k _ _ (.inl rfl) e] at q;cases q;exact nd _ e⟩
 |dK kvs=>obtain ⟨z,y,vs,r,ob,es,ep,e,c⟩:=x;exact⟨z,y,vs,r,ob,es,ep,k _ _ (.inl rfl) e,c⟩
 |dT kvs=>
  obtain⟨z,y,xs,r,ob,es,ep,e,c⟩:=x
  exact⟨z,y,xs,Paired.mapP r λp q z=>⟨z.1,ht _ _ z.2.1,z.2.2⟩,ob,es,ep,k _ _ (.inl rfl) e,c⟩
 |set S n=>obtain ⟨ob,es,ep,t,e,c⟩:=x;exact⟨ob,es,ep,t,k _ _ (.inl rfl) e,c⟩
 |ins C dx fs=>
  obtain⟨d,z,ne,e,mA,⟨od,es,ep,e2,c⟩,r⟩:=x
  exact⟨ho _ d,z,ne,k _ _ (.inl rfl) e,mA,⟨od,es,ep,k _ _ (.inr d) e2,c⟩,r⟩
 |own y=>obtain ⟨ob,e⟩:=x;exact⟨ob,k _ _ (.inl rfl) e⟩
 |xd fs=>obtain ⟨mA,⟨od,es,ep,e,c⟩,r⟩:=x;exact⟨mA,⟨od,es,ep,k _ _ (.inl rfl) e,c⟩,r⟩
 |rng lo hi=>obtain ⟨t,u,v,e⟩:=x;exact⟨t,u,v,k _ _ (.inl rfl) e⟩
 |frz ob u ih=>obtain ⟨e,q⟩:=x;exact⟨k _ _ (.inl rfl) e,ih q⟩
 |tbl ps=>
  have e:h.get? a=some {cls:= .none,data:= .fields ps}:=x
  show h'.get? a=some {cls:= .none,data:= .fields ps}
  exact k a _ (.inl rfl) e
 |met f y=>
  have e:h.get? a=some (W.methodObj (.ref f) (.ref y)):=x
  show h'.get? a=some (W.methodObj (.ref f) (.ref y))
  exact k a _ (.inl rfl) e
 |ext φ=>obtain ⟨p,⟨o,e⟩,st⟩:=x;exact⟨st _ _ p λo q=>k _ _ (.inl rfl) q,⟨o,k _ _ (.inl rfl) e⟩,st⟩
theorem HOk.lt(x:HOk P w H h)(e:H a=some o):a<h.objs.size:=(x a o e).lt
theorem HOk.fresh(x:HOk P w H h)(e:h.objs.size<=a):H a=none:=by
 cases q:H a with
 |none=>rfl
 |some u=>exact absurd (A2 (x.lt q) e) (Nat.lt_irrefl _)
theorem HOk.kept(x:HOk P w H h)(k:∀b u,h.get? b=some u->h'.get? b=some u):HOk P w H h':=λa o e=>
 (x a o e).stay (λb u _ q=>k b u q) (λ_ q=>q) λ_ _ q=>q
theorem HOk.laid(x:HOk P w H h)(k:∀b u,h.get? b=some u->h'.get? b=some u)(hp:h.objs.size<=a)(new:ObjOk P w (upd H a o) h' a o):HOk P w (upd H a o) h':=λb u e=>by
 have hn:=x.fresh hp
 by_cases hb:b=a
 ·subst hb;rw[zb] at e;cases e;exact new
 ·rw[zc hb] at e
  exact(x b u e).stay (λc v _ q=>k c v q) (λc q=>by rw[zc (zi q hn)];exact q) λc xs q=>by rw[zc (zi q hn)];exact q
end
def Rd(H:Hp)(a:Addr)(u:HO):Prop:=H a=some u\/∃o,H a=some (.frz o u)
theorem Rd.ok{w:World}{u:HO}(r:Rd H a u)(x:HOk P w H h):ObjOk P w H h a u:=by
 rcases r with r|⟨o,r⟩
 ·exact x a u r
 ·obtain ⟨_,q⟩:=x a _ r
  exact q
def Mut:Option HO->Prop
 |some (.lst _)=>True
 |some (.dK _)=>True
 |some (.dT _)=>True
 |some (.set _ _)=>True
 |some (.ins _ _ _)=>True
 |some (.ext _)=>True
 |_=>False
section
variable{w:World}{x e:Addr}{o':HO}
theorem HOk.write(ok:HOk P w H h)(mu:Mut (H x))(he:e=x\/H e=some (.own x))(k:∀b u,b≠e->h.get? b=some u->h'.get? b=some u)(heo:∃u,h'.get? e=some u)
 (new:ObjOk P w (upd H x o') h' x o'):HOk P w (upd H x o') h':=λb u q=>by
 have nown:∀c y,H c=some (.own y)->c≠x:=λc y r z=>by subst z;rw[r] at mu;exact mu
 have ntup:∀c xs,H c=some (.tup xs)->c≠x:=λc xs r z=>by subst z;rw[r] at mu;exact mu
 by_cases hb:b=x
 ·subst hb;rw[zb] at q;cases q;exact new
 ·rw[zc hb] at q
  by_cases hbe:b=e
  ·have q':H b=some (.own x):=by
    rcases he with z|z
    ·exact absurd (hbe.trans z) hb
    ·rw[hbe];exact z
   rw[q] at q';cases q'
   obtain⟨v,hv⟩:=heo
   exact⟨v,by rw[hbe];exact hv⟩
  ·refine (ok b u q).stay (λc v hc r=>k c v ?_ r) (λc r=>by rw[zc (nown c b r)];exact r) λc xs r=>by rw[zc (ntup c xs r)];exact r
   rcases hc with rfl|hc
   ·exact hbe
   ·rintro rfl
    rcases he with z|z
    ·exact nown c b hc z
    ·rw[hc] at z;cases z;exact hb rfl
end
structure Un(fs ex:List Addr)(H H':Hp)(h h':Heap):Prop where
 keep:∀b o,h.get? b=some o->H b=none->b∉fs->b∉ex->h'.get? b=some o
 slot:∀b o,h.get? b=some o->H b=none->b∈fs->b∉ex->∃sl,h'.get? b=some {o with slots:=sl}
 free:∀b o,h.get? b=some o->H b=none->b∉ex->H' b=none
 there:∀b o,h.get? b=some o->b∉ex->∃o',h'.get? b=some o'
 tups:∀b xs,H b=some (.tup xs)->H' b=some (.tup xs)
 frzs:∀b o u,H b=some (.frz o u)->H' b=some (.frz o u)
 tbls:∀b ps,H b=some (.tbl ps)->∃more,H' b=some (.tbl (ps ++more))
variable{slot:Nat}
section
variable{fs fs' ex ex':List Addr}{h1 h2:Heap}{x e:Addr}{o:HO}
theorem Un.any(u:Un fs ex H H1 h h1){b:Addr}{ob:Obj}(q:h.get? b=some ob)(n:H b=none)(hx:b∉ex):∃sl,h1.get? b=some {ob with slots:=sl}:=by
 by_cases hb:b∈fs
 ·exact u.slot b ob q n hb hx
 ·exact ⟨ob.slots,u.keep b ob q n hb hx⟩
theorem Un.kept(k:∀b u,h.get? b=some u->h'.get? b=some u):Un fs ex H H h h':=
 ⟨λb ob q _ _ _=>k b ob q,λb ob q _ _ _=>⟨ob.slots,k b ob q⟩,λ_ _ _ n _=>n,λb ob q _=>⟨ob,k b ob q⟩,λ_ _ q=>q,λ_ _ _ q=>q,λ_ ps q=>⟨#[],by rw[q];simp⟩⟩
theorem Un.refl:Un fs ex H H h h:=Un.kept λ_ _ q=>q
theorem Un.laid(k:∀b u,h.get? b=some u->h'.get? b=some u)(hp:h.objs.size<=a)(hn:H a=none):Un fs ex H (upd H a o) h h' where
 keep:=λb u q _ _ _=>k b u q
 slot:=λb u q _ _ _=>⟨u.slots,k b u q⟩
 free:=λb u q n _=>by rw[zc (P1 (A2 (W0 q) hp))];exact n
 there:=λb u q _=>⟨u,k b u q⟩
 tups:=λb xs q=>by rw[zc (zi q hn)];exact q
 frzs:=λb u xs q=>by rw[zc (zi q hn)];exact q
 tbls:=λb ps q=>⟨#[],by rw[zc (zi q hn),q];simp⟩
theorem Un.write(mu:Mut (H x))(he:e=x\/H e=some (.own x))(k:∀b u,b≠e->h.get? b=some u->h'.get? b=some u)(heo:∃u,h'.get? e=some u):Un fs ex H (upd H x o) h h':=by
 have hx:∀b,H b=none->b≠x:=λb n z=>by subst z;rw[n] at mu;exact mu
 have hb:∀b,H b=none->b≠e:=λb n z=>by
  subst z
  rcases he with r|r
  ·exact hx b n r
  ·rw[n] at r;cases r
 have hm:∀b u,H b=some u->¬Mut (some u)->b≠x:=λb u q nm z=>by subst z;rw[q] at mu;exact nm mu
 refine⟨λb u q n _ _=>k b u (hb b n) q,λb u q n _ _=>⟨u.slots,k b u (hb b n) q⟩,λb u q n _=>by rw[zc (hx b n)];exact n,λb u q _=>?_,
  λb xs q=>by rw[zc (hm b _ q λz=>z)];exact q,λb u xs q=>by rw[zc (hm b _ q λz=>z)];exact q,λb ps q=>⟨#[],by rw[zc (hm b _ q λz=>z),q];simp⟩⟩
 by_cases hbe:b=e
 ·subst hbe;exact heo
 ·exact ⟨u,k b u hbe q⟩
end
noncomputable def trk(h:Heap)(H:Hp):List Addr:=(List.range h.objs.size).filter λa=>(H a).isSome
noncomputable def zhN(h:Heap)(H:Hp):Heap:=W.hideAll h (trk h H)
theorem zlX(h:Heap)(H:Hp):(zhN h H).objs.size=h.objs.size:=W.hideAll_size _ _
theorem zm0{b:Addr}{o:Obj}(e:h.get? b=some o)(n:H b=none):(zhN h H).get? b=some o:=
 W.hideAll_get _ e λhm=>by
  have q:(H b).isSome=true:=(J1.mp hm).2
  rw[n] at q;simp at q
theorem zpK{b:Addr}{o:Obj}(e:(zhN h H).get? b=some o):h.get? b=some o/\H b=none:=by
 have e':h.get? b=some o:=W.of_hideAll (trk h H) e
 refine⟨e',?_⟩
 cases q:H b with
 |none=>rfl
 |some x=>
  have hm:b∈trk h H:=J1.mpr ⟨E3.mpr (W0 e'),by simp[q]⟩
  have z:(zhN h H).get? b=none:=W.hideAll_none (trk h H) hm
  rw[z] at e;cases e
structure Mod(K:W.Frag)(mg:Str->Option Value)(base:Heap):Prop where
 kin:K.In base
 glob:base.Ns mainGlobals mg
 blt:∃mb,base.Ns builtinsNs mb/\∀x:Str,x≠"__name__"->mb x=bootBuiltins x
 nolimit:base.NoLimit
structure Cx where
 prog:Program
 w:World
 K:W.Frag
 mg:Str->Option Value
 base:Heap
 A:Around
 N:List Str
 s₀:Shared
 H₀:Hp
 env:Env
 outer:List Env
 stack:List Env
 ex:List Addr
 fn:Str->Bool
 calm:Bool
 pn:List (Addr×Obj)
 xe:Value->Shared->Prop
variable{N:List Str}{w:World}{X:Cx}{A:Around}{K:W.Frag}{prog:Program}{env:Env}
noncomputable def frs(l:List Env):List Addr:=l.filterMap (·.frame)
noncomputable abbrev Cx.fs(X:Cx):List Addr:=frs X.outer
variable{fs:List (Str×V)}
def Vis(sc:Scope)(x:Str):Prop:=sc.names.lookup x=some .local\/sc.names.lookup x=some .cell\/sc.names.lookup x=some .free
def Loc(sc:Scope)(x:Str):Prop:=sc.names.lookup x=some .local\/sc.names.lookup x=some .cell
def ztA(env:Env)(h:Heap)(m:Str->Option Value)(x:Str)(u:Value):Prop:=
 (env.kindOf x=some .local/\m x=some u)\/((env.kindOf x=some .cell\/env.kindOf x=some .free)/\∃c,env.cells.lookup x=some c/\h.IsCell c (some u))
structure Cx.Ok(X:Cx):Prop where
 mod:Mod X.K X.mg X.base
 kind:X.env.scope.kind= .function
 glob:X.env.globals=mainGlobals
 blt:X.env.builtins=builtinsNs
 above:X.s₀.heap.objs.size<=X.env.locals
 inj:∀x y c,X.env.cells.lookup x=some c->X.env.cells.lookup y=some c->x=y
 has:∀x,(X.env.kindOf x=some .cell\/X.env.kindOf x=some .free)->∃c,X.env.cells.lookup x=some c
 cab:∀x c,X.fn x=true->X.env.cells.lookup x=some c->X.s₀.heap.objs.size<=c
 hd:X.calm=true->X.A.handled=none
 frames:X.A.frames=some X.stack
 stk:X.stack=X.outer\/(X.stack=X.env::X.outer/\X.env.frame=some X.env.locals)
 exf:∀b∈X.ex,b≠X.env.locals/\∀x c,X.env.cells.lookup x=some c->c≠b
 bs:∀b o,X.base.get? b=some o->X.s₀.heap.get? b=some o/\X.H₀ b=none
 bsz:X.base.objs.size<=X.s₀.heap.objs.size
 noex:∀b o,X.base.get? b=some o->b∉X.ex
 exfs:∀b∈X.ex,b∉X.fs
 funs:X.s₀.heap.FunFrames X.base X.outer
 frf:∀b∈X.fs,X.H₀ b=none
structure Inv(X:Cx)(pins:List (Addr×Obj))(σ:List (Option V))(H:Hp)(s:Shared):Prop where
 ok:X.Ok
 os:s.os=X.s₀.os
 bare:AllBare s.gens
 base:Un X.fs X.ex X.H₀ H X.s₀.heap s.heap
 loc:∃m,s.heap.Ns X.env.locals m/\∀(i:Nat) (x:Str) (v:V),X.N[i]?=some x->σ[i]?=some (some v)->Vis X.env.scope x->∃u,RelV v u/\ztA X.env s.heap m x u
 cell:∀x c,X.env.cells.lookup x=some c->∃v,s.heap.IsCell c v
 free:H X.env.locals=none
 freeC:∀x c,X.env.cells.lookup x=some c->H c=none
 pin:∀p∈X.pn ++pins,s.heap.get? p.1=some p.2/\H p.1=none/\p.1≠X.env.locals/\p.1∉X.fs/\∀v,p.2.data≠ .cell v
 hok:HOk X.prog X.w H s.heap
 len:σ.length=X.N.length
section
variable{σ:List (Option V)}
theorem Cx.Ok.nofr(ok:X.Ok){b:Addr}{o:Obj}(e:X.base.get? b=some o):b∉X.fs:=λhb=>by
 have:=(ok.funs.mem hb).1
 rw[e] at this;cases this
theorem Inv.bs(I:Inv X pins σ H s):∀b o,X.base.get? b=some o->s.heap.get? b=some o/\H b=none:=λb o e=>
 ⟨I.base.keep b o (I.ok.bs b o e).1 (I.ok.bs b o e).2 (I.ok.nofr e) (I.ok.noex b o e),I.base.free b o (I.ok.bs b o e).1 (I.ok.bs b o e).2 (I.ok.noex b o e)⟩
theorem Inv.bk(I:Inv X pins σ H s):∀b o,X.base.get? b=some o->s.heap.get? b=some o:=λb o e=>(I.bs b o e).1
theorem Inv.mod(I:Inv X pins σ H s):Mod X.K X.mg X.base:=I.ok.mod
theorem Inv.kIn(I:Inv X pins σ H s):X.K.In s.heap:=I.ok.mod.kin.keeps I.bk
theorem Inv.lt(I:Inv X pins σ H s):X.env.locals<s.heap.objs.size:=let⟨_,hn,_⟩:=I.loc;hn.lt
theorem Inv.sz(I:Inv X pins σ H s):X.s₀.heap.objs.size<=s.heap.objs.size:=B2 I.ok.above (A3 I.lt)
theorem Inv.nofs(I:Inv X pins σ H s)(h:s.heap.objs.size<=a):a∉X.fs:=λhb=>by
 obtain⟨_,o,ho,_⟩:=I.ok.funs.mem hb
 exact absurd (A2 (W0 ho) (B2 I.sz h)) (Nat.lt_irrefl _)
theorem Inv.cne(I:Inv X pins σ H s):∀x c,X.env.cells.lookup x=some c->c≠X.env.locals:=λx c e z=>by
 obtain⟨v,o,ho,hd⟩:=I.cell x c e
 obtain⟨m,⟨o',es,ep,ho',hd',_⟩,_⟩:=I.loc
 rw[z,ho'] at ho;cases ho;rw[hd'] at hd;cases hd
theorem Inv.funs(I:Inv X pins σ H s):s.heap.FunFrames X.base X.outer:=by
 have all:∀(l:List Env),(∀b∈frs l,b∈X.fs)->X.s₀.heap.FunFrames X.base l->s.heap.FunFrames X.base l:=by
  intro l
  induction l with
  |nil=>intro _ _;trivial
  |cons env r ih=>
   intro hs hl
   obtain⟨hk,⟨L,o,hf,hn,ho,hd⟩,hr⟩:=hl
   have hL:L∈X.fs:=hs L (by unfold frs;rw[List.filterMap_cons,hf];exact Q0)
   obtain⟨sl,e⟩:=I.base.slot L o ho (I.ok.frf L hL) hL λz=>I.ok.exfs L z hL
   exact⟨hk,⟨L,_,hf,hn,e,hd⟩,ih (λb hb=>hs b (by unfold frs;rw[List.filterMap_cons,hf];exact V0 _ hb)) hr⟩
 exact all X.outer (λ_ hb=>hb) I.ok.funs
theorem Inv.stack(I:Inv X pins σ H s):s.heap.FunFrames X.base X.stack:=by
 rcases I.ok.stk with e|⟨e,hf⟩
 ·rw[e];exact I.funs
 ·rw[e]
  obtain⟨m,hn,_⟩:=I.loc
  refine .cons (by rw[I.ok.kind];decide) hf hn ?_ I.funs
  exact Heap.get?_none_of_le (B2 I.ok.bsz I.ok.above)
theorem Inv.stkSub(I:Inv X pins σ H s):∀b∈frs X.stack,b∈X.env.locals::X.fs:=λb hb=>by
 rcases I.ok.stk with e|⟨e,hf⟩
 ·rw[e] at hb;exact V0 _ hb
 ·rw[e] at hb
  unfold frs at hb
  rw[List.filterMap_cons,hf] at hb
  exact hb
theorem Inv.stkFree(I:Inv X pins σ H s):∀b∈frs X.stack,H b=none:=λb hb=>by
 rcases R0.mp (I.stkSub b hb)with e|hb
 ·rw[e];exact I.free
 ·obtain ⟨_,o,ho,_⟩:=I.ok.funs.mem hb
  exact I.base.free b o ho (I.ok.frf b hb) λz=>I.ok.exfs b z hb
theorem Inv.step{ch:List Addr}(I:Inv X pins σ H s)
 (hch:∀b∈ch,(b∈X.ex\/X.s₀.heap.objs.size<=b)/\b≠X.env.locals/\(∀x c,X.env.cells.lookup x=some c->c≠b)/\∀p∈X.pn ++pins,p.1≠b)
 (keep:∀b o,b≠X.env.locals->b∉X.fs->b∉ch->s.heap.get? b=some o->H b=none->h'.get? b=some o)
 (slot:∀b o,b≠X.env.locals->b∈X.fs->b∉ch->s.heap.get? b=some o->H b=none->∃sl,h'.get? b=some {o with slots:=sl}) (free:∀b o,b∉ch->s.heap.get? b=some o->H b=none->H' b=none)
 (there:∀b o,b∉ch->s.heap.get? b=some o->∃o',h'.get? b=some o')
 (tups:∀b xs,H b=some (.tup xs)->H' b=some (.tup xs)) (frzs:∀b o u,H b=some (.frz o u)->H' b=some (.frz o u)) (tbls:∀b ps,H b=some (.tbl ps)->∃more,H' b=some (.tbl (ps ++more)))
 (ns:∀m,s.heap.Ns X.env.locals m->h'.Ns X.env.locals m) (hok:HOk X.prog X.w H' h') (hg:AllBare g'):
 Inv X pins σ H' {s with heap:=h',gens:=g',drawn:=d',toks:=t'}:=by
 have neL:∀b o,X.s₀.heap.get? b=some o->b≠X.env.locals:=λb o e=>P1 (A2 (W0 e) I.ok.above)
 have neC:∀b o,X.s₀.heap.get? b=some o->b∉X.ex->b∉ch:=λb o e hx hb=>by
  rcases(hch b hb).1 with z|z
  ·exact hx z
  ·exact absurd (A2 (W0 e) z) (Nat.lt_irrefl _)
 have cellK:∀x c,X.env.cells.lookup x=some c->∀v,s.heap.IsCell c v->h'.IsCell c v:=λx c e v ⟨o,ho,hd⟩=>by
  have nch:c∉ch:=λz=>(hch c z).2.2.1 x c e rfl
  by_cases hc:c∈X.fs
  ·obtain ⟨sl,q⟩:=slot c o (I.cne x c e) hc nch ho (I.freeC x c e)
   exact⟨_,q,hd⟩
  ·exact ⟨o,keep c o (I.cne x c e) hc nch ho (I.freeC x c e),hd⟩
 refine⟨I.ok,I.os,hg,⟨λb o e n hb hx=>?_,λb o e n hb hx=>?_,λb o e n hx=>?_,λb o e hx=>?_,λb xs e=>tups b xs (I.base.tups b xs e),λb o xs e=>frzs b o xs (I.base.frzs b o xs e),λb ps e=>?_⟩,?_,λx c e=>?_,?_,λx c e=>?_,λp hp=>?_,hok,I.len⟩
 ·exact keep b o (neL b o e) hb (neC b o e hx) (I.base.keep b o e n hb hx) (I.base.free b o e n hx)
 ·obtain ⟨sl,e1⟩:=I.base.slot b o e n hb hx
  obtain⟨sl',e2⟩:=slot b _ (neL b o e) hb (neC b o e hx) e1 (I.base.free b o e n hx)
  exact⟨sl',e2⟩
 ·obtain ⟨o',e1⟩:=I.base.there b o e hx
  exact free b o' (neC b o e hx) e1 (I.base.free b o e n hx)
 ·obtain ⟨o',e1⟩:=I.base.there b o e hx
  exact there b o' (neC b o e hx) e1
 ·obtain ⟨m1,e1⟩:=I.base.tbls b ps e
  obtain⟨m2,e2⟩:=tbls b _ e1
  exact⟨m1 ++m2,by rw[e2,Array.append_assoc]⟩
 ·obtain ⟨m,hn,hl⟩:=I.loc
  refine⟨m,ns m hn,λi x v e1 e2 e3=>?_⟩
  obtain⟨u,r,l⟩:=hl i x v e1 e2 e3
  refine⟨u,r,?_⟩
  rcases l with l|⟨k,c,e,z⟩
  ·exact .inl l
  ·exact .inr ⟨k,c,e,cellK x c e _ z⟩
 ·obtain ⟨v,z⟩:=I.cell x c e
  exact⟨v,cellK x c e v z⟩
 ·obtain ⟨m,⟨o,_,_,ho,_⟩,_⟩:=I.loc
  exact free _ o (λz=>(hch _ z).2.1 rfl) ho I.free
 ·obtain ⟨v,o,ho,hd⟩:=I.cell x c e
  exact free c o (λz=>(hch c z).2.2.1 x c e rfl) ho (I.freeC x c e)
 ·obtain ⟨e,n,ne,nf,d⟩:=I.pin p hp
  have nch:p.1∉ch:=λz=>(hch p.1 z).2.2.2 p hp rfl
  exact⟨keep p.1 p.2 ne nf nch e n,free p.1 p.2 nch e n,ne,nf,d⟩
theorem Inv.un(I:Inv X pins σ H s)(u:Un X.fs [] H H' s.heap h')(hok:HOk X.prog X.w H' h'):Inv X pins σ H' {s with heap:=h',toks:=t'}:=by
 obtain⟨m,⟨o,es,ep,ho,r⟩,_⟩:=id I.loc
 obtain⟨sl,hL⟩:=u.any ho I.free `j3
 exact I.step (g':=s.gens) (d':=s.drawn) (ch:=[]) (λ_ z=>nomatch z) (λb o _ hb _ e n=>u.keep b o e n hb `j3) (λb o _ hb _ e n=>u.slot b o e n hb `j3) (λb o _ e n=>u.free b o e n `j3) (λb o _ e=>u.there b o e `j3) u.tups u.frzs u.tbls (λm' hm=>by
  obtain⟨o',es',ep',ho',r'⟩:=hm
  rw[ho] at ho';cases ho'
  exact⟨_,es',ep',hL,r'⟩) hok I.bare
theorem Inv.call{ch:List Addr}(I:Inv X pins σ H s)(u:Un (frs X.stack) ch H H' s.heap h')(hok:HOk X.prog X.w H' h')(hg:AllBare g')
 (hch:∀b∈ch,(b∈X.ex\/X.s₀.heap.objs.size<=b)/\b≠X.env.locals/\(∀x c,X.env.cells.lookup x=some c->c≠b)/\∀p∈X.pn ++pins,p.1≠b):
 Inv X pins σ H' {s with heap:=h',gens:=g',drawn:=d',toks:=t'}:=by
 obtain⟨m,⟨o,es,ep,ho,r⟩,_⟩:=id I.loc
 obtain⟨sl,hL⟩:=u.any ho I.free λz=>(hch _ z).2.1 rfl
 exact I.step (ch:=ch) hch (λb o hL hb hc e n=>u.keep b o e n (λz=>(R0.mp (I.stkSub b z)).elim hL hb) hc) (λb o _ _ hc e n=>u.any e n hc) (λb o hc e n=>u.free b o e n hc) (λb o hc e=>u.there b o e hc) u.tups u.frzs u.tbls (λm' hm=>by
  obtain⟨o',es',ep',ho',r'⟩:=hm
  rw[ho] at ho';cases ho'
  exact⟨_,es',ep',hL,r'⟩) hok hg
theorem Inv.turned(I:Inv X pins σ H s)(k:∀b o,b≠it->s.heap.get? b=some o->h'.get? b=some o)(hn:H it=none)(hL:it≠X.env.locals)
 (h1:it∈X.ex\/X.s₀.heap.objs.size<=it) (h2:∀x c,X.env.cells.lookup x=some c->c≠it) (h3:∀p∈X.pn ++pins,p.1≠it):Inv X pins σ H {s with heap:=h',toks:=t'}:=by
 have nit:∀b u,H b=some u->b≠it:=λb u e z=>by rw[z,hn] at e;cases e
 refine I.step (g':=s.gens) (d':=s.drawn) (ch:=[it]) (λb hb=>?_) (λb o _ _ hc e _=>k b o (λz=>hc (by simp[z])) e) (λb o _ _ hc e _=>⟨o.slots,k b o (λz=>hc (by simp[z])) e⟩) (λ_ _ _ _ n=>n)
  (λb o hc e=>⟨o,k b o (λz=>hc (by simp[z])) e⟩) (λ_ _ e=>e) (λ_ _ _ e=>e) (λb ps e=>⟨#[],by rw[e];simp⟩) (λm hm=>?_) (λb u e=>?_) I.bare
 ·have e:b=it:=by simpa using hb
  subst e
  exact⟨h1,hL,h2,h3⟩
 ·obtain ⟨o,es,ep,ho,r⟩:=hm
  exact⟨o,es,ep,k _ o (Ne.symm hL) ho,r⟩
 ·refine (I.hok b u e).stay (λc v hc q=>k c v ?_ q) (λ_ q=>q) λ_ _ q=>q
  rcases hc with z|z
  ·rw[z];exact nit b u e
  ·exact nit c _ z
theorem Inv.tok(I:Inv X pins σ H s)(t:Nat):Inv X pins σ H {s with toks:=t}:=I.un (h':=s.heap) (t':=t) Un.refl I.hok
theorem Inv.kept(I:Inv X pins σ H s)(k:∀b u,s.heap.get? b=some u->h'.get? b=some u):Inv X pins σ H {s with heap:=h',toks:=t'}:=I.un (Un.kept k) (I.hok.kept k)
theorem Inv.laid{o:HO}(I:Inv X pins σ H s)(k:∀b u,s.heap.get? b=some u->h'.get? b=some u)(hp:s.heap.objs.size<=a)(new:ObjOk X.prog X.w (upd H a o) h' a o):
 Inv X pins σ (upd H a o) {s with heap:=h',toks:=t'}:=I.un (Un.laid k hp (I.hok.fresh hp)) (I.hok.laid k hp new)
theorem Inv.write{x e:Addr}{o:HO}(I:Inv X pins σ H s)(mu:Mut (H x))(he:e=x\/H e=some (.own x))(k:∀b u,b≠e->s.heap.get? b=some u->h'.get? b=some u)(heo:∃u,h'.get? e=some u)
 (new:ObjOk X.prog X.w (upd H x o) h' x o):Inv X pins σ (upd H x o) {s with heap:=h',toks:=t'}:=I.un (Un.write mu he k heo) (I.hok.write mu he k heo new)
theorem Inv.pins_of{pins':List (Addr×Obj)}(I:Inv X pins σ H s)(h:∀p∈pins',s.heap.get? p.1=some p.2/\H p.1=none/\p.1≠X.env.locals/\p.1∉X.fs/\∀v,p.2.data≠ .cell v):Inv X pins' σ H s:=
 ⟨I.ok,I.os,I.bare,I.base,I.loc,I.cell,I.free,I.freeC,λp hp=>(F1.mp hp).elim (λz=>I.pin p (W1 _ z)) (h p),I.hok,I.len⟩
theorem zja(hN:N.Nodup)(a:N[i]?=some x)(b:N[j]?=some x):i=j:=by
 obtain⟨h1,e1⟩:=List.getElem?_eq_some_iff.mp a
 obtain⟨h2,e2⟩:=List.getElem?_eq_some_iff.mp b
 exact(List.getElem_inj hN).mp (e1.trans e2.symm)
theorem zmi{Q:Unit->Shared->Prop}(I:Inv X pins σ H s)(hN:X.N.Nodup)(hi:X.N[i]?=some x)(hx:Loc X.env.scope x)(r:RelV v u)
 (h:∀s',Inv X pins (σ.set i (some v)) H s'->(∃a,Heap.SameBut a s.heap s'.heap/\(a=X.env.locals\/X.env.cells.lookup x=some a))->Q Unit.unit s') (hf:autoParam (X.fn x=true\/X.env.scope.names.lookup x=some .local) v5):wpAny M A (storeName X.env x u) Q E s:=by
 obtain⟨m,hn,hl⟩:=id I.loc
 have hcls:(X.env.scope.kind== .class||(X.env.scope.kind== .module&&X.env.locals !=X.env.globals))=false:=by rw[I.ok.kind];rfl
 have hiσ:i<σ.length:=by rw[I.len];exact(List.getElem?_eq_some_iff.mp hi).1
 have cne:=I.cne
 have tracked:∀{a:Addr} {h':Heap},(∃o,s.heap.get? a=some o/\H a=none)->Heap.SameBut a s.heap h'->HOk X.prog X.w H h':=λ{a h'} ha hs b ob e=>by
  obtain⟨_,_,hfree⟩:=ha
  refine(I.hok b ob e).stay (λc w' hc q=>(hs.2 c ?_).trans q) (λ_ q=>q) λ_ _ q=>q
  rintro rfl
  rcases hc with rfl|hc
  ·rw[hfree] at e;cases e
  ·rw[hfree] at hc;cases hc
 rcases hx with hk|hk
 ·refine wpAny_storeName_local hk hn (λh' hn' hs=>?_) hcls
  obtain⟨oL,_,_,hoL,_⟩:=id hn
  refine h _ ⟨I.ok,I.os,I.bare,⟨λb o e n hb hx=>?_,λb o e n hb hx=>?_,I.base.free,λb o e hx=>?_,I.base.tups,I.base.frzs,I.base.tbls⟩,⟨_,hn',λj y v' e1 e2 e3=>?_⟩,λy c e=>?_,I.free,I.freeC,λp hp=>?_,tracked ⟨oL,hoL,I.free⟩ hs,by simpa using I.len⟩ ⟨_,hs, .inl rfl⟩
  ·exact (hs.2 b (P1 (A2 (W0 e) I.ok.above))).trans (I.base.keep b o e n hb hx)
  ·obtain ⟨sl,e1⟩:=I.base.slot b o e n hb hx
   exact⟨sl,(hs.2 b (P1 (A2 (W0 e) I.ok.above))).trans e1⟩
  ·obtain ⟨o',e1⟩:=I.base.there b o e hx
   exact⟨o',(hs.2 b (P1 (A2 (W0 e) I.ok.above))).trans e1⟩
  ·by_cases hj:j=i
   ·subst hj
    rw[hi] at e1;cases e1
    rw[List.getElem?_set_self hiσ] at e2
    cases e2
    exact⟨u,r, .inl ⟨hk,`j3⟩⟩
   ·rw[List.getElem?_set_ne (Ne.symm hj)] at e2
    obtain⟨u',r',q⟩:=hl j y v' e1 e2 e3
    refine⟨u',r',?_⟩
    rcases q with⟨k,e⟩|⟨k,c,e,z⟩
    ·refine .inl ⟨k,?_⟩
     have:y≠x:=λe=>hj (zja hN e1 (e▸hi))
     simp[this,e]
    ·exact .inr ⟨k,c,e,z.sameBut hs (cne y c e)⟩
  ·obtain ⟨w',z⟩:=I.cell y c e
   exact⟨w',z.sameBut hs (cne y c e)⟩
  ·obtain ⟨e,n,ne,nf,d⟩:=I.pin p hp
   exact⟨(hs.2 p.1 ne).trans e,n,ne,nf,d⟩
 ·have hfn:X.fn x=true:=by
   rcases hf with z|z
   ·exact z
   ·rw[z] at hk;cases hk
  obtain⟨c,hc⟩:=I.ok.has x (.inl hk)
  obtain⟨w',z⟩:=I.cell x c hc
  refine wpAny_storeName_cell I.ok.kind hk hc z (λh' hc' hs=>?_)
  obtain⟨oc,hoc,hocd⟩:=id z
  refine h {s with heap:=h'} ⟨I.ok,I.os,I.bare,⟨λb o e n hb hx=>?_,λb o e n hb hx=>?_,I.base.free,λb o e hx=>?_,I.base.tups,I.base.frzs,I.base.tbls⟩,⟨m,hn.sameBut hs (Ne.symm (cne x c hc)),λj y v' e1 e2 e3=>?_⟩,λy c' e=>?_,I.free,I.freeC,λp hp=>?_,tracked ⟨oc,hoc,I.freeC x c hc⟩ hs,by simpa using I.len⟩ ⟨c,hs, .inr hc⟩
  ·exact (hs.2 b (P1 (A2 (W0 e) (I.ok.cab x c hfn hc)))).trans (I.base.keep b o e n hb hx)
  ·obtain ⟨sl,e1⟩:=I.base.slot b o e n hb hx
   exact⟨sl,(hs.2 b (P1 (A2 (W0 e) (I.ok.cab x c hfn hc)))).trans e1⟩
  ·obtain ⟨o',e1⟩:=I.base.there b o e hx
   exact⟨o',(hs.2 b (P1 (A2 (W0 e) (I.ok.cab x c hfn hc)))).trans e1⟩
  ·by_cases hj:j=i
   ·subst hj
    rw[hi] at e1;cases e1
    rw[List.getElem?_set_self hiσ] at e2
    cases e2
    exact⟨u,r, .inr ⟨.inl hk,c,hc,hc'⟩⟩
   ·rw[List.getElem?_set_ne (Ne.symm hj)] at e2
    obtain⟨u',r',q⟩:=hl j y v' e1 e2 e3
    refine⟨u',r',?_⟩
    rcases q with q|⟨k,c',e,z'⟩
    ·exact .inl q
    ·refine .inr ⟨k,c',e,z'.sameBut hs ?_⟩
     rintro rfl
     exact hj (zja hN e1 (I.ok.inj _ _ _ e hc▸hi))
  ·by_cases hcc:c'=c
   ·subst hcc;exact⟨_,hc'⟩
   ·obtain ⟨w2,z2⟩:=I.cell y c' e
    exact⟨w2,z2.sameBut hs hcc⟩
  ·obtain ⟨e,n,ne,nf,d⟩:=I.pin p hp
   refine⟨(hs.2 p.1 ?_).trans e,n,ne,nf,d⟩
   intro q
   rw[q,hoc] at e
   have q':oc=p.2:=o0 e
   exact d w' (by rw[←q'];exact hocd)
theorem zcI{Q:Unit->Shared->Prop}(I:Inv X pins σ H s)(hN:X.N.Nodup)(hi:X.N[i]?=some x)(hx:Loc X.env.scope x)(r:RelV v u)
 (h:∀s',Inv X pins (σ.set i (some v)) H s'->Q Unit.unit s') (hf:autoParam (X.fn x=true\/X.env.scope.names.lookup x=some .local) v5):wpAny M A (storeName X.env x u) Q E s:=
 zmi I hN hi hx r (λs' I' _=>h s' I') hf
theorem Inv.call'{ch:List Addr}(I:Inv X pins σ H s)(ho:s'.os=s.os)(u:Un (frs X.stack) ch H H' s.heap s'.heap)(hok:HOk X.prog X.w H' s'.heap)(hg:AllBare s'.gens)
 (hch:∀b∈ch,(b∈X.ex\/X.s₀.heap.objs.size<=b)/\b≠X.env.locals/\(∀x c,X.env.cells.lookup x=some c->c≠b)/\∀p∈X.pn ++pins,p.1≠b):Inv X pins σ H' s':=by
 obtain⟨h',g',d',t',o'⟩:=s'
 have e:o'=s.os:=ho
 subst e
 exact I.call (g':=g') (t':=t') (d':=d') u hok hg hch
end
noncomputable abbrev XK:=Value->Option Addr->Hp->Prop
noncomputable abbrev St:=List (Option V)
variable{σ σr:St}
noncomputable abbrev VK:=V->Hp->Prop
noncomputable abbrev TE:=St->Hp->VK->Prop
variable{te ti tl tv td tx tf:TE}{trs:List (TE×TE)}
noncomputable abbrev TT:=St->Hp->(Bool->Hp->Prop)->Prop
variable{tc tc2:TT}
noncomputable abbrev TA:=St->Hp->(List V->Hp->Prop)->Prop
variable{ta:TA}
structure Ends where
 nx:St->Hp->Prop
 rt:VK
 bk:St->Hp->Prop:=λ_ _=>False
 ct:St->Hp->Prop:=λ_ _=>False
variable{ct:Value}{De:Ends}
noncomputable abbrev TS:=Ends->St->Hp->Prop
variable{tb sb:TS}
def EP(X:Cx)(pins:List (Addr×Obj))(σ:St)(Q:VK)(u:Value)(s':Shared):Prop:=∃v H',Inv X pins σ H' s'/\RelV v u/\Q v H'
def TP(X:Cx)(pins:List (Addr×Obj))(σ:St)(Q:Bool->Hp->Prop)(b:Bool)(s':Shared):Prop:=∃H',Inv X pins σ H' s'/\Q b H'
def AP(X:Cx)(pins:List (Addr×Obj))(σ:St)(Q:List V->Hp->Prop)(us:List Value)(s':Shared):Prop:=∃vs H',Inv X pins σ H' s'/\Vals vs us/\Q vs H'
def SP(X:Cx)(pins:List (Addr×Obj))(D:Ends)(f:Flow)(s':Shared):Prop:=
 match f with
 | .next=>∃σ' H',Inv X pins σ' H' s'/\D.nx σ' H'
 | .brk=>∃σ' H',Inv X pins σ' H' s'/\D.bk σ' H'
 | .cont=>∃σ' H',Inv X pins σ' H' s'/\D.ct σ' H'
 | .ret u=>∃v σ' H',Inv X pins σ' H' s'/\RelV v u/\D.rt v H'
def PE(X:Cx)(e:Expr)(t:TE):Prop:=
 ∀(pins:List (Addr×Obj)) (s:Shared) (σ:St) (H:Hp) (Q:VK),Inv X pins σ H s->t σ H Q->wpAny `W3 X.A (eval e X.env) (EP X pins σ Q) X.xe s
def PT(X:Cx)(e:Expr)(t:TT):Prop:=
 ∀(pins:List (Addr×Obj)) (s:Shared) (σ:St) (H:Hp) (Q:Bool->Hp->Prop),Inv X pins σ H s->t σ H Q->wpAny `W3 X.A (isTrue e X.env (eval e X.env)) (TP X pins σ Q) X.xe s
def PW(X:Cx)(e:Expr)(t:TT):Prop:=
 ∀(whole:Sem Value) (pins:List (Addr×Obj)) (s:Shared) (σ:St) (H:Hp) (Q:Bool->Hp->Prop),Inv X pins σ H s->t σ H Q->wpAny `W3 X.A (isTrue e X.env whole) (TP X pins σ Q) X.xe s
theorem PW.pt{t:TT}(h:PW X e t):PT X e t:=h _
variable{pt:Pos}
def PA(X:Cx)(es:List Expr)(t:TA):Prop:=
 ∀(pos:Pos) (pins:List (Addr×Obj)) (s:Shared) (σ:St) (H:Hp) (Q:List V->Hp->Prop),Inv X pins σ H s->t σ H Q->wpAny `W3 X.A (spliced (backTo pos (starEach es X.env))) (AP X pins σ Q) X.xe s
def PS(X:Cx)(st:Stmt)(t:TS):Prop:=
 ∀(pins:List (Addr×Obj)) (s:Shared) (σ:St) (H:Hp) (D:Ends),Inv X pins σ H s->t D σ H->wpAny `W3 X.A (exec st X.env) (SP X pins D) X.xe s
def PSs(X:Cx)(st:List Stmt)(t:TS):Prop:=
 ∀(pins:List (Addr×Obj)) (s:Shared) (σ:St) (H:Hp) (D:Ends),Inv X pins σ H s->t D σ H->wpAny `W3 X.A (execs st X.env) (SP X pins D) X.xe s
theorem thn{t:Sem α}{Q Q':α->Shared->Prop}(h:wpAny M A t Q E s)(hQ:∀a s,Q a s->Q' a s):wpAny M A t Q' E s:=K1 h hQ λ_ _ x=>x
section
noncomputable def zl9(i:Nat):TE:=λσ H Q=>∃v,σ[i]?=some (some v)/\Q v H
noncomputable def tC(v:V):TE:=λ_ H Q=>Q v H
theorem zn8(hN:X.N[i]?=some x)(hv:Vis X.env.scope x)(hd:autoParam ((x==("__debug__":Str))=false) v4)(hcd:autoParam ((x==("__classdict__":Str))=false) v4):PE X (.Name x pos) (zl9 i):=by
 intro pins s σ H Q I h
 obtain⟨v,e,h⟩:=h
 obtain⟨m,hn,hl⟩:=I.loc
 obtain⟨u,r,l⟩:=hl i x v hN e hv
 have fin:EP X pins σ Q u s:=⟨v,H,I,r,h⟩
 rcases l with⟨hk,hm⟩|⟨hk,c,hc,hcell⟩
 ·exact wpAny_Name (wpAny_loadName_local I.ok.kind hk hn hm fin) hd
 ·rcases hk with hk|hk
  ·exact wpAny_Name (wpAny_loadName_cell I.ok.kind hk hc hcell fin) hd
  ·exact wpAny_Name (wpAny_loadName_free I.ok.kind hk hc hcell fin hcd) hd
theorem znr{i j pos}:PE X (.Constant (.int i) j pos) (tC (.int i)):=λ_ _ _ H _ I h=>wpAny_Constant_int ⟨.int i,H,I.tok _,⟨_,rfl⟩,h⟩
theorem zqC{b j pos}:PE X (.Constant (.bool b) j pos) (tC (.bl b)):=λ_ _ _ H _ I h=>Constant_bool ⟨.bl b,H,I,rfl,h⟩
theorem zmO{j pos}:PE X (.Constant .none j pos) (tC .non):=λ_ _ _ H _ I h=>Constant_none ⟨.non,H,I,rfl,h⟩
theorem zmK{x j pos}:PE X (.Constant (.str x) j pos) (tC (.str x)):=λ_ _ _ H _ I h=>Calls.Constant_str ⟨.str x,H,I.tok _,⟨_,rfl⟩,h⟩
def Gl(X:Cx)(x:Str):Prop:=X.env.kindOf x=some .globalImplicit
theorem zkh(I:Inv X pins σ H s)(hg:Gl X x)(hm:X.mg x=some u)(h:Q u s)
 (hd:autoParam ((x==("__debug__":Str))=false) v4):wpAny `W3 X.A (eval (.Name x pos) X.env) Q E s:=
 Calls.Name_function_global I.ok.kind hg (Calls.loadGlobal_global (by rw[I.ok.glob];exact I.mod.glob.keeps I.bk) hm h) hd
theorem zdD(I:Inv X pins σ H s)(hg:Gl X x)(hm:X.mg x=none)(hv:bootBuiltins x=some u)(h:Q u s)
 (hn:autoParam (x≠"__name__") v4) (hd:autoParam ((x==("__debug__":Str))=false) v4):wpAny `W3 X.A (eval (.Name x pos) X.env) Q E s:=by
 obtain⟨mb,h1,h2⟩:=I.mod.blt
 exact Calls.Name_function_global I.ok.kind hg (Calls.loadGlobal_builtin (by rw[I.ok.glob];exact I.mod.glob.keeps I.bk) hm (by rw[I.ok.blt];exact h1.keeps I.bk) ((h2 x hn).trans hv) h) hd
theorem zo9(hg:Gl X x)(hm:X.mg x=some u)(r:RelV v u)(hd:autoParam ((x==("__debug__":Str))=false) v4):PE X (.Name x pos) (tC v):=
 λ_ _ _ H _ I h=>zkh I hg hm ⟨v,H,I,r,h⟩ hd
variable{a b:Expr}{ta tb:TE}
noncomputable def tB(t:TE):TT:=λσ H Q=>t σ H λx H1=>∃c,x= .bl c/\Q c H1
theorem zrU{t:TE}(h:PE X e t)(he:autoParam (∀whole,isTrue e X.env whole=(do let v ←whole;standAt e.pos;holding [v] (truthy v))) y4):PT X e (tB t):=by
 intro pins s σ H Q I hw
 refine isTrue_plain (thn (h pins s σ H _ I hw) λv s1 zq=>?_) (he _)
 obtain⟨x,H1,I1,r1,q1⟩:=zq
 obtain⟨d,rfl,q⟩:=q1
 cases r1
 exact wpAny_truthy_bool ⟨H1,I1,q⟩
variable{tA tB':TT}
noncomputable def zsU(t u:TT):TT:=λσ H Q=>t σ H λc H1=>if c=true then u σ H1 Q else Q false H1
noncomputable def tOr(t u:TT):TT:=λσ H Q=>t σ H λc H1=>if c=true then Q true H1 else u σ H1 Q
noncomputable def zsD(t:TT):TT:=λσ H Q=>t σ H λc H1=>Q (!c) H1
theorem zo1(ha:PT X a tA):PW X (.BoolOp .And [a] pos) tA:=by
 intro wh pins s σ H Q I h
 refine isTrue_and (thn (ha pins s σ H Q I h) λc s1 e=>?_)
 cases c with
 |true=>exact isTrue_and_nil e
 |false=>exact e
theorem zry(ha:PT X a tA):PW X (.BoolOp .Or [a] pos) tA:=by
 intro wh pins s σ H Q I h
 refine isTrue_or (thn (ha pins s σ H Q I h) λc s1 e=>?_)
 cases c with
 |false=>exact isTrue_or_nil e
 |true=>exact e
theorem zr8(ha:PT X a tA)(hb:PW X (.BoolOp .And (b::rest) pos) tB'):PW X (.BoolOp .And (a::b::rest) pos) (zsU tA tB'):=by
 intro wh pins s σ H Q I h
 refine isTrue_and (thn (ha pins s σ H _ I h) λc s1 zq=>?_)
 obtain⟨H1,I1,q1⟩:=zq
 cases c with
 |true=>exact hb wh pins s1 σ H1 Q I1 q1
 |false=>exact ⟨H1,I1,q1⟩
theorem zs9(ha:PT X a tA)(hb:PW X (.BoolOp .Or (b::rest) pos) tB'):PW X (.BoolOp .Or (a::b::rest) pos) (tOr tA tB'):=by
 intro wh pins s σ H Q I h
 refine isTrue_or (thn (ha pins s σ H _ I h) λc s1 zq=>?_)
 obtain⟨H1,I1,q1⟩:=zq
 cases c with
 |true=>exact ⟨H1,I1,q1⟩
 |false=>exact hb wh pins s1 σ H1 Q I1 q1
theorem zrZ(ha:PT X a tA):PT X (.UnaryOp .Not a pos) (zsD tA):=by
 intro pins s σ H Q I h
 exact isTrue_not (ha pins s σ H (λc H1=>Q (!c) H1) I h)
noncomputable def zqy(ta tb:TE):TE:=λσ H Q=>ta σ H λx H1=>∃c,x= .bl c/\if c=true then tb σ H1 Q else Q (.bl false) H1
noncomputable def zqQ(ta:TE):TE:=λσ H Q=>ta σ H λx H1=>∃c,x= .bl c/\Q (.bl (!c)) H1
theorem zru{op}{t:TE}(h:PE X a t):PE X (.BoolOp op [a] pos) t:=λpins s σ H Q I hw=>BoolOp_one (h pins s σ H Q I hw)
theorem zrY(ha:PE X a ta)(hb:PE X (.BoolOp .And (b::rest) pos) tb):PE X (.BoolOp .And (a::b::rest) pos) (zqy ta tb):=by
 intro pins s σ H Q I h
 refine BoolOp_and (thn (ha pins s σ H _ I h) λv s1 zq=>?_)
 obtain⟨x,H1,I1,r1,q1⟩:=zq
 obtain⟨c,rfl,q1⟩:=q1
 cases r1
 refine wpAny_truthy_bool ?_
 cases c with
 |true=>exact hb pins s1 σ H1 Q I1 q1
 |false=>exact ⟨.bl false,H1,I1,rfl,q1⟩
theorem zrt(ha:PE X a ta):PE X (.UnaryOp .Not a pos) (zqQ ta):=by
 intro pins s σ H Q I h
 refine UnaryOp_ (thn (ha pins s σ H _ I h) λv s1 zq=>?_)
 obtain⟨x,H1,I1,r1,q1⟩:=zq
 obtain⟨c,rfl,q1⟩:=q1
 cases r1
 exact not_of (wpAny_truthy_bool ⟨.bl (!c),H1,I1,rfl,q1⟩)
noncomputable def tIf(t:TT)(ta tb:TE):TE:=λσ H Q=>t σ H λc H1=>if c=true then ta σ H1 Q else tb σ H1 Q
theorem zmA(hc:PT X c tA)(ha:PE X a ta)(hb:PE X b tb):PE X (.IfExp c a b pos) (tIf tA ta tb):=by
 intro pins s σ H Q I h
 refine wpAny_IfExp (thn (hc pins s σ H _ I h) λd s1 zq=>?_)
 obtain⟨H1,I1,q1⟩:=zq
 cases d with
 |true=>exact ha pins s1 σ H1 Q I1 q1
 |false=>exact hb pins s1 σ H1 Q I1 q1
end
def SqL(K:W.Frag)(H:Hp)(a:Addr)(xs:List V):Prop:=
 Rd H a (.lst xs)\/
  ∃(o:Obj) (its:Array Value) (n:Nat),K.lookup a=some o/\o.cls= .type "list"/\o.dict=none/\o.data= .seq its n/\its.size<=sizeLine/\Vals xs its.toList
def SqT(K:W.Frag)(H:Hp)(a:Addr)(xs:List V):Prop:=
 Rd H a (.tup xs)\/
  ∃(o:Obj) (its:Array Value) (n:Nat),K.lookup a=some o/\o.cls= .type "tuple"/\o.data= .seq its n/\its.size<=sizeLine/\Vals xs its.toList
noncomputable def ztw:Value->Option V
 | .none=>some .non
 | .bool b=>some (.bl b)
 | .int i _=>some (.int i)
 | .str x _=>some (.str x)
 | .bytes b _=>some (.byt b)
 | .float b _=>some (.flt b)
 | .ref a=>some (.ref a)
 | .type n=>some (.ty n)
 |_=>none
theorem RelV.abs{x:V}(r:RelV x u):ztw u=some x:=by
 cases x with
 |non=>cases r;rfl
 |bl _=>cases r;rfl
 |int _=>obtain ⟨t,rfl⟩:=r;rfl
 |str _=>obtain ⟨t,rfl⟩:=r;rfl
 |byt _=>obtain ⟨t,rfl⟩:=r;rfl
 |flt _=>obtain ⟨t,rfl⟩:=r;rfl
 |ref _=>cases r;rfl
 |ty _=>cases r;rfl
theorem RelV.inj{x y:V}(r:RelV x u)(q:RelV y u):x=y:=o0 (r.abs.symm.trans q.abs)
theorem Vals.inj(h:Vals xs us)(h':Vals ys us):xs=ys:=by
 induction h generalizing ys with
 |nil=>cases h';rfl
 |cons r t ih=>
  cases h' with
  |cons r' t'=>rw[r.inj r',ih t']
theorem SqL.of(h:H a=some (.lst xs)):SqL K H a xs:= .inl (.inl h)
theorem SqT.of(h:H a=some (.tup xs)):SqT K H a xs:= .inl (.inl h)
theorem Inv.list(I:Inv X pins σ H s)(h:SqL X.K H a xs):∃its:List Value,Vals xs its/\PlainL s.heap a its.toArray/\xs.length<=sizeLine:=by
 rcases h with h|⟨o,its,n,hk,hc,hd,hs,hz,r⟩
 ·obtain ⟨z,its,n,r,e⟩:=h.ok I.hok
  exact⟨its,r,⟨_,n,e,rfl,rfl,rfl⟩,z⟩
 ·refine ⟨its.toList,r,⟨o,n,I.kIn a o hk,hc,hd,by simpa using hs⟩,?_⟩
  have e:=r.length
  simp only[C1] at e
  lia
theorem Inv.tuple(I:Inv X pins σ H s)(h:SqT X.K H a xs):∃its:List Value,Vals xs its/\IsTup s.heap a its.toArray/\xs.length<=sizeLine:=by
 rcases h with h|⟨o,its,n,hk,hc,hs,hz,r⟩
 ·obtain ⟨z,its,r,p,_⟩:=h.ok I.hok
  exact⟨its,r,p,z⟩
 ·refine ⟨its.toList,r,⟨o,I.kIn a o hk,hc,n,by simpa using hs⟩,?_⟩
  have e:=r.length
  simp only[C1] at e
  lia
theorem Inv.list_inj(I:Inv X pins σ H s)(h:SqL X.K H a xs)(h':SqL X.K H a ys):xs=ys:=by
 obtain⟨its,r,⟨o,n,e,_,_,d⟩,_⟩:=I.list h
 obtain⟨its',r',⟨o',n',e',_,_,d'⟩,_⟩:=I.list h'
 rw[e] at e';cases e'
 rw[d] at d'
 injection d' with d1 _
 have:its=its':=by simpa using congrArg Array.toList d1
 subst this
 exact r.inj r'
theorem Inv.tuple_inj(I:Inv X pins σ H s)(h:SqT X.K H a xs)(h':SqT X.K H a ys):xs=ys:=by
 obtain⟨its,r,⟨o,e,_,n,d⟩,_⟩:=I.tuple h
 obtain⟨its',r',⟨o',e',_,n',d'⟩,_⟩:=I.tuple h'
 rw[e] at e';cases e'
 rw[d] at d'
 injection d' with d1 _
 have:its=its':=by simpa using congrArg Array.toList d1
 subst this
 exact r.inj r'
abbrev Cx.wish(X:Cx)(E:Value->Shared->Prop):Cx:={X with xe:=E}
noncomputable abbrev Cx.nox(X:Cx):Cx:=X.wish λ_ _=>False
theorem Cx.Ok.wish(ok:X.Ok)(E:Value->Shared->Prop):(X.wish E).Ok:=
 ⟨ok.mod,ok.kind,ok.glob,ok.blt,ok.above,ok.inj,ok.has,ok.cab,ok.hd,ok.frames,ok.stk,ok.exf,ok.bs,ok.bsz,ok.noex,ok.exfs,ok.funs,ok.frf⟩
theorem Cx.Ok.unwish(ok:(X.wish E).Ok):X.Ok:=
 ⟨ok.mod,ok.kind,ok.glob,ok.blt,ok.above,ok.inj,ok.has,ok.cab,ok.hd,ok.frames,ok.stk,ok.exf,ok.bs,ok.bsz,ok.noex,ok.exfs,ok.funs,ok.frf⟩
theorem Inv.wish(I:Inv X pins σ H s)(E:Value->Shared->Prop):Inv (X.wish E) pins σ H s:=⟨I.ok.wish E,I.os,I.bare,I.base,I.loc,I.cell,I.free,I.freeC,I.pin,I.hok,I.len⟩
theorem Inv.unwish(I:Inv (X.wish E) pins σ H s):Inv X pins σ H s:=⟨I.ok.unwish,I.os,I.bare,I.base,I.loc,I.cell,I.free,I.freeC,I.pin,I.hok,I.len⟩
theorem SP.unwish{D:Ends}{f:Flow}(h:SP (X.wish E) pins D f s'):SP X pins D f s':=by
 cases f with
 |next=>obtain ⟨σ',H',I,q⟩:=h;exact⟨σ',H',I.unwish,q⟩
 |brk=>obtain ⟨σ',H',I,q⟩:=h;exact⟨σ',H',I.unwish,q⟩
 |cont=>obtain ⟨σ',H',I,q⟩:=h;exact⟨σ',H',I.unwish,q⟩
 |ret u=>obtain ⟨v,σ',H',I,r,q⟩:=h;exact⟨v,σ',H',I.unwish,r,q⟩
theorem PSs.nox{st:List Stmt}{t:TS}(h:PSs X.nox st t):PSs X st t:=λpins s σ H D I hw=>
 K1 (h pins s σ H D (I.wish _) hw) (λ_ _ q=>q.unwish) λ_ _ z=>False.elim z
section
variable{st:Stmt}{rest:List Stmt}{t u:TS}
noncomputable def zqw:TS:=λD σ H=>D.nx σ H
noncomputable def zsA(t u:TS):TS:=λD σ H=>t {D with nx:=u D} σ H
theorem zpC:PSs X [] zqw:=λ_ _ σ H _ I h=>wpAny_execs_nil ⟨σ,H,I,h⟩
theorem zh7(h1:PS X st t)(h2:PSs X rest u):PSs X (st::rest) (zsA t u):=by
 intro pins s σ H D I h
 refine wpAny_execs_cons (thn (h1 pins s σ H {D with nx:=u D} I h) λf s1 q=>?_)
 cases f with
 |next=>
  obtain⟨σ',H',I',q⟩:=q
  exact h2 pins s1 σ' H' D I' q
 |ret v=>exact q
 |brk=>exact q
 |cont=>exact q
theorem zp6(h1:PS X st t):PSs X [st] t:=by
 intro pins s σ H D I h
 refine wpAny_execs_cons (thn (h1 pins s σ H D I h) λf s1 q=>?_)
 cases f with
 |next=>exact wpAny_execs_nil q
 |ret v=>exact q
 |brk=>exact q
 |cont=>exact q
noncomputable def zqN:TS:=λD σ H=>D.ct σ H
theorem zig:PS X (.Continue pos) zqN:=λ_ _ σ H _ I h=>wpAny_Continue ⟨σ,H,I,h⟩
theorem Inv.quiet(I:Inv X pins σ H s):interactive X.env=false:=by simp[interactive,I.ok.kind]
noncomputable def zqV(te:TE):TS:=λD σ H=>te σ H λ_ H1=>D.nx σ H1
theorem zqf(he:PE X e te)(hs:autoParam (swapsWith e none pos.line X.env=pure false) y3):PS X (.Expr e pos) (zqV te):=by
 intro pins s σ H D I h
 refine wpAny_Expr_any (thn (he pins s σ H _ I h) λv s1 zq=>?_) I.quiet hs
 obtain⟨x,H1,I1,r1,q1⟩:=zq
 exact⟨σ,H1,I1,q1⟩
noncomputable def zto(te:TE):TS:=λD σ H=>te σ H D.rt
theorem zsy(he:PE X e te):PS X (.Return (some e) pos) (zto te):=by
 intro pins s σ H D I h
 refine wpAny_Return_some (thn (he pins s σ H _ I h) λv s1 zq=>?_)
 obtain⟨x,H1,I1,r1,q1⟩:=zq
 exact⟨x,σ,H1,I1,r1,q1⟩
noncomputable def zsR(c:TT)(t u:TS):TS:=λD σ H=>c σ H λb H1=>if b=true then t D σ H1 else u D σ H1
theorem zsB{a b:List Stmt}(hc:PT X c tc)(ha:PSs X a t)(hb:PSs X b u):PS X (.If c a b pos) (zsR tc t u):=by
 intro pins s σ H D I h
 refine wpAny_If (thn (hc pins s σ H _ I h) λd s1 zq=>?_)
 obtain⟨H1,I1,q1⟩:=zq
 cases d with
 |true=>exact ha pins s1 σ H1 D I1 q1
 |false=>exact hb pins s1 σ H1 D I1 q1
end
noncomputable abbrev TG:=V->St->Hp->(St->Hp->Prop)->Prop
variable{g2:TG}
noncomputable abbrev TGs:=List V->St->Hp->(St->Hp->Prop)->Prop
variable{tgs:TGs}
def PG(X:Cx)(target:Expr)(t:TG):Prop:=
 ∀(pins:List (Addr×Obj)) (s:Shared) (σ:St) (H:Hp) (v:V) (u:Value) (Q:St->Hp->Prop),Inv X pins σ H s->RelV v u->t v σ H Q->
  wpAny `W3 X.A (assign target X.env u) (λ_ s'=>∃σ' H',Inv X pins σ' H' s'/\Q σ' H') X.xe s
def PGs(X:Cx)(ts:List Expr)(t:TGs):Prop:=
 ∀(pins:List (Addr×Obj)) (s:Shared) (σ:St) (H:Hp) (vs:List V) (us:List Value) (Q:St->Hp->Prop),Inv X pins σ H s->Vals vs us->t vs σ H Q->
  wpAny `W3 X.A (assignInOrder ((assignEach ts X.env).map (·.2)) us) (λ_ s'=>∃σ' H',Inv X pins σ' H' s'/\Q σ' H') X.xe s
noncomputable abbrev zpH:=V->V->V->Hp->(Hp->Prop)->Prop
def zrx(X:Cx)(t:zpH):Prop:=
 ∀(pins:List (Addr×Obj)) (s:Shared) (σ:St) (H:Hp) (o i v:V) (ov iv u:Value) (Q:Hp->Prop),Inv X pins σ H s->RelV o ov->RelV i iv->RelV v u->t o i v H Q->
  wpAny `W3 X.A (setItem ov iv u) (λ_ s'=>∃H',Inv X pins σ H' s'/\Q H') X.xe s
noncomputable def zay(i:Nat):TG:=λv σ H Q=>Q (σ.set i (some v)) H
theorem zkn(hN:X.N.Nodup)(hi:X.N[i]?=some x)(hx:Loc X.env.scope x)(hf:autoParam (X.fn x=true\/X.env.scope.names.lookup x=some .local) v5):PG X (.Name x pos) (zay i):=by
 intro pins s σ H v u Q I r h
 exact wpAny_assign_Name (zcI I hN hi hx r (λs' I'=>⟨_,H,I',h⟩) hf)
noncomputable def ztk:TGs:=λvs σ H Q=>vs=[]/\Q σ H
noncomputable def zqS(t:TG)(u:TGs):TGs:=λvs σ H Q=>∃v r,vs=v::r/\t v σ H λσ' H'=>u r σ' H' Q
theorem zoR:PGs X [] ztk:=by
 intro pins s σ H vs us Q I r h
 obtain⟨e,h⟩:=h
 subst e
 cases r
 exact assignInOrder_nil ⟨σ,H,I,h⟩
theorem zoo{t:TG}{u:TGs}(h1:PG X e t)(h2:PGs X es u)
 (hs:autoParam ((assignEach (e::es) X.env).map (·.2)=assign e X.env::(assignEach es X.env).map (·.2)) y3):PGs X (e::es) (zqS t u):=by
 intro pins s σ H vs us Q I r h
 obtain⟨v,vr,e1,h⟩:=h
 subst e1
 cases r with
 |cons r rr=>
  rw[hs]
  refine assignInOrder_cons (thn (h1 pins s σ H _ _ _ I r h) λ_ s1 zq=>?_)
  obtain⟨σ1,H1,I1,q1⟩:=zq
  exact h2 pins s1 σ1 H1 _ _ Q I1 rr q1
noncomputable def zso(K:W.Frag)(n:Nat)(t:TGs):TG:=λv σ H Q=>∃a xs,v= .ref a/\SqT K H a xs/\xs.length=n/\t xs σ H Q
theorem zsu{k:Nat}{t:TGs}(hc:X.calm=true)(h:PGs X es t)
 (hn:autoParam ((assignEach es X.env).length=n) y3) (hst:autoParam ((assignEach es X.env).findIdx? (·.1)=none) y3):PG X (.Tuple es k pos) (zso X.K n t):=by
 intro pins s σ H v u Q I r hw
 obtain⟨a,xs,e1,hq,hl,hw⟩:=hw
 subst e1
 cases r
 obtain⟨its,rv,ht,hz⟩:=I.tuple hq
 refine assign_Tuple_tuple (I.ok.hd hc) ht (by simp[hn,←hl,rv.length]) hst λh' hx=>?_
 have I1:Inv X pins σ H {s with heap:=h'}:=I.kept (t':=s.toks) λb o e=>hx b o (P1 (W0 e)) e
 exact h pins _ σ H xs _ Q I1 (by simpa using rv) hw
noncomputable def zsW(to ti:TE)(t:zpH):TG:=λv σ H Q=>to σ H λo H1=>ti σ H1 λi H2=>t o i v H2 λH3=>Q σ H3
theorem zq4{o i:Expr}{to:TE}{t:zpH}(ho:PE X o to)(hi:PE X i ti)(hs:zrx X t)
 (ha:autoParam (∀v,assign (.Subscript o i pos) X.env v=(do
   let ov ←holding [v] (eval o X.env)
   let iv ←holding [v,ov] (eval i X.env)
   standAt pos
   holding [v,ov,iv] (setItem ov iv v)
   release [v,ov,iv] [])) y4):PG X (.Subscript o i pos) (zsW to ti t):=by
 intro pins s σ H v u Q I r h
 rw[ha]
 refine A0 (O2 (thn (ho pins s σ H _ I h) λov s1 zq=>?_))
 obtain⟨x,H1,I1,r1,q1⟩:=zq
 refine A0 (O2 (thn (hi pins s1 σ H1 _ I1 q1) λiv s2 zq=>?_))
 obtain⟨y,H2,I2,r2,q2⟩:=zq
 refine A0 (J3 (A0 (O2 (thn (hs pins s2 σ H2 x y v ov iv u _ I2 r1 r2 r q2) λ_ s3 zq=>?_))))
 obtain⟨H3,I3,q3⟩:=zq
 exact wpAny_release ⟨σ,H3,I3,q3⟩
noncomputable def zj1(te:TE)(g:TG):TS:=λD σ H=>te σ H λx H1=>g x σ H1 D.nx
theorem zri{g:TG}(he:PE X e te)(hg:PG X tg g)(hs:autoParam (swapsWithSole [tg] e pos.line X.env=pure false) y3)(hw:autoParam (swappedStores [tg] e X.env=pure none) y3)
 (h1:autoParam ((assignEach [tg] X.env).map (·.2)=[assign tg X.env]) y3):PS X (.Assign [tg] e pos) (zj1 te g):=by
 intro pins s σ H D I h
 refine wpAny_Assign_stores (thn (he pins s σ H _ I h) λv s1 zq=>?_) hs hw
 obtain⟨x,H1,I1,r1,q1⟩:=zq
 rw[h1]
 exact thn (hg pins s1 σ H1 x v _ I1 r1 q1) λ_ s2 q=>q
theorem znb(hN:X.N.Nodup)(hi:X.N[i]?=some x)(hx:Loc X.env.scope x)(he:PE X e te)(hs:autoParam (swapsWith e (some (.Name x pos')) pos.line X.env=pure false) y3)(hf:autoParam (X.fn x=true\/X.env.scope.names.lookup x=some .local) v5):
 PS X (.Assign [.Name x pos'] e pos) (zj1 te (zay i)):=by
 intro pins s σ H D I h
 refine wpAny_Assign_Name (thn (he pins s σ H _ I h) λv s1 zq=>?_) hs
 obtain⟨y,H1,I1,r1,q1⟩:=zq
 exact zcI I1 hN hi hx r1 (λs2 I2=>⟨_,H1,I2,q1⟩) hf
noncomputable def ztc(i j:Nat)(ta:TA):TS:=λD σ H=>ta σ H λvs H1=>∃v w,vs=[v,w]/\D.nx ((σ.set i (some v)).set j (some w)) H1
theorem zrv{a b:Expr}{kt k2 pt2}(hc:X.calm=true)(hN:X.N.Nodup)(hi:X.N[i]?=some x)(hj:X.N[j]?=some y)(hij:i≠j)
 (hx:X.env.scope.names.lookup x=some .local) (hy:X.env.scope.names.lookup y=some .local) (ha:PA X [a,b] ta)
 (hw:swappedStores [.Tuple [.Name x px, .Name y py] kt pt] (.Tuple [a,b] k2 pt2) X.env=pure (some [x,y]))
 (hs:autoParam (swapsWithSole [.Tuple [.Name x px, .Name y py] kt pt] (.Tuple [a,b] k2 pt2) pos.line X.env=pure false) y3):
 PS X (.Assign [.Tuple [.Name x px, .Name y py] kt pt] (.Tuple [a,b] k2 pt2) pos) (ztc i j ta):=by
 intro pins s σ H D I h
 rw[exec_Assign_arm]
 refine A0 (J3 ?_)
 rw[hs]
 refine A0 (F0 ?_)
 rw[P0 ⋯]
 refine A0 (Tuple_ (thn (ha _ pins s σ H _ I h) λus s1 zq=>?_))
 obtain⟨vs,H1,I1,r1,q1⟩:=zq
 obtain⟨v,w,e1,q1⟩:=q1
 subst e1
 obtain⟨u1,u2,rfl,rv,rw'⟩:∃u1 u2,us=[u1,u2]/\RelV v u1/\RelV w u2:=by
  cases r1 with
  |cons p q=>
   cases q with
   |cons p' q'=>
    cases q'
    exact⟨_,_,rfl,p,p'⟩
 refine j1 ?_ (by show 2<=sizeLine;decide)
 have I2:Inv X pins σ H1 {s1 with heap:=s1.heap.push {cls:= .type "tuple",data:= .seq [u1,u2].toArray}}:=I1.kept (t':=s1.toks) λb o e=>G0 _ e
 rw[hw]
 refine A0 (F0 ?_)
 show wpAny `W3 X.A (do rule "assign.swapped-stores";let items ←unpackItems (.ref s1.heap.objs.size) 2 none;assignInOrder [λv=>bindName X.env y v,λv=>bindName X.env x v] items.reverse;pure Flow.next) _ _ _
 refine A0 (wpAny_rule (A0 (unpackItems_tuple (items:= #[u1,u2]) (I.ok.hd hc) (IsTup.new s1.heap _) λh' hx'=>?_)))
 have I3:=I2.kept (h':=h') (t':=s1.toks) λb o e=>hx' b o (P1 (W0 e)) e
 show wpAny _ _ (assignInOrder [λv=>bindName X.env y v,λv=>bindName X.env x v] [u2,u1]>>=λ_=>pure Flow.next) _ _ _
 refine A0 (assignInOrder_cons (wpAny_bindName (zcI I3 hN hj (.inl hy) rw' (λs2 I4=>?_) (.inr hy))))
 refine assignInOrder_cons (wpAny_bindName (zcI I4 hN hi (.inl hx) rv (λs3 I5=>assignInOrder_nil (F0 ?_)) (.inr hx)))
 rw[List.set_comm _ _ (Ne.symm hij)] at I5
 exact⟨_,H1,I5,q1⟩
noncomputable def znq(c:TT)(tb:TS):TS:=λD σ H=>∃W:Nat->St->Hp->Prop,(∃m,W m σ H)/\∀m σ H,W m σ H->
 c σ H λb H1=>if b=true then∃N:St->Hp->Prop,(∀σ' H',N σ' H'->∃m',m'<m/\W m' σ' H')/\tb {D with nx:=N,ct:=N,bk:=D.nx} σ H1 else D.nx σ H1
theorem zoe(hp:PassesOwn `W3 X.A X.env X.xe)(hc:PT X c tc)(hb:PSs X body tb):PS X (.While c body [] pos) (znq tc tb):=by
 intro pins s σ H D I h
 obtain⟨W,⟨m0,w0⟩,turn⟩:=h
 refine wpAny_While (codeAny_whileLoop (λn s'=>∃σ' H',Inv X pins σ' H' s'/\W n σ' H') ?_ m0 ⟨σ,H,I,w0⟩)
 rintro n s1 ⟨σ1,H1,I1,w1⟩
 refine wpAny_passesOwn hp (thn (hc pins s1 σ1 H1 _ I1 (turn n σ1 H1 w1)) λb s2 zq=>?_)
 obtain⟨H2,I2,q2⟩:=zq
 cases b with
 |true=>
  obtain⟨N,hN,q2⟩:=q2
  rw[c0 rfl]
  refine wpAny_passesOwn hp (thn (hb pins s2 σ1 H2 _ I2 q2) λf s3 q3=>?_)
  cases f with
  |next=>
   obtain⟨σ3,H3,I3,n3⟩:=q3
   obtain⟨m',hm,w3⟩:=hN σ3 H3 n3
   exact⟨m',hm,σ3,H3,I3,w3⟩
  |cont=>
   obtain⟨σ3,H3,I3,n3⟩:=q3
   obtain⟨m',hm,w3⟩:=hN σ3 H3 n3
   exact⟨m',hm,σ3,H3,I3,w3⟩
  |brk=>exact q3
  |ret v=>exact q3
 |false=>
  rw[P0 O1]
  exact wpAny_execs_nil ⟨σ1,H2,I2,q2⟩
structure It where
 go:Nat->Hp->Prop
 yld:Nat->Hp->V->Hp->Prop
 stop:Nat->Hp->Prop
variable{J:It}
def zb4(X:Cx)(pins:List (Addr×Obj))(H:Hp)(b:Addr):Prop:=
 H b=none/\b≠X.env.locals/\b∉X.fs/\(b∈X.ex\/X.s₀.heap.objs.size<=b)/\(∀x c,X.env.cells.lookup x=some c->c≠b)/\∀p∈X.pn ++pins,p.1≠b
theorem Inv.fpOk{b:Addr}(I:Inv X pins σ H s)(hb:s.heap.objs.size<=b)(hn:H' b=none):zb4 X pins H' b:=by
 refine⟨hn,Nat.ne_of_gt (A2 I.lt hb),I.nofs hb, .inr (B2 I.sz hb),λx c e z=>?_,λp hp z=>?_⟩
 ·obtain ⟨v,q⟩:=I.cell x c e
  exact absurd (A2 q.lt (by rw[z];exact hb)) (Nat.lt_irrefl _)
 ·exact absurd (A2 (W0 (I.pin p hp).1) (by rw[z];exact hb)) (Nat.lt_irrefl _)
structure Turn(P:Program)(w:World)(K:W.Frag)(tg:Expr)(J:It)(fp:List Addr)(it:Addr)(tn:Nat->Heap->Prop):Prop where
 mem:it∈fp
 obj:∀i h,tn i h->∀b∈fp,∃o,h.get? b=some o/\∀v,o.data≠ .cell v
 keep:∀i h h',tn i h->(∀b∈fp,∀o,h.get? b=some o->h'.get? b=some o)->tn i h'
 item:∀(X:Cx),X.prog=P->X.w=w->X.K=K->X.calm=true->∀(i:Nat) (pins:List (Addr×Obj)) (s:Shared) (σ:St) (H:Hp) (E:Value->Shared->Prop),Inv X pins σ H s->(∀b∈fp,zb4 X pins H b)->tn i s.heap->J.go i H->
  wpAny (model P w) X.A (pyNext (.ref it)) (λr s1=>∃u,r=some u/\
   wpAny (model P w) X.A (letOwnedTupleGo tg (.ref it) u) (λ_ s2=>∃x H',Inv X pins σ H' s2/\RelV x u/\J.yld i H x H'/\tn (i+1) s2.heap/\∀b∈fp,H' b=none) E s1) E s
 done:∀(X:Cx),X.prog=P->X.w=w->X.K=K->X.calm=true->∀(i:Nat) (pins:List (Addr×Obj)) (s:Shared) (σ:St) (H:Hp) (E:Value->Shared->Prop),Inv X pins σ H s->(∀b∈fp,zb4 X pins H b)->tn i s.heap->J.stop i H->
   wpAny (model P w) X.A (pyNext (.ref it)) (λr s1=>r=none/\Inv X pins σ H s1) E s
 self:∀(A:Around) (i:Nat) (s:Shared) (Q:Value->Shared->Prop) (E:Value->Shared->Prop),tn i s.heap->Q (.ref it) s->wpAny (model P w) A (pyIter (.ref it)) Q E s
noncomputable abbrev TI:=St->Hp->(It->Hp->Prop)->Prop
variable{wi wi2:TI}
def PIE(X:Cx)(pins:List (Addr×Obj))(σ:St)(tg:Expr)(R:It->Hp->Prop)(itv:Value)(s2:Shared):Prop:=
 ∃(it:Addr) (fp:List Addr) (tn:Nat->Heap->Prop) (J:It) (H':Hp),itv= .ref it/\Inv X pins σ H' s2/\Turn X.prog X.w X.K tg J fp it tn/\tn 0 s2.heap/\(∀b∈fp,zb4 X pins H' b)/\R J H'
def PI(X:Cx)(tg iter:Expr)(wi:TI):Prop:=
 ∀(pins:List (Addr×Obj)) (s:Shared) (σ:St) (H:Hp) (R:It->Hp->Prop),Inv X pins σ H s->wi σ H R->
  wpAny `W3 X.A (eval iter X.env) (λv s1=>wpAny `W3 X.A (pyIter v) (PIE X pins σ tg R) X.xe s1) X.xe s
theorem zkw{o:Obj}{n:String}{vs:Array Value}{Q:Unit->Shared->Prop}(ho:s.heap.get? it=some o)(hc:o.cls= .type n)(hd:o.data= .fields vs)
 (hn:["enumerate","zip","dict_itemiterator","dict_reverseitemiterator","odict_iterator","itertools.zip_longest","itertools.pairwise"].contains n=false) (hQ:Q Unit.unit s):wpAny M A (letOwnedTupleGo tg (.ref it) u) Q E s:=by
 unfold letOwnedTupleGo
 cases tg<;>first
  |exact F0 hQ
  |(cases u<;>first
     |exact F0 hQ
     |(refine A0 (wpAny_load ho ?_)
       rw[hc,hd]
       show wpAny M A (if(["enumerate","zip","dict_itemiterator","dict_reverseitemiterator","odict_iterator","itertools.zip_longest","itertools.pairwise"].contains n&&vs[0]?==some (rawInt _))=true then _ else _) Q E s
       rw[P0 (by intro h;rw[hn,Bool.false_and] at h;cases h)]
       exact F0 hQ))
noncomputable def Itl(K:W.Frag)(a:Addr):It:=
 ⟨λi H=>∃xs x,SqL K H a xs/\xs[i]?=some x,λi H x H'=>H'=H/\∀xs,SqL K H a xs->xs[i]?=some x,λi H=>∃xs,SqL K H a xs/\xs.length<=i⟩
noncomputable def Itt(K:W.Frag)(a:Addr):It:=
 ⟨λi H=>∃xs x,SqT K H a xs/\xs[i]?=some x,λi H x H'=>H'=H/\∀xs,SqT K H a xs->xs[i]?=some x,λi H=>∃xs,SqT K H a xs/\xs.length<=i⟩
noncomputable def Itr(lo:Int)(n:Nat):It:=⟨λi _=>i<n,λi H x H'=>H'=H/\x= .int (lo+i),λi _=>n<=i⟩
theorem zlv(a it:Addr):Turn P w K tg (Itl K a) [it] it (λi h=>h.IsListIter it a i) where
 mem:=`j3
 obj:=λi h st b hb=>by
  have e:b=it:=by simpa using hb
  subst e
  obtain⟨o,e,c,d⟩:=st
  exact⟨o,e,λv z=>by rw[d] at z;cases z⟩
 keep:=λi h h' st k=>st.at λo e=>k it `j3 o e
 item:=by
  intro X hP hw hK hc i pins s σ H E I hf st hg
  subst hP hw hK
  obtain⟨xs,x,hq,hx⟩:=hg
  obtain⟨its,rv,p,hz⟩:=I.list hq
  obtain⟨u,hu,ru⟩:=rv.get hx
  obtain⟨f0,f1,f2,f3,f4,f5⟩:=hf it `j3
  refine wpAny_pyNext_list_item st p.isList (x:=u) (by simpa using hu) λh' st' sb=>?_
  have I1:Inv X pins σ H {s with heap:=h'}:=I.turned (t':=s.toks) (λb o hb e=>(sb.2 b hb).trans e) f0 f1 f3 f4 f5
  obtain⟨o,e,c,d⟩:=id st'
  exact⟨u,rfl,zkw (s:={s with heap:=h'}) e c d ⋯ ⟨x,H,I1,ru,⟨rfl,λys hy=>by rw[I.list_inj hy hq];exact hx⟩,st',λb hb=>(hf b hb).1⟩⟩
 done:=by
   intro X hP hw hK hc i pins s σ H E I hf st hg
   subst hP hw hK
   obtain⟨xs,hq,hx⟩:=hg
   obtain⟨its,rv,p,hz⟩:=I.list hq
   obtain⟨f0,f1,f2,f3,f4,f5⟩:=hf it `j3
   have hl:=rv.length
   exact wpAny_pyNext_list_end (I.ok.hd hc) st p.isList (by simp;lia) λh' eb=>⟨rfl,I.turned (t':=s.toks) (λb o hb e=>eb b o hb e) f0 f1 f3 f4 f5⟩
 self:=λ_ _ _ _ _ st h=>wpAny_pyIter_listiter st h
theorem zjq(a it:Addr):Turn P w K tg (Itt K a) [it] it (λi h=>h.IsTupleIter it a i) where
 mem:=`j3
 obj:=λi h st b hb=>by
  have e:b=it:=by simpa using hb
  subst e
  obtain⟨o,e,c,d⟩:=st
  exact⟨o,e,λv z=>by rw[d] at z;cases z⟩
 keep:=λi h h' st k=>st.at λo e=>k it `j3 o e
 item:=by
  intro X hP hw hK hc i pins s σ H E I hf st hg
  subst hP hw hK
  obtain⟨xs,x,hq,hx⟩:=hg
  obtain⟨its,rv,p,hz⟩:=I.tuple hq
  obtain⟨u,hu,ru⟩:=rv.get hx
  obtain⟨f0,f1,f2,f3,f4,f5⟩:=hf it `j3
  refine wpAny_pyNext_tuple_item st (show s.heap.IsTuple a its.toArray from p) (x:=u) (by simpa using hu) λh' st' sb=>?_
  have I1:Inv X pins σ H {s with heap:=h'}:=I.turned (t':=s.toks) (λb o hb e=>(sb.2 b hb).trans e) f0 f1 f3 f4 f5
  obtain⟨o,e,c,d⟩:=id st'
  exact⟨u,rfl,zkw (s:={s with heap:=h'}) e c d ⋯ ⟨x,H,I1,ru,⟨rfl,λys hy=>by rw[I.tuple_inj hy hq];exact hx⟩,st',λb hb=>(hf b hb).1⟩⟩
 done:=by
   intro X hP hw hK hc i pins s σ H E I hf st hg
   subst hP hw hK
   obtain⟨xs,hq,hx⟩:=hg
   obtain⟨its,rv,p,hz⟩:=I.tuple hq
   obtain⟨f0,f1,f2,f3,f4,f5⟩:=hf it `j3
   have hl:=rv.length
   exact wpAny_pyNext_tuple_end (I.ok.hd hc) st (show s.heap.IsTuple a its.toArray from p) (by simp;lia) λh' eb=>⟨rfl,I.turned (t':=s.toks) (λb o hb e=>eb b o hb e) f0 f1 f3 f4 f5⟩
 self:=λ_ _ _ _ _ st h=>wpAny_pyIter_tupleiter st h
theorem zj3(it:Addr)(lo:Int)(n:Nat):Turn P w K tg (Itr lo n) [it] it (λi h=>IsRangeIter h it (lo+(i:Nat)*1) ((n:Int) -(i:Nat)) 1) where
 mem:=`j3
 obj:=λi h st b hb=>by
  have e:b=it:=by simpa using hb
  subst e
  exact⟨_,st,λv z=>by
   have z':Data.fields _=Data.cell v:=z
   cases z'⟩
 keep:=λi h h' st k=>k it `j3 _ st
 item:=by
  intro X hP hw hK hc i pins s σ H E I hf st hg
  subst hP hw hK
  obtain⟨f0,f1,f2,f3,f4,f5⟩:=hf it `j3
  have W:=Walks.range (prog:=X.prog) (w:=X.w) (I.ok.hd hc) it lo 1 n
  refine W.item i s _ _ hg st λv h' tk hv st' kk=>?_
  obtain⟨t,rfl⟩:=hv
  have I1:Inv X pins σ H {s with heap:=h',toks:=tk}:=I.turned (λb o hb e=>kk b o (by simpa using hb) e) f0 f1 f3 f4 f5
  refine⟨_,rfl,zkw (s:={s with heap:=h',toks:=tk}) (n:="range_iterator") st' rfl rfl ⋯ ⟨.int (lo+i),H,I1,⟨t,?_⟩,⟨rfl,rfl⟩,st',λb hb=>(hf b hb).1⟩⟩
  rw[Int.mul_one]
 done:=by
   intro X hP hw hK hc i pins s σ H E I hf st hg
   subst hP hw hK
   obtain⟨f0,f1,f2,f3,f4,f5⟩:=hf it `j3
   exact wpAny_pyNext_range_end (I.ok.hd hc) st (by have:n<=i:=hg;lia) λh' eb=>⟨rfl,I.turned (t':=s.toks) (λb o hb e=>eb b o hb e) f0 f1 f3 f4 f5⟩
 self:=λ_ _ _ _ _ st h=>wpAny_pyIter_rangeiter st h
noncomputable def zmX(K:W.Frag)(tl:TE):TI:=λσ H R=>tl σ H λx H1=>∃a,x= .ref a/\(∃xs,SqL K H1 a xs)/\R (Itl K a) H1
noncomputable def zsw(K:W.Frag)(tl:TE):TI:=λσ H R=>tl σ H λx H1=>∃a,x= .ref a/\(∃xs,SqT K H1 a xs)/\R (Itt K a) H1
theorem zpG{l:Expr}(hl:PE X l tl):PI X tg l (zmX X.K tl):=by
 intro pins s σ H R I h
 refine thn (hl pins s σ H _ I h) λv s1 zq=>?_
 obtain⟨x,H1,I1,r1,q1⟩:=zq
 obtain⟨a,e,⟨xs,hq⟩,q⟩:=q1
 subst e
 cases r1
 obtain⟨its,rv,p,hz⟩:=I1.list hq
 refine wpAny_pyIter_list p.isList ?_
 refine⟨s1.heap.objs.size,[s1.heap.objs.size],_,_,H1,rfl,I1.kept (t':=s1.toks) λb o e=>G0 _ e,zlv a _,⟨_,T0 _ rfl,rfl,rfl⟩,λb hb=>?_,q⟩
 have e:b=s1.heap.objs.size:=by simpa using hb
 subst e
 exact I1.fpOk (L0 _) (I1.hok.fresh (L0 _))
theorem zrr{l:Expr}(hl:PE X l tl):PI X tg l (zsw X.K tl):=by
 intro pins s σ H R I h
 refine thn (hl pins s σ H _ I h) λv s1 zq=>?_
 obtain⟨x,H1,I1,r1,q1⟩:=zq
 obtain⟨a,e,⟨xs,hq⟩,q⟩:=q1
 subst e
 cases r1
 obtain⟨its,rv,p,hz⟩:=I1.tuple hq
 refine wpAny_pyIter_tuple (show s1.heap.IsTuple a its.toArray from p) ?_
 refine⟨s1.heap.objs.size,[s1.heap.objs.size],_,_,H1,rfl,I1.kept (t':=s1.toks) λb o e=>G0 _ e,zjq a _,⟨_,T0 _ rfl,rfl,rfl⟩,λb hb=>?_,q⟩
 have e:b=s1.heap.objs.size:=by simpa using hb
 subst e
 exact I1.fpOk (L0 _) (I1.hok.fresh (L0 _))
theorem zi7{R:It->Hp->Prop}{lo hi:Int}{t u v:Tok}{tk:Nat}(I:Inv X pins σ H s)(h1: -(2^62)<=lo)(h2:lo<2^62)(h3: -(2^62)<=hi)(h4:hi<2^62)
 (q:R (Itr lo (hi -lo).toNat) H):wpAny `W3 X.A (pyIter (.ref s.heap.objs.size)) (PIE X pins σ tg R) E {s with heap:=s.heap.push {cls:= .type "range",data:= .fields #[.int lo t, .int hi u, .int 1 v]},toks:=tk}:=by
 refine wpAny_pyIter_range (IsRange.new ..) (small_one h1 h2 h3 h4) ?_
 have I1:Inv X pins σ H {s with heap:=s.heap.push {cls:= .type "range",data:= .fields #[.int lo t, .int hi u, .int 1 v]},toks:=tk}:=I.kept λb o e=>G0 _ e
 refine⟨(s.heap.push {cls:= .type "range",data:= .fields #[.int lo t, .int hi u, .int 1 v]}).objs.size,[(s.heap.push {cls:= .type "range",data:= .fields #[.int lo t, .int hi u, .int 1 v]}).objs.size],_,_,H,rfl,
  I1.kept (t':=tk) λb o e=>G0 _ e,zj3 _ lo (hi -lo).toNat,?_,λb hb=>?_,q⟩
 ·have e1:lo+((0:Nat):Int)*1=lo:=`j3
  have e2:(((hi -lo).toNat:Nat):Int) -((0:Nat):Int)=Builtin.Range.rangeSize lo hi 1:=by rw[rangeSize_one];split<;>lia
  show IsRangeIter _ _ (lo+((0:Nat):Int)*1) ((((hi -lo).toNat:Nat):Int) -((0:Nat):Int)) 1
  rw[e1,e2]
  exact T0 _ rfl
 ·have e:b=(s.heap.push {cls:= .type "range",data:= .fields #[.int lo t, .int hi u, .int 1 v]}).objs.size:=by simpa using hb
  subst e
  exact I1.fpOk (L0 _) (I1.hok.fresh (L0 _))
noncomputable def zqX(ta:TA):TI:=λσ H R=>ta σ H λvs H1=>∃j:Int,vs=[.int j]/\-(2^62)<=j/\j<2^62/\R (Itr 0 j.toNat) H1
noncomputable def zqG(ta:TA):TI:=λσ H R=>ta σ H λvs H1=>∃i j:Int,vs=[.int i, .int j]/\(-(2^62)<=i/\i<2^62/\-(2^62)<=j/\j<2^62)/\R (Itr i (j -i).toNat) H1
theorem zlR{a:Expr}{p:Pos}(hg:Gl X "range")(hm:X.mg "range"=none)(ha:PA X [a] ta)(hs:autoParam (starEach [a] X.env=[(false,eval a X.env)]) y3):PI X tg (.Call (.Name "range" p) [a] [] pos) (zqX ta):=by
 intro pins s σ H R I h
 refine Call_ (zdD I hg hm boot_range (PyProof.Rows.callWith_type1 (thn (ha pos pins s σ H _ I h) λus s1 zq=>?_) hs rfl))
 obtain⟨vs,H1,I1,r1,q1⟩:=zq
 obtain⟨j,e,q1,q2,q⟩:=q1
 subst e
 cases r1 with
 |cons r rr=>
  cases rr
  obtain⟨t,rfl⟩:=r
  exact call_range_1 (zi7 I1 () () q1 q2 (by simpa using q))
theorem zlC{a b:Expr}{p:Pos}(hg:Gl X "range")(hm:X.mg "range"=none)(ha:PA X [a,b] ta)(hs:autoParam (starEach [a,b] X.env=[(false,eval a X.env),(false,eval b X.env)]) y3)(hs2:autoParam (starEach [b] X.env=[(false,eval b X.env)]) y3):
 PI X tg (.Call (.Name "range" p) [a,b] [] pos) (zqG ta):=by
 intro pins s σ H R I h
 refine Call_ (zdD I hg hm boot_range (PyProof.Rows.callWith_type1 (thn (ha pos pins s σ H _ I h) λus s1 ⟨vs,H1,I1,r1,q1⟩=>?_) (by rw[hs,hs2]) (by rw[hs2];rfl)))
 obtain⟨i,j,e,⟨q1,q2,q3,q4⟩,q⟩:=q1
 subst e
 cases r1 with
 |cons r rr=>
  cases rr with
  |cons r' rr=>
   cases rr
   obtain⟨t,rfl⟩:=r
   obtain⟨t',rfl⟩:=r'
   exact call_range_2 (zi7 I1 q1 q2 q3 q4 q)
noncomputable def ztz(wi:TI)(g:TG)(tb:TS):TS:=λD σ H=>wi σ H λJ H1=>∃W:Nat->Nat->St->Hp->Prop,(∃m,W 0 m σ H1)/\∀i m σ H,W i m σ H->
 (J.stop i H/\D.nx σ H)\/(J.go i H/\∃N:St->Hp->Prop,(∀σ' H',N σ' H'->∃m',m'<m/\W (i+1) m' σ' H')/\∀x H',J.yld i H x H'->g x σ H' λσ2 H2=>tb {D with nx:=N,ct:=N,bk:=D.nx} σ2 H2)
noncomputable def zan(fp:List Addr)(h:Heap):List (Addr×Obj):=fp.filterMap λb=>(h.get? b).map λo=>(b,o)
theorem zv{b:Addr}{o:Obj}(hb:b∈fp)(e:h.get? b=some o):(b,o)∈zan fp h:=List.mem_filterMap.mpr ⟨b,hb,by rw[e];rfl⟩
theorem zlG{p:Addr×Obj}(hp:p∈zan fp h):p.1∈fp/\h.get? p.1=some p.2:=by
 obtain⟨b,hb,e⟩:=List.mem_filterMap.mp hp
 cases q:h.get? b with
 |none=>rw[q] at e;cases e
 |some o=>
  rw[q] at e
  have e':(b,o)=p:=o0 e
  subst e'
  exact⟨hb,q⟩
theorem Inv.pinned(I:Inv X pins σ H s)(hf:∀b∈fp,zb4 X pins H b)(ho:∀b∈fp,∃o,s.heap.get? b=some o/\∀v,o.data≠ .cell v):Inv X (pins ++zan fp s.heap) σ H s:=
 I.pins_of λp hp=>(F1.mp hp).elim (λz=>I.pin p (O0 _ z)) λz=>by
  obtain⟨hb,e⟩:=zlG z
  obtain⟨f0,f1,f2,_⟩:=hf p.1 hb
  obtain⟨o,e',d⟩:=ho p.1 hb
  rw[e] at e';cases e'
  exact⟨e,f0,f1,f2,d⟩
theorem Inv.unpinned{pl:List (Addr×Obj)}(I:Inv X (pins ++pl) σ H s):Inv X pins σ H s:=I.pins_of λp hp=>I.pin p (O0 _ (W1 _ hp))
theorem zrj{g:TG}(hp:PassesOwn `W3 X.A X.env X.xe)(hc:X.calm=true)(hi:PI X tg iter wi)(hg:PG X tg g)(hb:PSs X body tb)
 (hs:autoParam (∀x,foldedSetIterable iter X.env x=pure x) y4):PS X (.For tg iter body [] pos) (ztz wi g tb):=by
 intro pins s σ H D I h
 refine wpAny_For (thn (hi pins s σ H _ I h) λv s1 h1=>thn h1 λitv s2 h2=>?_) hs
 obtain⟨it,fp,tn,J,H2,e,I2,T,st2,f2,W,⟨m0,w0⟩,turn⟩:=h2
 subst e
 have stat:∀{H':Hp},(∀b∈fp,H' b=none)->∀b∈fp,zb4 X pins H' b:=λhn b hb=>⟨hn b hb,(f2 b hb).2⟩
 refine codeAny_forLoop_any (λn s'=>∃i σ' H',Inv X pins σ' H' s'/\tn i s'.heap/\(∀b∈fp,H' b=none)/\W i n σ' H') ?_ m0 ⟨0,σ,H2,I2,st2,λb hb=>(f2 b hb).1,w0⟩
 rintro n s3 ⟨i,σ3,H3,I3,st3,fr3,w3⟩
 rcases turn i n σ3 H3 w3 with⟨stop,qn⟩|⟨go,N,hN,step⟩
 ·refine wpAny_passesOwn hp (thn (T.done X rfl rfl rfl hc i pins s3 σ3 H3 X.xe I3 (stat fr3) st3 stop) λr s4 zq=>?_)
  obtain⟨hr,I4⟩:=zq
  subst hr
  exact wpAny_execs_nil ⟨σ3,H3,I4,qn⟩
 ·refine wpAny_passesOwn hp (thn (T.item X rfl rfl rfl hc i pins s3 σ3 H3 X.xe I3 (stat fr3) st3 go) λr s4 zq=>?_)
  obtain⟨u,hr,h4⟩:=zq
  subst hr
  refine wpAny_passesOwn hp (thn h4 λ_ s5 zq=>?_)
  obtain⟨x,H5,I5,r5,y5,st5,fr5⟩:=zq
  have I5':=I5.pinned (stat fr5) (T.obj _ _ st5)
  refine wpAny_passesOwn hp (thn (hg _ s5 σ3 H5 x u _ I5' r5 (step x H5 y5)) λ_ s6 zq=>?_)
  obtain⟨σ6,H6,I6,q6⟩:=zq
  refine wpAny_passesOwn hp (thn (hb _ s6 σ6 H6 _ I6 q6) λf s7 q7=>?_)
  have again:∀{σ7:St} {H7:Hp},Inv X (pins ++zan fp s5.heap) σ7 H7 s7->N σ7 H7->∃m,m<n/\∃i σ' H',Inv X pins σ' H' s7/\tn i s7.heap/\(∀b∈fp,H' b=none)/\W i m σ' H':=λ{σ7 H7} I7 n7=>by
   obtain⟨m',hm,w7⟩:=hN σ7 H7 n7
   refine⟨m',hm,i+1,σ7,H7,I7.unpinned,T.keep _ _ _ st5 λb hb o e=>(I7.pin (b,o) (O0 _ (O0 _ (zv hb e)))).1,λb hb=>?_,w7⟩
   obtain⟨o,e,d⟩:=T.obj _ _ st5 b hb
   exact(I7.pin (b,o) (O0 _ (O0 _ (zv hb e)))).2.1
  cases f with
  |next=>obtain ⟨σ7,H7,I7,n7⟩:=q7;exact again I7 n7
  |cont=>obtain ⟨σ7,H7,I7,n7⟩:=q7;exact again I7 n7
  |brk=>obtain ⟨σ7,H7,I7,q7⟩:=q7;exact⟨σ7,H7,I7.unpinned,q7⟩
  |ret v=>obtain ⟨x7,σ7,H7,I7,r7,q7⟩:=q7;exact⟨x7,σ7,H7,I7.unpinned,r7,q7⟩
noncomputable abbrev R2:=V->V->Hp->VK->Prop
def OpR(X:Cx)(f:Value->Value->Sem Value)(r:R2):Prop:=
 ∀(pins:List (Addr×Obj)) (s:Shared) (σ:St) (H:Hp) (x y:V) (v u:Value) (Q:VK),Inv X pins σ H s->RelV x v->RelV y u->r x y H Q->
  wpAny `W3 X.A (f v u) (EP X pins σ Q) X.xe s
def UnR(X:Cx)(f:Value->Sem Value)(r:V->Hp->VK->Prop):Prop:=
 ∀(pins:List (Addr×Obj)) (s:Shared) (σ:St) (H:Hp) (x:V) (v:Value) (Q:VK),Inv X pins σ H s->RelV x v->r x H Q->
  wpAny `W3 X.A (f v) (EP X pins σ Q) X.xe s
def CallR(X:Cx)(f:Value)(r:List V->Hp->VK->Prop):Prop:=
 ∀(pins:List (Addr×Obj)) (s:Shared) (σ:St) (H:Hp) (xs:List V) (us:List Value) (Q:VK),Inv X pins σ H s->Vals xs us->r xs H Q->
  wpAny `W3 X.A (call f us) (EP X pins σ Q) X.xe s
def ztG(X:Cx)(r:V->Hp->(Bool->Hp->Prop)->Prop):Prop:=
 ∀(pins:List (Addr×Obj)) (s:Shared) (σ:St) (H:Hp) (x:V) (v:Value) (Q:Bool->Hp->Prop),Inv X pins σ H s->RelV x v->r x H Q->
  wpAny `W3 X.A (truthy v) (TP X pins σ Q) X.xe s
noncomputable def tOp(r:R2)(ta tb:TE):TE:=λσ H Q=>ta σ H λx H1=>tb σ H1 λy H2=>r x y H2 Q
def tUn(r:V->Hp->VK->Prop)(ta:TE):TE:=λσ H Q=>ta σ H λx H1=>r x H1 Q
def rI(C:Int->Int->Prop)(g:Int->Int->V):R2:=λx y H Q=>∃i j,x= .int i/\y= .int j/\C i j/\Q (g i j) H
noncomputable def rI0(g:Int->Int->V):R2:=λx y H Q=>∃i j,x= .int i/\y= .int j/\Q (g i j) H
def rU(g:Int->V):V->Hp->VK->Prop:=λx H Q=>∃i,x= .int i/\Q (g i) H
section
variable{a b:Expr}{ta tb tc:TE}
theorem zsm(ha:PE X a ta)(hb:PE X b tb){R:V->V->Hp->Prop}(I:Inv X pins σ H s)
 (h:ta σ H λx H1=>tb σ H1 λy H2=>R x y H2)  {f:Value->Value->Sem Value}
 (hf:∀v u s2 x y H2,Inv X pins σ H2 s2->RelV x v->RelV y u->R x y H2->wpAny `W3 X.A (f v u) Q X.xe s2):
 wpAny `W3 X.A (eval a X.env) (λv s₁=>wpAny `W3 X.A (eval b X.env) (λu s₂=>wpAny `W3 X.A (f v u) Q X.xe s₂) X.xe s₁) X.xe s:=by
 refine thn (ha pins s σ H _ I h) λv s1 zq=>?_
 obtain⟨x,H1,I1,r1,q1⟩:=zq
 refine thn (hb pins s1 σ H1 _ I1 q1) λu s2 zq=>?_
 obtain⟨y,H2,I2,r2,q2⟩:=zq
 exact hf v u s2 x y H2 I2 r1 r2 q2
theorem zti{op:Operator}{r:R2}(ho:OpR X (binaryOp op) r)(ha:PE X a ta)(hb:PE X b tb):PE X (.BinOp a op b pos) (tOp r ta tb):=by
 intro pins s σ H Q I h
 exact wpAny_BinOp (zsm ha hb I h λv u s2 x y H2 I2 rx ry q=>ho pins s2 σ H2 x y v u Q I2 rx ry q)
theorem zsT{op:UnaryOp}{r:V->Hp->VK->Prop}(ho:UnR X (unaryOp op) r)(ha:PE X a ta):PE X (.UnaryOp op a pos) (tUn r ta):=by
 intro pins s σ H Q I h
 refine UnaryOp_ (thn (ha pins s σ H _ I h) λv s1 zq=>?_)
 obtain⟨x,H1,I1,r1,q1⟩:=zq
 exact ho pins s1 σ H1 x v Q I1 r1 q1
theorem opI{f:Value->Value->Sem Value}{C:Int->Int->Prop}{g:Int->Int->Int}
 (rule:∀(i j:Int) (t u:Tok) (s:Shared) (Q:Value->Shared->Prop) (E:Value->Shared->Prop),C i j->Q (.int (g i j) s.toks) {s with toks:=s.toks+1}->wpAny `W3 X.A (f (.int i t) (.int j u)) Q E s):
 OpR X f (rI C λi j=> .int (g i j)):=by
 intro pins s σ H x y v u Q I rx ry h
 obtain⟨i,j,rfl,rfl,hc,q⟩:=h
 obtain⟨t,rfl⟩:=rx
 obtain⟨t',rfl⟩:=ry
 exact rule i j t t' s _ _ hc ⟨.int (g i j),H,I.tok _,⟨_,rfl⟩,q⟩
theorem ztf{f:Value->Value->Sem Value}{g:Int->Int->Int}
 (rule:∀(i j:Int) (t u:Tok) (s:Shared) (Q:Value->Shared->Prop) (E:Value->Shared->Prop),Q (.int (g i j) s.toks) {s with toks:=s.toks+1}->wpAny `W3 X.A (f (.int i t) (.int j u)) Q E s):
 OpR X f (rI0 λi j=> .int (g i j)):=by
 intro pins s σ H x y v u Q I rx ry h
 obtain⟨i,j,rfl,rfl,q⟩:=h
 obtain⟨t,rfl⟩:=rx
 obtain⟨t',rfl⟩:=ry
 exact rule i j t t' s _ _ ⟨.int (g i j),H,I.tok _,⟨_,rfl⟩,q⟩
theorem zrh{f:Value->Value->Sem Value}{g:Int->Int->Bool}
 (rule:∀(i j:Int) (t u:Tok) (s:Shared) (Q:Value->Shared->Prop) (E:Value->Shared->Prop),Q (.bool (g i j)) s->wpAny `W3 X.A (f (.int i t) (.int j u)) Q E s):
 OpR X f (rI0 λi j=> .bl (g i j)):=by
 intro pins s σ H x y v u Q I rx ry h
 obtain⟨i,j,rfl,rfl,q⟩:=h
 obtain⟨t,rfl⟩:=rx
 obtain⟨t',rfl⟩:=ry
 exact rule i j t t' s _ _ ⟨.bl (g i j),H,I,rfl,q⟩
def ztH(i j:Int):Prop:=0<j/\j<1073741824
def ztB(i j:Int):Prop:=0<=j/\j<=1000000/\i.natAbs<2^64
def CMul(i j:Int):Prop:=(-(2^64)<i/\i<2^64)\/(-(2^64)<j/\j<2^64)
theorem CMul.ok{i j:Int}(h:CMul i j):IntMulOk i j:=by
 rcases h with⟨h1,h2⟩|⟨h1,h2⟩
 ·exact .of_left (intBits_le_64 h1 h2)
 ·exact .of_right (intBits_le_64 h1 h2)
theorem zaF:OpR X (binaryOp .Add) (rI0 λi j=> .int (i+j)):=ztf λ_ _ _ _ _ _ _ q=>add_int q
theorem zj2:OpR X (binaryOp .Sub) (rI0 λi j=> .int (i -j)):=ztf λ_ _ _ _ _ _ _ q=>sub_int q
theorem zbl:OpR X (binaryOp .Mult) (rI CMul λi j=> .int (i*j)):=opI λ_ _ _ _ _ _ _ hc q=>mul_int q hc.ok
theorem zhn:OpR X (binaryOp .FloorDiv) (rI ztH λi j=> .int (i/j)):=opI λi j _ _ _ _ _ hc q=>by
 have h1:(0:Int)<j:=hc.1
 have h2:j<1073741824:=hc.2
 exact floordiv_int () (by rw[Int.fdiv_eq_ediv_of_nonneg i ()];exact q) (.inl (PyProof.noPylong_small ()))
theorem zcu:OpR X (binaryOp .Mod) (rI (λ_ j=>0<j) λi j=> .int (i%j)):=opI λi j _ _ _ _ _ hc q=>by
 have h1:(0:Int)<j:=hc
 exact mod_int' () (by rw[Int.fmod_eq_emod_of_nonneg i ()];exact q)
theorem zrg:OpR X (binaryOp .Pow) (rI ztB λi j=> .int (i^j.toNat)):=opI λ_ _ _ _ _ _ _ hc q=>pow_int_small hc.1 hc.2.1 hc.2.2 q
theorem unI{f:Value->Sem Value}{g:Int->Int}
 (rule:∀(i:Int) (t:Tok) (s:Shared) (Q:Value->Shared->Prop) (E:Value->Shared->Prop),Q (.int (g i) s.toks) {s with toks:=s.toks+1}->wpAny `W3 X.A (f (.int i t)) Q E s):
 UnR X f (rU λi=> .int (g i)):=by
 intro pins s σ H x v Q I rx h
 obtain⟨i,rfl,q⟩:=h
 obtain⟨t,rfl⟩:=rx
 exact rule i t s _ _ ⟨.int (g i),H,I.tok _,⟨_,rfl⟩,q⟩
theorem zfc:UnR X (unaryOp .USub) (rU λi=> .int (-i)):=unI λ_ _ _ _ _ q=>neg_int q
end
noncomputable def zrI:V->V->Bool
 | .non, .non=>true| .non, .int _=>true| .int _, .non=>true| .non, .bl _=>true| .bl _, .non=>true| .non, .str _=>true| .str _, .non=>true
 | .int _, .int _=>true| .bl _, .bl _=>true| .str _, .str _=>true| .byt _, .byt _=>true
 | .int _, .str _=>true| .str _, .int _=>true| .bl _, .str _=>true| .str _, .bl _=>true
 |_,_=>false
noncomputable def rEq:R2:=λx y H Q=>zrI x y=true/\Q (.bl (decide (x=y))) H
noncomputable def rNe:R2:=λx y H Q=>zrI x y=true/\Q (.bl (!decide (x=y))) H
theorem zk1{i j:Int}:decide (V.int i=V.int j)=(i==j):=by
 rw[Bool.eq_iff_iff]
 simp
theorem znT{i j:Bool}:decide (V.bl i=V.bl j)=(i==j):=by
 rw[Bool.eq_iff_iff]
 simp
theorem zkC{i j:Str}:decide (V.str i=V.str j)=(i==j):=by
 rw[Bool.eq_iff_iff]
 simp
theorem zkG{i j:Array UInt8}:decide (V.byt i=V.byt j)=(i.toList==j.toList):=by
 rw[Bool.eq_iff_iff]
 cases i
 cases j
 simp
section
variable{a b:Expr}{ta tb tc:TE}
theorem zA{Q:VK}{k k':Bool}(I:Inv X pins σ H s)(q:Q (.bl k) H)(e:k=k'):EP X pins σ Q (.bool k') s:=by
 subst e
 exact⟨.bl k,H,I,rfl,q⟩
theorem zat:OpR X (compareOp .Eq) rEq:=by
 intro pins s σ H x y v u Q I rx ry h
 obtain⟨hs,q⟩:=h
 cases x with
 |non=>
  cases rx
  cases y with
  |non=>cases ry;exact EqNone.eq_none_none (zA I q `j3)
  |bl j=>cases ry;exact EqNone.eq_none_bool (zA I q `j3)
  |int j=>obtain ⟨t',rfl⟩:=ry;exact EqNone.eq_none_int (zA I q `j3)
  |str j=>obtain ⟨t',rfl⟩:=ry;exact EqNone.eq_none_str (zA I q `j3)
  |_=>exact absurd (show false=true from hs) O1
 |bl i=>
  cases rx
  cases y with
  |non=>cases ry;exact EqNone.eq_bool_none (zA I q `j3)
  |bl j=>cases ry;exact eq_bool (zA I q znT)
  |str j=>obtain ⟨t',rfl⟩:=ry;exact EqMixed.eq_bool_str (zA I q `j3)
  |_=>exact absurd (show false=true from hs) O1
 |int i=>
  obtain⟨t,rfl⟩:=rx
  cases y with
  |non=>cases ry;exact EqNone.eq_int_none (zA I q `j3)
  |int j=>obtain ⟨t',rfl⟩:=ry;exact eq_int (zA I q zk1)
  |str j=>obtain ⟨t',rfl⟩:=ry;exact EqMixed.eq_int_str (zA I q `j3)
  |_=>exact absurd (show false=true from hs) O1
 |str i=>
  obtain⟨t,rfl⟩:=rx
  cases y with
  |non=>cases ry;exact EqNone.eq_str_none (zA I q `j3)
  |bl j=>cases ry;exact EqMixed.eq_str_bool (zA I q `j3)
  |int j=>obtain ⟨t',rfl⟩:=ry;exact EqMixed.eq_str_int (zA I q `j3)
  |str j=>obtain ⟨t',rfl⟩:=ry;exact eq_str (zA I q zkC)
  |_=>exact absurd (show false=true from hs) O1
 |byt i=>
  obtain⟨t,rfl⟩:=rx
  cases y with
  |byt j=>obtain ⟨t',rfl⟩:=ry;exact W.eq_bytes (zA I q zkG)
  |_=>exact absurd (show false=true from hs) O1
 |_=>cases y<;>exact absurd (show false=true from hs) O1
theorem zkL:OpR X (compareOp .NotEq) rNe:=by
 intro pins s σ H x y v u Q I rx ry h
 obtain⟨hs,q⟩:=h
 cases x with
 |non=>
  cases rx
  cases y with
  |non=>cases ry;exact EqNone.ne_none_none (zA I q `j3)
  |bl j=>cases ry;exact EqNone.ne_none_bool (zA I q `j3)
  |int j=>obtain ⟨t',rfl⟩:=ry;exact EqNone.ne_none_int (zA I q `j3)
  |str j=>obtain ⟨t',rfl⟩:=ry;exact EqNone.ne_none_str (zA I q `j3)
  |_=>exact absurd (show false=true from hs) O1
 |bl i=>
  cases rx
  cases y with
  |non=>cases ry;exact EqNone.ne_bool_none (zA I q `j3)
  |bl j=>cases ry;exact ne_bool (zA I q (congrArg not znT))
  |str j=>obtain ⟨t',rfl⟩:=ry;exact EqMixed.ne_bool_str (zA I q `j3)
  |_=>exact absurd (show false=true from hs) O1
 |int i=>
  obtain⟨t,rfl⟩:=rx
  cases y with
  |non=>cases ry;exact EqNone.ne_int_none (zA I q `j3)
  |int j=>obtain ⟨t',rfl⟩:=ry;exact ne_int (zA I q (congrArg not zk1))
  |str j=>obtain ⟨t',rfl⟩:=ry;exact EqMixed.ne_int_str (zA I q `j3)
  |_=>exact absurd (show false=true from hs) O1
 |str i=>
  obtain⟨t,rfl⟩:=rx
  cases y with
  |non=>cases ry;exact EqNone.ne_str_none (zA I q `j3)
  |bl j=>cases ry;exact EqMixed.ne_str_bool (zA I q `j3)
  |int j=>obtain ⟨t',rfl⟩:=ry;exact EqMixed.ne_str_int (zA I q `j3)
  |str j=>obtain ⟨t',rfl⟩:=ry;exact ne_str (zA I q (congrArg not zkC))
  |_=>exact absurd (show false=true from hs) O1
 |byt i=>
  obtain⟨t,rfl⟩:=rx
  cases y with
  |byt j=>obtain ⟨t',rfl⟩:=ry;exact W.ne_bytes (zA I q (congrArg not zkG))
  |_=>exact absurd (show false=true from hs) O1
 |_=>cases y<;>exact absurd (show false=true from hs) O1
theorem zsM:OpR X (compareOp .Lt) (rI0 λi j=> .bl (decide (i<j))):=zrh λ_ _ _ _ _ _ _ q=>lt_int q
theorem zmE:OpR X (compareOp .Gt) (rI0 λi j=> .bl (decide (j<i))):=zrh λ_ _ _ _ _ _ _ q=>gt_int q
theorem zqH:OpR X (compareOp .GtE) (rI0 λi j=> .bl (decide (j<=i))):=zrh λ_ _ _ _ _ _ _ q=>ge_int q
theorem zhG:OpR X (compareOp .Is) (λx y H Q=>y= .non/\Q (.bl (decide (x= .non))) H):=by
 intro pins s σ H x y v u Q I rx ry h
 obtain⟨rfl,q⟩:=h
 cases ry
 refine is_none_gen (zA I q ?_)
 cases x<;>first
  |(cases rx;rfl)
  |(obtain⟨t,rfl⟩:=rx;rfl)
theorem zpS{r:R2}(ho:OpR X (compareOp op) r)(ha:PE X a ta)(hb:PE X b tb)(hm:behindInMarks op b=false):PE X (.Compare a [op] [b] pos) (tOp r ta tb):=by
 intro pins s σ H Q I h
 exact wpAny_Compare1 (zsm ha hb I h λv u s2 x y H2 I2 rx ry q=>ho pins s2 σ H2 x y v u Q I2 rx ry q) hm
noncomputable def zle(t:TE):TT:=λσ H Q=>t σ H λx H'=>∃k,x= .bl k/\Q k H'
theorem zpf{r:R2}(ho:OpR X (compareOp op) r)(ha:PE X a ta)(hb:PE X b tb)(hm:behindInMarks op b=false):PT X (.Compare a [op] [b] pos) (zle (tOp r ta tb)):=by
 intro pins s σ H Q I h
 refine wpAny_isTrue_Compare1 (thn (ha pins s σ H _ I h) λv s1 ⟨x,H1,I1,r1,q1⟩=>thn (hb pins s1 σ H1 _ I1 q1) λu s2 ⟨y,H2,I2,r2,q2⟩=>
  thn (ho pins s2 σ H2 x y v u _ I2 r1 r2 q2) λc s3 ⟨z,H3,I3,r3,k,e,q3⟩=>?_) hm
 subst e
 cases r3
 exact wpAny_truthy_bool ⟨H3,I3,q3⟩
def zr5(K:W.Frag)(x:V)(H:Hp)(k:Bool):Prop:=
 match x with
 | .non=>k=false
 | .bl b=>k=b
 | .int i=>k=(i !=0)
 | .str y=>y.length<=sizeLine/\k=((y.length:Int) !=0)
 | .byt y=>y.size<=sizeLine/\k=((y.size:Int) !=0)
 | .ref p=>(∃xs,SqL K H p xs/\k=!xs.isEmpty)\/(∃xs,SqT K H p xs/\k=!xs.isEmpty)\/∃kvs,H p=some (.dK kvs)/\k=!kvs.isEmpty
 |_=>False
theorem zji{kvs:List (κ×V)}{vs:List (κ×Value)}(r:KV kvs vs):(!vs.isEmpty)=!kvs.isEmpty:=by
 cases r<;>rfl
theorem zfW(r:Vals xs its):(!its.toArray.isEmpty)=!xs.isEmpty:=by
 cases r<;>simp
theorem zdy:(sizeLine:Nat)<2^63:=by rw[K3];decide
theorem zst:ztG X (λx H Q=>∃k,zr5 X.K x H k/\Q k H):=by
 intro pins s σ H x v Q I rx h
 obtain⟨k,e,q⟩:=h
 have hl:=zdy
 have hs:sizeLine=16777216:=K3
 cases x with
 |non=>
  cases rx
  have e':k=false:=e
  subst e'
  exact truthy_none ⟨H,I,q⟩
 |bl b=>
  cases rx
  have e':k=b:=e
  subst e'
  exact wpAny_truthy_bool ⟨H,I,q⟩
 |int i=>
  obtain⟨t,rfl⟩:=rx
  have e':k=(i !=0):=e
  subst e'
  exact P.truthy_int ⟨H,I,q⟩
 |str y=>
  obtain⟨t,rfl⟩:=rx
  obtain⟨hy,e'⟩:y.length<=sizeLine/\k=((y.length:Int) !=0):=e
  subst e'
  exact P.truthy_str () ⟨H,I.tok _,q⟩
 |byt y=>
  obtain⟨t,rfl⟩:=rx
  obtain⟨hy,e'⟩:y.size<=sizeLine/\k=((y.size:Int) !=0):=e
  subst e'
  exact W.truthy_bytes () ⟨H,I.tok _,q⟩
 |ref p=>
  cases rx
  have e':(∃xs,SqL X.K H p xs/\k=!xs.isEmpty)\/(∃xs,SqT X.K H p xs/\k=!xs.isEmpty)\/∃kvs,H p=some (.dK kvs)/\k=!kvs.isEmpty:=e
  rcases e' with⟨xs,hx,e'⟩|⟨xs,hx,e'⟩|⟨kvs,hx,e'⟩
  ·subst e'
   obtain⟨its,r,pl,hz⟩:=I.list hx
   have hlen:=r.length
   exact wpAny_truthy_list pl.isList (by simp only[G1];lia) ⟨H,I.tok _,by rw[zfW r];exact q⟩
  ·subst e'
   obtain⟨its,r,pl,hz⟩:=I.tuple hx
   have hlen:=r.length
   exact truthy_tuple pl (by simp only[G1];lia) ⟨H,I.tok _,by rw[zfW r];exact q⟩
  ·subst e'
   obtain⟨hz,hS,vs,r,m⟩:kvs.length<=sizeLine/\(p==sysModules)=false/\∃vs,KV kvs vs/\s.heap.DictOf (zU X.prog X.w) p vs:=I.hok p _ hx
   have hlen:kvs.length=vs.length:=Paired.length r
   exact wpAny_truthy_dict hS m () ⟨H,I.tok _,by rw[zji r];exact q⟩
 |_=>exact (show False from e).elim
theorem zn5(ha:PE X a ta)(he:∀whole,isTrue a X.env whole=(do let v ←whole;standAt a.pos;holding [v] (truthy v))):
 PT X a (λσ H Q=>ta σ H λx H'=>∃k,zr5 X.K x H' k/\Q k H'):=by
 intro pins s σ H Q I h
 refine isTrue_plain (thn (ha pins s σ H _ I h) λv s1 zq=>?_) (he _)
 obtain⟨x,H1,I1,r1,q1⟩:=zq
 exact zst pins s1 σ H1 x v Q I1 r1 q1
theorem za8{x:V}(r:Vals [x] us):∃u,us=[u]/\RelV x u:=by
 cases r with
 |cons r1 r2=>cases r2;exact⟨_,rfl,r1⟩
theorem ze8{x y:V}(r:Vals [x,y] us):∃u w',us=[u,w']/\RelV x u/\RelV y w':=by
 cases r with
 |cons r1 r2=>
  cases r2 with
  |cons r3 r4=>cases r4;exact⟨_,_,rfl,r1,r3⟩
theorem zeo(hc:X.calm=true):CallR X (.builtin "max") (λxs H Q=>∃i j,xs=[.int i, .int j]/\Q (.int (if j>i then j else i)) H):=by
 intro pins s σ H xs us Q I r h
 obtain⟨i,j,rfl,q⟩:=h
 obtain⟨u,w',rfl,⟨t,rfl⟩,⟨t',rfl⟩⟩:=ze8 r
 refine max_two_ints (I.ok.hd hc) λh' tk k=>⟨_,H,I.kept k,?_,q⟩
 by_cases hj:j>i
 ·rw[c0 hj,c0 hj];exact⟨_,rfl⟩
 ·rw[P0 hj,P0 hj];exact⟨_,rfl⟩
theorem zeA(hc:X.calm=true):CallR X (.builtin "min") (λxs H Q=>∃i j,xs=[.int i, .int j]/\Q (.int (if j<i then j else i)) H):=by
 intro pins s σ H xs us Q I r h
 obtain⟨i,j,rfl,q⟩:=h
 obtain⟨u,w',rfl,⟨t,rfl⟩,⟨t',rfl⟩⟩:=ze8 r
 refine min_two_ints (I.ok.hd hc) λh' tk k=>⟨_,H,I.kept k,?_,q⟩
 by_cases hj:j<i
 ·rw[c0 hj,c0 hj];exact⟨_,rfl⟩
 ·rw[P0 hj,P0 hj];exact⟨_,rfl⟩
theorem zeC:CallR X (.type "int") (λxs H Q=>(∃i,xs=[.int i]/\Q (.int i) H)\/∃k,xs=[.bl k]/\Q (.int (if k then 1 else 0)) H):=by
 intro pins s σ H xs us Q I r h
 rcases h with⟨i,rfl,q⟩|⟨k,rfl,q⟩
 ·obtain ⟨u,rfl,t,rfl⟩:=za8 r
  exact call_int_int ⟨.int i,H,I,⟨_,rfl⟩,q⟩
 ·obtain ⟨u,rfl,r1⟩:=za8 r
  cases r1
  exact call_int_bool ⟨.int (if k then 1 else 0),H,I.tok _,⟨_,rfl⟩,q⟩
end
structure ObjM(h:Heap)(x dx C:Addr)(mA:Str->Option Value):Prop where
 obj:h.get? x=some (W.instObj C dx)
 ns:h.Ns1 dx mA
 ne:dx≠x
section
variable{x:Addr}{mA:Str->Option Value}{v:Value}
end
theorem RelO.some_of{o:Option Value}(r:RelO (some v) o):∃u,o=some u/\RelV v u:=by
 cases o with
 |none=>exact (show False from r).elim
 |some u=>exact ⟨u,rfl,r⟩
section
variable{fs':List (Str×V)}
end
structure Cls(K:W.Frag)(C:Addr):Prop where
 pg:W.plainGet K C Str.empty=true
 hd:W.hasDictIn K C=true
 po:W.plainOver K C=true
 sa:W.findIn K (.ref C) "__setattr__"=some (some (.builtin "object.__setattr__"))
variable{sa:TS}
structure Con(K:W.Frag)(C:Addr)(f:Str)(v:V)(u:Value):Prop where
 at_:W.findIn K (.ref C) f=some (some u)
 rel:RelV v u
 get:W.specialIn K u "__get__"=some none
 cp:W.copiedNames.contains f=false
structure Meth(K:W.Frag)(C:Addr)(m:Str)(f:Addr):Prop where
 at_:W.findIn K (.ref C) m=some (some (.ref f))
 fn:W.isFn K (.ref f)=true
 kp:W.keepIn K (.ref f)=true
section
variable{f:Str}
end
section
variable{o:Expr}{f:Str}{ta:TE}
end
section
variable{c:Value}{b:Bool}
inductive TyOf(K:W.Frag)(H:Hp):V->Value->Prop where
 |non:TyOf K H .non (.type "NoneType")
 |bl (x:Bool):TyOf K H (.bl x) (.type "bool")
 |int (i:Int):TyOf K H (.int i) (.type "int")
 |str (x:Str):TyOf K H (.str x) (.type "str")
 |flt (x:UInt64):TyOf K H (.flt x) (.type "float")
 |lst {a:Addr} {xs:List V} (e:H a=some (.lst xs)):TyOf K H (.ref a) (.type "list")
 |frz {a:Addr} {o:Obj} {xs:List V} (e:H a=some (.frz o (.lst xs))):TyOf K H (.ref a) (.type "list")
 |tup {a:Addr} {xs:List V} (e:H a=some (.tup xs)):TyOf K H (.ref a) (.type "tuple")
 |dK {a:Addr} {kvs:List (Key×V)} (e:H a=some (.dK kvs)):TyOf K H (.ref a) (.type "dict")
 |dT {a:Addr} {kvs:List (List Key×V)} (e:H a=some (.dT kvs)):TyOf K H (.ref a) (.type "dict")
 |ins {a C dx:Addr} {fs:List (Str×V)} (e:H a=some (.ins C dx fs)) (cl:Cls K C) (ha:W.findIn K (.ref C) "__class__"=some (some (.builtin "object.__class__")))
   (hn:W.specialIn K (.builtin "object.__class__") "__get__"=some (some (.builtin "getset_descriptor.__get__"))) (htk:W.takesIn K (.builtin "object.__class__")=some true)
   (hm:W.mroIn K C (.type "object")=some true):TyOf K H (.ref a) (.ref C)
end
structure Room(k:Nat)(A:Around):Prop where
 hd:A.handled=none
 dp:A.depth+3*k+5<recursionLimit
 un:A.units+16*k+200<cLine
 gd:A.guards=some []
theorem Room.mono{k:Nat}(r:Room k A)(h:j<=k):Room j A:=⟨r.hd,by have:=r.dp;lia,by have:=r.un;lia,r.gd⟩
theorem Room.deeper{k:Nat}(r:Room (k+1) A)(env:Env):Room k (A.deeper env):=
 ⟨r.hd,by have:=r.dp;show A.depth+1+3*k+5<_;lia,by have:=r.un;show A.units+3+16*k+200<_;lia,r.gd⟩
theorem Room.depth{k:Nat}(r:Room k A):A.depth<recursionLimit:=by have:=r.dp;lia
theorem Room.units{k:Nat}(r:Room k A):A.units+64<cLine:=by have:=r.un;lia
noncomputable def zrW:TA:=λ_ H Q=>Q [] H
noncomputable def zoh(ta:TE)(tr:TA):TA:=λσ H Q=>ta σ H λx H1=>tr σ H1 λxs H2=>Q (x::xs) H2
section
variable{t:TA}
theorem znh:PA X [] zrW:=λ_ _ _ _ H Q I h=>Calls.spliced_nil ⟨[],H,I, .nil,h⟩
theorem zkY(ha:PE X e te)(hr:PA X es t)(hs:autoParam (starEach (e::es) X.env=(false,eval e X.env)::starEach es X.env) y3):PA X (e::es) (zoh te t):=by
 intro pos pins s σ H Q I h
 rw[hs]
 show wpAny _ _ (spliced ((false,eval e X.env)::backTo pos (starEach es X.env))) _ _ s
 refine Calls.spliced_cons (thn (ha pins s σ H _ I h) λu s1 zq=>?_)
 obtain⟨x,H1,I1,r1,q1⟩:=zq
 refine thn (hr pos pins s1 σ H1 _ I1 q1) λus s2 zq=>?_
 obtain⟨xs,H2,I2,r2,q2⟩:=zq
 exact⟨x::xs,H2,I2, .cons r1 r2,q2⟩
noncomputable def zsj(t:TA):TE:=λσ H Q=>t σ H λxs H1=>xs.length<=sizeLine/\∀p,H1 p=none->Q (.ref p) (upd H1 p (.tup xs))
noncomputable def ztb(t:TA):TE:=λσ H Q=>t σ H λxs H1=>xs.length<=sizeLine/\∀p,H1 p=none->Q (.ref p) (upd H1 p (.lst xs))
theorem zsv{x1}(h:PA X es t):PE X (.Tuple es x1 pos) (zsj t):=by
 intro pins s σ H Q I hq
 refine wpAny_Tuple_spliced (thn (h pos pins s σ H _ I hq) λus s1 ⟨xs,H1,I1,r,z,q⟩=>⟨by rw[←r.length];exact z,?_⟩)
 have hf:H1 s1.heap.objs.size=none:=I1.hok.fresh (L0 _)
 refine⟨.ref s1.heap.objs.size,upd H1 s1.heap.objs.size (.tup xs),I1.laid (t':=s1.toks) (λb u e=>G0 _ e) (L0 _) ?_,rfl,q _ hf⟩
 exact⟨z,us,r,⟨_,T0 _ rfl,rfl,_,rfl⟩,NoDict.new rfl (T0 _ rfl)⟩
theorem zn3(h:PA X es t):PE X (.List es pos) (ztb t):=by
 intro pins s σ H Q I hq
 refine wpAny_List_spliced (thn (h pos pins s σ H _ I hq) λus s1 ⟨xs,H1,I1,r,z,q⟩=>⟨by rw[←r.length];exact z,?_⟩)
 have hf:H1 s1.heap.objs.size=none:=I1.hok.fresh (L0 _)
 refine⟨.ref s1.heap.objs.size,upd H1 s1.heap.objs.size (.lst xs),I1.laid (t':=s1.toks) (λb u e=>G0 _ e) (L0 _) ?_,rfl,q _ hf⟩
 exact⟨z,us,0,r,T0 _ rfl⟩
end
noncomputable abbrev Sp:=List V->Hp->VK->XK->Prop
variable{sp:Sp}
noncomputable abbrev CXT:=List Env->Hp->Shared->XK->Value->Shared->Prop
variable{CX:CXT}
structure Env0(P:Program)(w:World)(K:W.Frag)(mg:Str->Option Value)(base:Heap)(A:Around)(outer:List Env)(s:Shared)(H:Hp):Prop where
 frames:A.frames=some outer
 mod:Mod K mg base
 bs:∀b o,base.get? b=some o->s.heap.get? b=some o/\H b=none
 bsz:base.objs.size<=s.heap.objs.size
 funs:s.heap.FunFrames base outer
 frf:∀b∈frs outer,H b=none
 hok:HOk P w H s.heap
 bare:AllBare s.gens
def CE(outer:List Env)(P:Program)(w:World)(H:Hp)(s:Shared)(Q:VK)(u:Value)(s':Shared):Prop:=
 ∃v H',s'.os=s.os/\AllBare s'.gens/\Un (frs outer) [] H H' s.heap s'.heap/\HOk P w H' s'.heap/\RelV v u/\Q v H'
def CR(CX:CXT)(outer:List Env)(P:Program)(w:World)(H:Hp)(s:Shared)(Q:VK)(E:XK)(r:Result)(s':Shared):Prop:=
 match r with
 | .ok (.ret u)=>CE outer P w H s Q u s'
 | .ok _=>False
 | .error e=>CX outer H s E e s'
structure FnOk(P:Program)(w:World)(K:W.Frag)(mg:Str->Option Value)(base:Heap)(CX:CXT)(k:Nat)(f:Addr)(fd:FuncData)(ps:List Str)(sp:Sp):Prop where
 len:∀vs H Q E,sp vs H Q E->vs.length=ps.length
 run:∀(A:Around) (outer:List Env) (s:Shared) (H:Hp) (args:Args) (us:List Value) (vs:List V) (Q:VK) (E:XK),Room k A->Env0 P w K mg base A outer s H->BindsTo s fd args (ps.zip us)->Vals vs us->sp vs H Q E->
  codeAny (model P w) A (.call (.ref f) args) (CR CX outer P w H s Q E) s
theorem Inv.env0(I:Inv X pins σ H s):Env0 X.prog X.w X.K X.mg X.base X.A X.stack s H:=
 ⟨I.ok.frames,I.ok.mod,I.bs,B2 I.ok.bsz I.sz,I.stack,I.stkFree,I.hok,I.bare⟩
theorem Inv.after{Q:VK}(I:Inv X pins σ H s)(h:CE X.stack X.prog X.w H s Q u s'):EP X pins σ Q u s':=by
 obtain⟨v,H',os,bare,un,hok,r,q⟩:=h
 obtain⟨hh,g,d,t,os'⟩:=s'
 obtain rfl:os'=s.os:=os
 exact⟨v,H',I.call (h':=hh) (g':=g) (d':=d) (t':=t) (ch:=[]) un hok bare (λb z=>absurd z `j3),r,q⟩
noncomputable def zqt(sp:Sp)(dvs:List V)(E:XK)(t:TA):TE:=λσ H Q=>t σ H λvs H1=>sp (vs ++dvs) H1 Q E
def Binds(K:W.Frag)(fd:FuncData)(ps:List Str)(ds:List Value):Prop:=
 ∀(s:Shared) (us:List Value),K.In s.heap->(us ++ds).length=ps.length->BindsTo s fd ⟨us,[]⟩ (ps.zip (us ++ds))
theorem Binds.all{ps:List Str}(h:∀us:List Value,us.length=ps.length->bindArgs fd ⟨us,[]⟩=pure (ps.zip us)):Binds K fd ps []:=λs us _ hl=>by
 rw[List.append_nil] at hl⊢
 exact .of_eq (h us hl)
def zhh(CX:CXT)(X:Cx)(E:XK):Prop:=∀(pins:List (Addr×Obj)) (σ:St) (H:Hp) (s:Shared) (e:Value) (s':Shared),Inv X pins σ H s->CX X.stack H s E e s'->X.xe e s'
section
variable{k:Nat}{ps:List Str}{ds:List Value}{E:XK}{m:Str}{p:Pos}{o:Expr}{ta:TE}{t:TA}
theorem zrn{Q:VK}(F:FnOk X.prog X.w X.K X.mg X.base CX k f fd ps sp)(hr:Room k X.A)(hb:Binds X.K fd ps ds)(hd:Vals dvs ds)(hx:zhh CX X E)
 (I:Inv X pins σ H s) (r:Vals vs us) (h:sp (vs ++dvs) H Q E):wpAny `W3 X.A (call (.ref f) us) (EP X pins σ Q) X.xe s:=by
 have r2:Vals (vs ++dvs) (us ++ds):=r.append hd
 have hl:(us ++ds).length=ps.length:=by rw[←r2.length];exact F.len _ _ _ _ h
 refine wpAny_call (codeAny_mono (F.run X.A X.stack s H ⟨us,[]⟩ (us ++ds) (vs ++dvs) Q E hr I.env0 (hb s us I.kIn hl) r2 h) λr s' hq=>?_)
 cases r with
 |error e=>exact hx pins σ H s e s' I hq
 |ok fl=>
  cases fl with
  |ret u=>exact I.after hq
  |next=>exact False.elim hq
  |brk=>exact False.elim hq
  |cont=>exact False.elim hq
theorem zp8(F:FnOk X.prog X.w X.K X.mg X.base CX k f fd ps sp)(hr:Room k X.A)(hg:Gl X x)(hm:X.mg x=some (.ref f))(hk:W.keepIn X.K (.ref f)=true)(hb:Binds X.K fd ps ds)(hd:Vals dvs ds)(hx:zhh CX X E)
 (ha:PA X (e::es) t) (hdb:autoParam ((x==("__debug__":Str))=false) v4) (he:autoParam (starEach (e::es) X.env=(false,eval e X.env)::starEach es X.env) y3) (hpl:autoParam ((backTo pos (starEach es X.env)).any (·.1)=false) y3):
 PE X (.Call (.Name x p) (e::es) [] pos) (zqt sp dvs E t):=by
 intro pins s σ H Q I h
 refine wpAny_Call_Name_kw (zkh I hg hm ?_ hdb)
 refine W.callWith_K (h₀:=X.base) I.ok.mod.kin hk (thn (ha pos pins s σ H _ I h) λus s1 zq=>?_) he hpl
 obtain⟨vs,H1,I1,r,q⟩:=zq
 refine⟨I1.kIn,?_⟩
 exact zrn F hr hb hd hx I1 r q
structure Mk(K:W.Frag)(C f:Addr):Prop where
 makes:W.makesIn K C=true
 init:W.findIn K (.ref C) "__init__"=some (some (.ref f))
 fn:W.isFn K (.ref f)=true
 kp:W.keepIn K (.ref C)=true
end
section
variable{k:Nat}{ps ks:List Str}{E:XK}{m:Str}{p kpos:Pos}{o:Expr}{kws:List Keyword}{ta:TE}{t tk:TA}{nm:Option Str}
structure KBinds(K:W.Frag)(fd:FuncData)(ps ks:List Str)(g:List Value->List Value->List Value)(gV:List V->List V->List V):Prop where
 to:∀(s:Shared) (us ws:List Value),K.In s.heap->(g us ws).length=ps.length->BindsTo s fd ⟨us,ks.zip ws⟩ (ps.zip (g us ws))
 rel:∀{vs:List V} {us:List Value} {zs:List V} {ws:List Value},Vals vs us->Vals zs ws->Vals (gV vs zs) (g us ws)
variable{g:List Value->List Value->List Value}{gV:List V->List V->List V}
end
structure FnScope(N P:List Str)(sc:Scope):Prop where
 kind:sc.kind= .function
 co:sc.isCoroutine=false
 gen:sc.isGenerator=false
 nd:N.Nodup
 pre:N.take P.length=P
 par:∀x∈P,sc.names.lookup x=some .local\/sc.names.lookup x=some .cell
 nofree:∀y∈sc.names,y.2≠ .free
variable{par:Nat->Nat}
theorem zgP{kindOf:Str->Option NameKind}{x:Str}:∀{binds:List (Str×Value)} {m:Str->Option Value},(∀v,(x,v)∉binds)->bindL kindOf binds m x=m x
 |[],_,_=>rfl
 |(n,v)::r,m,h=>by
  unfold bindL
  rw[zgP λw hw=>h w (V0 _ hw)]
  split
  ·have:x≠n:=by rintro rfl;exact h v Q0
   simp[this]
  ·rfl
theorem zgQ{kindOf:Str->Option NameKind}{x:Str}:∀{binds:List (Str×Value)} {m:Str->Option Value},(∀v,(x,v)∉binds)->bindC kindOf binds m x=m x
 |[],_,_=>rfl
 |(n,v)::r,m,h=>by
  unfold bindC
  rw[zgQ λw hw=>h w (V0 _ hw)]
  split
  ·rfl
  ·have:x≠n:=by rintro rfl;exact h v Q0
   simp[this]
theorem zgt{kindOf:Str->Option NameKind}{x:Str}{v:Value}:∀{P:List Str} {vs:List Value} {i:Nat} {m:Str->Option Value},P.Nodup->P[i]?=some x->vs[i]?=some v->kindOf x=some .local->
 bindL kindOf (P.zip vs) m x=some v
 |[],_,_,_,_,h,_,_=>by simp at h
 |_::_,[],_,_,_,_,h,_=>by simp at h
 |p::P,w::vs,0,m,nd,h1,h2,hk=>by
  simp at h1 h2;subst h1;subst h2
  show bindL kindOf ((p,w)::P.zip vs) m p=_
  unfold bindL
  rw[zgP λv hv=>(U1.mp nd).1 (List.of_mem_zip hv).1,c0 hk]
  simp
 |p::P,w::vs,i+1,m,nd,h1,h2,hk=>by
  show bindL kindOf ((p,w)::P.zip vs) m x=_
  unfold bindL
  exact zgt (i:=i) (U1.mp nd).2 (by simpa using h1) (by simpa using h2) hk
theorem zgR{kindOf:Str->Option NameKind}{x:Str}{v:Value}:∀{P:List Str} {vs:List Value} {i:Nat} {m:Str->Option Value},P.Nodup->P[i]?=some x->vs[i]?=some v->kindOf x≠some .local->
 bindC kindOf (P.zip vs) m x=some v
 |[],_,_,_,_,h,_,_=>by simp at h
 |_::_,[],_,_,_,_,h,_=>by simp at h
 |p::P,w::vs,0,m,nd,h1,h2,hk=>by
  simp at h1 h2;subst h1;subst h2
  show bindC kindOf ((p,w)::P.zip vs) m p=_
  unfold bindC
  rw[zgQ λv hv=>(U1.mp nd).1 (List.of_mem_zip hv).1,P0 hk]
  simp
 |p::P,w::vs,i+1,m,nd,h1,h2,hk=>by
  show bindC kindOf ((p,w)::P.zip vs) m x=_
  unfold bindC
  exact zgR (i:=i) (U1.mp nd).2 (by simpa using h1) (by simpa using h2) hk
noncomputable def start(N:List Str)(vs:List V):St:=vs.map some ++List.replicate (N.length -vs.length) none
noncomputable def zgg(CX:CXT)(P:Program)(w:World)(K:W.Frag)(mg:Str->Option Value)(base:Heap)(N:List Str)(qual:Str)(scope:Scope)(f:Addr)(cd:Value)(A:Around)(outer:List Env)(s:Shared)(H:Hp)(E:XK):Cx where
 prog:=P
 w:=w
 K:=K
 mg:=mg
 base:=base
 A:=A.deeper (envOfC qual scope s.heap.objs.size f cd)
 N:=N
 s₀:=s
 H₀:=H
 env:=envOfC qual scope s.heap.objs.size f cd
 outer:=outer
 stack:=envOfC qual scope s.heap.objs.size f cd::outer
 ex:=[]
 calm:=true
 fn:=λ_=>true
 pn:=[]
 xe:=λe s'=>wpAny (model P w) (A.deeper (envOfC qual scope s.heap.objs.size f cd)) (leaving (envOfC qual scope s.heap.objs.size f cd) e) (λ_ s''=>CX outer H s E e s'') (λe' s''=>CX outer H s E e' s'') s'
theorem zia{sc:Scope}(h:sc.names.lookup x=some .cell):∃c,(cellsFrom n sc.names []).lookup x=some c:=by
 have q:=W.cellsFrom_some sc.names n [] (.inl h)
 exact Option.isSome_iff_exists.mp q
theorem zlU{mg:Str->Option Value}{base:Heap}{ps:List Str}{cd:Value}{outer:List Env}{s1:Shared}{E:XK}
 (S:FnScope N ps scope) (hd:A.handled=none) (e0:Env0 P w K mg base A outer s H) (hl:vs.length=ps.length) (r:Vals vs us)
 (x:InCallC s s.heap.objs.size (bindL (envOfC qual scope s.heap.objs.size f cd).kindOf (ps.zip us) λ_=>none) (cellsFrom (s.heap.objs.size+1) scope.names []) (bindC (envOfC qual scope s.heap.objs.size f cd).kindOf (ps.zip us) λ_=>none) s1):
 Inv (zgg CX P w K mg base N qual scope f cd A outer s H E) [] (start N vs) H s1:=by
 have hpl:ps.length<=N.length:=by have:=congrArg List.length S.pre;rw[C2] at this;lia
 obtain⟨h1,tk,rfl,hk⟩:=x.done
 have noA:∀b:Addr,b∉(zgg CX P w K mg base N qual scope f cd A outer s H E).ex:=λb z=>absurd (show b∈([]:List Addr)from z) `j3
 refine⟨⟨e0.mod,S.kind,rfl,rfl,L0 _,λy z c h1 h2=>?_,λy hy=>?_,λy c _ h=>?_,λ_=>hd,Around.frames_deeper e0.frames, .inr ⟨rfl,rfl⟩,λb z=>absurd z (noA b),e0.bs,e0.bsz,λb _ _=>noA b,λb z=>absurd z (noA b),e0.funs,e0.frf⟩,
  rfl,e0.bare,Un.kept hk,⟨_,x.toInCall.ns,λi y v h1 h2 h3=>?_⟩,λy c h=>⟨_,x.cell y c h⟩,e0.hok.fresh (L0 _),λy c h=>?_,λp hp=>absurd (show p∈([]:List (Addr×Obj))from hp) `j3,e0.hok.kept hk,?_⟩
 ·exact name_of_addr x.apart (PySem.mem_of_lookup h1) (PySem.mem_of_lookup h2)
 ·have hy:scope.names.lookup y=some .cell\/scope.names.lookup y=some .free:=hy
  rcases hy with hy|hy
  ·exact zia hy
  ·exact absurd rfl (S.nofree _ (PySem.mem_of_lookup hy))
 ·exact A3 (x.above y c (PySem.mem_of_lookup h))
 ·have hi:i<vs.length:=by
   unfold start at h2
   by_cases hi:i<vs.length
   ·exact hi
   ·rw[L1 (by simpa using hi)] at h2
    rw[List.getElem?_replicate] at h2
    split at h2<;>cases h2
  have ha:vs[i]?=some v:=by
   unfold start at h2
   rw[N1 (by simpa using hi),N0] at h2
   cases e:vs[i]? with
   |none=>rw[e] at h2;cases h2
   |some a=>rw[e] at h2;cases h2;rfl
  obtain⟨u,hu,rv⟩:=r.get ha
  have hp:ps[i]?=some y:=by
   rw[←S.pre,List.getElem?_take_of_lt ()];exact h1
  have ndP:ps.Nodup:=by rw[←S.pre];exact S.nd.sublist (List.take_sublist _ _)
  refine⟨u,rv,?_⟩
  rcases S.par y (B1 hp)with k|k
  ·exact .inl ⟨k,zgt ndP hp hu k⟩
  ·obtain ⟨c,e⟩:=zia (n:=s.heap.objs.size+1) k
   refine .inr ⟨.inl k,c,e,?_⟩
   have q:=x.cell y c e
   rw[zgR ndP hp hu (by show scope.names.lookup y≠_;rw[k];decide)] at q
   exact q
 ·exact e0.hok.fresh (A3 (x.above y c (PySem.mem_of_lookup h)))
 ·unfold start
  show _=N.length
  rw[Z0,C0,List.length_replicate]
  lia
theorem znH{mg:Str->Option Value}{base:Heap}{k:Nat}{params:Arguments}{dV kV:Value}
  {ps:List Str}  (lk:K.lookup f=some ⟨oc,od, .func (W.fnOf name qual params body scope dV kV doc pm an cdv ct),osl⟩) (hcd:W.codeIn K cdv qual=true) (S:FnScope N ps scope)
 (len:∀vs H Q E,sp vs H Q E->vs.length=ps.length)
 (hbody:∀(A:Around) (outer:List Env) (s:Shared) (H:Hp) (vs:List V) (Q:VK) (E:XK),Room k (A.deeper (envOfC qual scope s.heap.objs.size f cdv))->sp vs H Q E->
   ∃t,PSs (zgg CX P w K mg base N qual scope f cdv A outer s H E) body t/\t {nx:=λ_ H'=>Q .non H',rt:=Q} (start N vs) H):
 FnOk P w K mg base CX (k+1) f (W.fnOf name qual params body scope dV kV doc pm an cdv ct) ps sp:=by
 refine⟨len,λA outer s H args us vs Q E hr e0 hb r hsp=>?_⟩
 have hl:=len _ _ _ _ hsp
 have KX:K.In s.heap:=e0.mod.kin.keeps λb o e=>(e0.bs b o e).1
 have lim:s.heap.NoLimit:=e0.mod.nolimit.keeps λb o e=>(e0.bs b o e).1
 have hkind:∀y∈ps.zip us,scope.names.lookup y.1=some .local\/(scope.names.lookup y.1=some .cell/\((cellsFrom (s.heap.objs.size+1) scope.names []).lookup y.1).isSome=true):=λ⟨n,v⟩ hy=>by
  rcases S.par n (List.of_mem_zip hy).1 with q|q
  ·exact .inl q
  ·exact .inr ⟨q,W.cellsFrom_some _ _ _ (.inl q)⟩
 refine codeAny_call_function hr.depth (KX _ _ lk) rfl S.co S.gen rfl (W.codeRec_of KX hcd) (hb _ _ _ _ ?_)
 refine wpAny_newFunctionEnv_cells S.kind hkind λenv he s1 x=>?_
 subst he
 refine⟨lim.keeps x.toInCall.keep,codeAny_func ?_⟩
 obtain⟨t,ht,hq⟩:=hbody A outer s H vs Q E (hr.deeper _) hsp
 have I:Inv (zgg CX P w K mg base N qual scope f cdv A outer s H E) [] (start N vs) H s1:=zlU S hr.hd e0 hl r x
 refine K1 (ht [] s1 (start N vs) H _ I hq) (λfl s' hs=>?_) λe s' hs=>hs
 have fin:∀{σ':St} {H':Hp} {v:V} {u:Value},Inv (zgg CX P w K mg base N qual scope f cdv A outer s H E) [] σ' H' s'->RelV v u->Q v H'->CE outer P w H s Q u s':=
  λ{σ' H' v u} J rv q=>⟨v,H',J.os,J.bare,J.base,J.hok,rv,q⟩
 cases fl with
 |ret u=>
  obtain⟨v,σ',H',J,rv,q⟩:=hs
  exact fin J rv q
 |next=>
  obtain⟨σ',H',J,q⟩:=hs
  exact fin (v:=V.non) (u:=Value.none) J rfl q
 |brk=>
  obtain⟨_,_,_,q⟩:=hs
  exact False.elim q
 |cont=>
  obtain⟨_,_,_,q⟩:=hs
  exact False.elim q
section
variable{p:Pos}{t:TA}{id:String}{r:List V->Hp->VK->Prop}
def tCB(r:List V->Hp->VK->Prop)(t:TA):TE:=λσ H Q=>t σ H λvs H1=>r vs H1 Q
theorem zmM(hc:CallR X (.builtin id) r)(hg:Gl X x)(hm:X.mg x=none)(hv:bootBuiltins x=some (.builtin id))(ha:PA X (e::es) t)(hn:autoParam (x≠"__name__") v4)(hdb:autoParam ((x==("__debug__":Str))=false) v4)
 (he:autoParam (starEach (e::es) X.env=(false,eval e X.env)::starEach es X.env) y3) (hpl:autoParam ((backTo pos (starEach es X.env)).any (·.1)=false) y3):PE X (.Call (.Name x p) (e::es) [] pos) (tCB r t):=by
 intro pins s σ H Q I h
 refine wpAny_Call_Name_kw (zdD I hg hm hv ?_ hn hdb)
 refine PyProof.Rows.callWith_builtin1 (thn (ha pos pins s σ H _ I h) λus s1 zq=>?_) he hpl
 obtain⟨vs,H1,I1,r1,q1⟩:=zq
 exact hc pins s1 σ H1 vs us Q I1 r1 q1
theorem zlD(hc:CallR X (.type T) r)(hg:Gl X x)(hm:X.mg x=none)(hv:bootBuiltins x=some (.type T))(ha:PA X (e::es) t)(hn:autoParam (x≠"__name__") v4)(hdb:autoParam ((x==("__debug__":Str))=false) v4)
 (he:autoParam (starEach (e::es) X.env=(false,eval e X.env)::starEach es X.env) y3) (hpl:autoParam ((backTo pos (starEach es X.env)).any (·.1)=false) y3):PE X (.Call (.Name x p) (e::es) [] pos) (tCB r t):=by
 intro pins s σ H Q I h
 refine wpAny_Call_Name_kw (zdD I hg hm hv ?_ hn hdb)
 refine PyProof.Rows.callWith_type1 (thn (ha pos pins s σ H _ I h) λus s1 zq=>?_) he hpl
 obtain⟨vs,H1,I1,r1,q1⟩:=zq
 exact hc pins s1 σ H1 vs us Q I1 r1 q1
end
section
open PySem.SeqAt
open PySem.AutoSeq1 (wpAny_loadPart')
open PySem.MeetsSeq PySem.MeetsSeq2 PySem.MeetsSeq3
end
theorem cat_tup{t b:Addr}{vs ws:List Value}(ht:IsTup s.heap t vs.toArray)(hb:IsTup s.heap b ws.toArray)(hv:vs≠ [])
 (h1:ws=[]->Q (.ref t) s) (h2:ws≠ []->Q (.ref s.heap.objs.size) {s with heap:=s.heap.push {cls:= .type "tuple",data:= .seq (vs ++ws).toArray}})
 (hsz:vs.length+ws.length<=sizeLine):wpAny `Y3 A (binaryOp .Add (.ref t) (.ref b)) Q E s:=by
 obtain⟨⟨cls,dd,data,sl⟩,ho,hc,n,hd⟩:=id ht
 obtain⟨⟨cls2,dd2,data2,sl2⟩,ho2,hc2,n2,hd2⟩:=id hb
 simp only at hc hd hc2 hd2
 subst hc hd hc2 hd2
 have e:vs.toArray ++ws.toArray=(vs ++ws).toArray:=`j3
 by_cases hw:ws=[]
 ·exact concat_meets ⟨_,ho,rfl⟩ ⟨_,ho2,rfl⟩ noFill_tuple_add seq_tuple_add F.slot_tuple_add F.entry_tuple_add (F.args_tuple_add_2 _ _)
   (tuple_addW1 t b vs.toArray ws.toArray n n2 dd dd2 sl sl2 (by simpa using hv) (by simp[hw])) ⟨ho,ho2,h1 hw⟩
 ·refine concat_meets ⟨_,ho,rfl⟩ ⟨_,ho2,rfl⟩ noFill_tuple_add seq_tuple_add F.slot_tuple_add F.entry_tuple_add (F.args_tuple_add_2 _ _)
   (tuple_addW2 t b vs.toArray ws.toArray n n2 dd dd2 sl sl2 (by simpa using hv) (by simpa using hw) (by rw[G1,G1];exact hsz)) ⟨ho,ho2,?_⟩
  rw[e]
  exact h2 hw
noncomputable def sIx(n d:Nat):Option Int->Nat
 |none=>d
 |some v=>if v<0 then(v+(n:Int)).toNat else min v.toNat n
theorem zr2(n d:Nat)(hd:d<=n)(o:Option Int):sIx n d o<=n:=by
 cases o with
 |none=>exact hd
 |some v=>
  show(if v<0 then(v+(n:Int)).toNat else min v.toNat n)<=n
  by_cases hv:v<0
  ·rw[c0 hv];lia
  ·rw[P0 hv];exact Nat.min_le_right _ _
theorem zkX(v:Int)(n d:Nat):(if v<0 then max (v+(n:Int)) 0 else min v (n:Int))=((sIx n d (some v):Nat):Int):=by
 show(if v<0 then max (v+(n:Int)) 0 else min v (n:Int))=(((if v<0 then(v+(n:Int)).toNat else min v.toNat n):Nat):Int)
 by_cases hv:v<0
 ·simp only[c0 hv];lia
 ·simp only[P0 hv];lia
theorem zjp(lo hi:Option Int)(n:Nat):Builtin.Slice.sliceAdjust lo hi 1 (n:Int)=(((sIx n 0 lo:Nat):Int),((sIx n n hi:Nat):Int)):=by
 have h1:¬((1:Int)<0):=()
 unfold Builtin.Slice.sliceAdjust
 simp only[h1,if_false]
 refine Prod.ext ?_ ?_
 ·cases lo with
  |none=>rfl
  |some v=>exact zkX v n 0
 ·cases hi with
  |none=>rfl
  |some v=>exact zkX v n n
theorem zkg(i j:Nat):Builtin.Slice.slicePlaces (i:Int) (j:Int) 1=j -i:=by
 unfold Builtin.Slice.slicePlaces
 have h1:(1:Int)>0:=()
 simp only[h1,if_true,Int.ediv_one]
 split<;>lia
theorem zbA{v:Value}{o:Option Int}{Q:Option Int->Shared->Prop}(p:IsPart v o)(h:Q o s):wpAny `Y3 A (Builtin.Slice.slicePartIndex v) Q E s:=by
 cases p with
 |none=>exact slicePart_none h
 |int i t=>exact slicePart_int h
theorem zb9{Q:Int×Int×Nat->Shared->Prop}(hs:s.heap.IsSliceOf sl vl vu .none)(pl:IsPart vl lo)(pu:IsPart vu hi)
 (h:Q (((sIx n 0 lo:Nat):Int),1,sIx n n hi -sIx n 0 lo) s):wpAny `Y3 A (Builtin.Slice.sliceApplied (.ref sl) (pure (n:Int))) Q E s:=by
 obtain⟨os,hos,hcs,hds⟩:=id hs
 unfold Builtin.Slice.sliceApplied Builtin.Slice.sliceFields
 refine A0 (A0 (wpAny_field hos hds (x:=vl) rfl (A0 (wpAny_field hos hds (x:=vu) rfl (A0 (wpAny_field hos hds (x:= .none) rfl (F0 ?_)))))))
 refine A0 (slicePart_none ?_)
 show wpAny _ _ (if((1:Int)==0)=true then _ else _) _ _ s
 rw[P0 ⋯]
 refine A0 (zbA pl (A0 (zbA pu (A0 (F0 ?_)))))
 show wpAny _ _ (match Builtin.Slice.sliceAdjust lo hi 1 (n:Int)with|(lo,hi)=>pure (lo,(1:Int),Builtin.Slice.slicePlaces lo hi 1)) _ _ s
 rw[zjp lo hi n]
 show wpAny _ _ (pure (((sIx n 0 lo:Nat):Int),(1:Int),Builtin.Slice.slicePlaces ((sIx n 0 lo:Nat):Int) ((sIx n n hi:Nat):Int) 1)) _ _ s
 rw[zkg]
 exact F0 h
theorem zom(xs:Array Value)(i k:Nat):((List.range k).filterMap λ(m:Nat)=>xs[((i:Int)+(m:Int)*1).toNat]?).toArray=((xs.toList.drop i).take k).toArray:=by
 have e:(λ(m:Nat)=>xs[((i:Int)+(m:Int)*1).toNat]?)=λm=>xs[i+m]?:=by
  funext m
  have:((i:Int)+(m:Int)*1).toNat=i+m:=()
  rw[this]
 rw[e]
 have:=pick_run xs i k
 rw[List.filterMap_map] at this
 have e2:((λx=>xs[x]?)∘λx=>i+x)=λm=>xs[i+m]?:=rfl
 rw[e2] at this
 rw[this]
theorem getItem_tuple_cut{t:Addr}(ht:IsTup s.heap t items)(hs:s.heap.IsSliceOf sl vl vu .none)(pl:IsPart vl lo)(pu:IsPart vu hi)
 (hw:¬(sIx items.size 0 lo=0/\sIx items.size items.size hi=items.size))
 (h:Q (.ref s.heap.objs.size) {s with heap:=s.heap.push {cls:= .type "tuple",data:= .seq ((items.toList.drop (sIx items.size 0 lo)).take (sIx items.size items.size hi -sIx items.size 0 lo)).toArray}})
 (hsz:items.size<=sizeLine):wpAny `Y3 A (getItem (.ref t) (.ref sl)) Q E s:=by
 have htake:sizeOk (.seq ((items.toList.drop (sIx items.size 0 lo)).take (sIx items.size items.size hi -sIx items.size 0 lo)).toArray):=by
  show((items.toList.drop (sIx items.size 0 lo)).take (sIx items.size items.size hi -sIx items.size 0 lo)).toArray.size<=sizeLine
  rw[G1,C2,List.length_drop,C1]
  lia
 have hj:sIx items.size items.size hi<=items.size:=zr2 _ _ (L0 _) hi
 obtain⟨os,hos,hcs,hds⟩:=id hs
 have hTs:s.TypeIs (.ref sl) "slice":=⟨os,hos,hcs⟩
 unfold getItem
 try with_reducible refine O2 ?_
 first|refine A0 (F0 ?_)|skip
 refine A0 (wpAny_sequenceKey ht.typeIs ⋯ ?_)
 refine A0 (Y2 (name:=Str.ofString "__getitem__") ht.typeIs PyProof.Rows.slot_tuple_getitem
  (G2 PyProof.Rows.slot_tuple_getitem ht.typeIs entry_tuple_getitem ?_ (args_tuple_getitem _ _)))
 show wpAny _ _ (Builtin.Tuple.tupleItemsOf (.ref t)>>=_) _ _ s
 refine A0 (tupleItemsOf_ ht ?_)
 refine A0 (wpAny_typeOf hTs ?_)
 rw[c0 ⋯]
 refine A0 (zb9 hs pl pu ?_)
 have hno:¬((((sIx items.size 0 lo:Nat):Int)==0&&(1:Int)==1&&(sIx items.size items.size hi -sIx items.size 0 lo)==items.size)=true):=by
  intro q
  rw[E1,E1] at q
  have q1:((sIx items.size 0 lo:Nat):Int)=0:=eq_of_beq q.1.1
  have q2:sIx items.size items.size hi -sIx items.size 0 lo=items.size:=eq_of_beq q.2
  exact hw ⟨(),()⟩
 show wpAny _ _ (if(((sIx items.size 0 lo:Nat):Int)==0&&(1:Int)==1&&(sIx items.size items.size hi -sIx items.size 0 lo)==items.size)=true then _ else _) _ _ s
 rw[P0 hno,zom]
 first
  |exact A0 (m:=Builtin.Tuple.tupleExact _) (j1 (F0 ⟨_,rfl,F0 h⟩) htake)
  |exact A0 (m:=Builtin.Tuple.tupleExact _) (j1 (A0 (F0 (F0 ⟨_,rfl,F0 h⟩))) htake)
  |exact A0 (A0 (m:=Builtin.Tuple.tupleExact _) (j1 (F0 (F0 ⟨_,rfl,F0 h⟩)) htake))
  |exact A0 (A0 (m:=Builtin.Tuple.tupleExact _) (j1 (F0 ⟨_,rfl,F0 h⟩) htake))
noncomputable abbrev TO:=St->Hp->(Option Int->Hp->Prop)->Prop
variable{th:TO}
def PO(X:Cx)(e:Option Expr)(t:TO):Prop:=
 ∀(pins:List (Addr×Obj)) (s:Shared) (σ:St) (H:Hp) (Q:Option Int->Hp->Prop),Inv X pins σ H s->t σ H Q->
  wpAny `W3 X.A (evalPart e X.env) (λu s'=>∃o H',Inv X pins σ H' s'/\IsPart u o/\Q o H') X.xe s
noncomputable def zk2:TO:=λ_ H Q=>Q none H
noncomputable def zqW(t:TE):TO:=λσ H Q=>t σ H λx H1=>∃i,x= .int i/\Q (some i) H1
section
variable{lo hi:Option Expr}{tl:TO}{p2:Pos}
theorem zqr:PO X none zk2:=by
 intro pins s σ H Q I h
 rw[evalPart_none]
 exact F0 ⟨none,H,I, .none,h⟩
theorem zoT(h:PE X e te):PO X (some e) (zqW te):=by
 intro pins s σ H Q I hw
 rw[evalPart_some]
 refine thn (h pins s σ H _ I hw) λu s1 zq=>?_
 obtain⟨x,H1,I1,r1,q1⟩:=zq
 obtain⟨i,rfl,q⟩:=q1
 obtain⟨t,rfl⟩:=r1
 exact⟨some i,H1,I1, .int i t,q⟩
def SlR(X:Cx)(r:V->Option Int->Option Int->Hp->VK->Prop):Prop:=
 ∀(pins:List (Addr×Obj)) (s:Shared) (σ:St) (H:Hp) (x:V) (v vl vu:Value) (lo hi:Option Int) (sl:Addr) (Q:VK),Inv X pins σ H s->RelV x v->s.heap.IsSliceOf sl vl vu .none->IsPart vl lo->IsPart vu hi->r x lo hi H Q->
  ∃T id,typeLookup (.type T) "__getitem__"=pure (some (.builtin id))/\s.TypeIs v T/\wpAny `W3 X.A (getItem v (.ref sl)) (EP X pins σ Q) X.xe s
def tSl(r:V->Option Int->Option Int->Hp->VK->Prop)(te:TE)(tl th:TO):TE:=λσ H Q=>te σ H λx H1=>tl σ H1 λl H2=>th σ H2 λu H3=>r x l u H3 Q
theorem zmG{r:V->Option Int->Option Int->Hp->VK->Prop}(hr:SlR X r)(he:PE X e te)(hl:PO X lo tl)(hu:PO X hi th):PE X (.Subscript e (.Slice lo hi none p2) pos) (tSl r te tl th):=by
 intro pins s σ H Q I h
 refine Subscript_ (thn (he pins s σ H _ I h) λv s1 zq=>?_)
 obtain⟨x,H1,I1,r1,q1⟩:=zq
 refine wpAny_Slice (thn (hl pins s1 σ H1 _ I1 q1) λvl s2 zq=>?_)
 obtain⟨l,H2,I2,pl,q2⟩:=zq
 refine thn (hu pins s2 σ H2 _ I2 q2) λvu s3 zq1=>?_
 obtain⟨u,H3,I3,pu,q3⟩:=zq1
 rw[evalPart_none]
 refine F0 ?_
 have I4:Inv X pins σ H3 {s3 with heap:=s3.heap.push {cls:= .type "slice",data:= .fields #[vl,vu, .none]}}:=I3.kept (t':=s3.toks) λb ob q=>G0 _ q
 obtain⟨T,id,hT,ht,hg⟩:=hr pins {s3 with heap:=s3.heap.push {cls:= .type "slice",data:= .fields #[vl,vu, .none]}} σ H3 x v vl vu l u s3.heap.objs.size Q I4 r1 (Heap.IsSliceOf.new ..) pl pu q3
 show wpAny `W3 X.A (subscriptTail e (.Slice lo hi none p2) v (.ref s3.heap.objs.size)) (EP X pins σ Q) X.xe {s3 with heap:=s3.heap.push {cls:= .type "slice",data:= .fields #[vl,vu, .none]}}
 exact tail_any (ops:=[.ref s3.heap.objs.size,v]) ht hT hg (by with_unfolding_all rfl)
noncomputable def zcD(xs:List V)(lo hi:Option Int):List V:=(xs.drop (sIx xs.length 0 lo)).take (sIx xs.length xs.length hi -sIx xs.length 0 lo)
theorem zeL(xs:List V)(lo hi:Option Int):(zcD xs lo hi).length<=xs.length:=by
 unfold zcD
 rw[C2,List.length_drop]
 lia
def ztQ(K:W.Frag):V->Option Int->Option Int->Hp->VK->Prop:=λx lo hi H Q=>∃a xs,x= .ref a/\SqT K H a xs/\
 ¬(sIx xs.length 0 lo=0/\sIx xs.length xs.length hi=xs.length)/\∀p,H p=none->Q (.ref p) (upd H p (.tup (zcD xs lo hi)))
theorem zrT:SlR X (ztQ X.K):=by
 intro pins s σ H x v vl vu lo hi sl Q I rx hs pl pu h
 obtain⟨a,xs,rfl,hx,hw,q⟩:=h
 cases rx
 obtain⟨its,r,ht,hz⟩:=I.tuple hx
 have hlen:its.toArray.size=xs.length:=by rw[G1];exact r.length.symm
 refine⟨"tuple",_,PyProof.Rows.slot_tuple_getitem.lookup,ht.typeIs,?_⟩
 refine getItem_tuple_cut ht hs pl pu (by rw[hlen];exact hw) ?_ (by rw[hlen];exact hz)
 rw[hlen]
 refine⟨.ref s.heap.objs.size,_,I.laid (t':=s.toks) (o:= .tup (zcD xs lo hi)) (λb ob q=>G0 _ q) (L0 _) ?_,rfl,q _ (I.hok.fresh (L0 _))⟩
 exact⟨B2 (zeL xs lo hi) hz,_,(r.drop (sIx xs.length 0 lo)).take (sIx xs.length xs.length hi -sIx xs.length 0 lo),IsTup.new _ _,NoDict.new rfl (T0 _ rfl)⟩
noncomputable def zs7(K:W.Frag):R2:=λx y H Q=>∃a b xs ys,x= .ref a/\y= .ref b/\SqT K H a xs/\SqT K H b ys/\xs≠ []/\xs.length+ys.length<=sizeLine/\
 (ys=[]->Q (.ref a) H)/\(ys≠ []->∀p,H p=none->Q (.ref p) (upd H p (.tup (xs ++ys))))
theorem Vals.nil_iff(r:Vals xs us):us=[]↔xs=[]:=by
 cases r with
 |nil=>simp
 |cons _ _=>simp
theorem zqh:OpR X (binaryOp .Add) (zs7 X.K):=by
 intro pins s σ H x y v u Q I rx ry h
 obtain⟨a,b,xs,ys,rfl,rfl,ha,hb,hx,hz,q1,q2⟩:=h
 cases rx
 cases ry
 obtain⟨its,r1,p1,_⟩:=I.tuple ha
 obtain⟨its2,r2,p2,_⟩:=I.tuple hb
 refine cat_tup p1 p2 (λz=>hx (r1.nil_iff.mp z)) (λz=>⟨.ref a,H,I,rfl,q1 (r2.nil_iff.mp z)⟩) (λz=>?_) (by rw[←r1.length,←r2.length];exact hz)
 refine⟨.ref s.heap.objs.size,_,I.laid (t':=s.toks) (o:= .tup (xs ++ys)) (λb ob q=>G0 _ q) (L0 _) ?_,rfl,q2 (λw=>z (r2.nil_iff.mpr w)) _ (I.hok.fresh (L0 _))⟩
 exact⟨by rw[Z0];exact hz,_,r1.append r2,IsTup.new _ _,NoDict.new rfl (T0 _ rfl)⟩
end
noncomputable def ixN(n:Nat)(i:Int):Option Nat:=if 0<=i then(if i<n then some i.toNat else none)else if -(n:Int)<=i then some (i+n).toNat else none
noncomputable def atI(xs:List α)(i:Int):Option α:=(ixN xs.length i).bind λj=>xs[j]?
theorem zkA{i:Int}(h:ixN n i=some j):seqIndex? i n=some j/\j<n/\-(n:Int)<=i/\i<n:=by
 unfold ixN at h
 by_cases h0:0<=i
 ·rw[c0 h0] at h
  by_cases h1:i<n
  ·rw[c0 h1] at h
   have e:i.toNat=j:=o0 h
   exact⟨by rw[seqIndex_of h0 h1,e],(),(),h1⟩
  ·rw[P0 h1] at h;cases h
 ·rw[P0 h0] at h
  by_cases h1: -(n:Int)<=i
  ·rw[c0 h1] at h
   have e:(i+n).toNat=j:=o0 h
   exact⟨by rw[seqIndex_neg () h1,e],(),h1,()⟩
  ·rw[P0 h1] at h;cases h
theorem zhy{xs:List α}{i:Int}{v:α}(h:atI xs i=some v):∃j,seqIndex? i xs.length=some j/\xs[j]?=some v/\j<xs.length/\-(xs.length:Int)<=i/\i<xs.length:=by
 unfold atI at h
 cases e:ixN xs.length i with
 |none=>rw[e] at h;cases h
 |some j=>
  rw[e] at h
  obtain⟨h1,h2,h3,h4⟩:=zkA e
  exact⟨j,h1,h,h2,h3,h4⟩
theorem zab{xs:List α}{v:α}(h:xs[j]?=some v):atI xs (j:Int)=some v:=by
 have hj:j<xs.length:=(List.getElem?_eq_some_iff.mp h).1
 have e:ixN xs.length (j:Int)=some j:=by
  unfold ixN
  rw[c0 (),c0 ()];simp
 unfold atI;rw[e];exact h
theorem zos(xs:List α)(v:α):atI (xs ++ [v]) (-1)=some v:=by
 have hl:(xs ++ [v]).length=xs.length+1:=`j3
 have e:ixN (xs ++ [v]).length (-1)=some xs.length:=by
  unfold ixN
  rw[hl,P0 ⋯,c0 ()]
  congr 1
  lia
 unfold atI
 rw[e]
 show(xs ++ [v])[xs.length]?=some v
 simp
def zkK(b:Expr):Prop:=∀o i,subscripted b false o i=operate [o,i] (getItem o i)
def IxR(X:Cx)(r:R2):Prop:=
 ∀(value slice:Expr) (pins:List (Addr×Obj)) (s:Shared) (σ:St) (H:Hp) (x y:V) (v u:Value) (Q:VK),Inv X pins σ H s->RelV x v->RelV y u->r x y H Q->
  subscripted slice false v u=operate [v,u] (getItem v u)->wpAny `W3 X.A (subscriptTail value slice v u) (EP X pins σ Q) X.xe s
def MtR(X:Cx)(id:String)(r:V->List V->Hp->VK->Prop):Prop:=
 ∀(pins:List (Addr×Obj)) (s:Shared) (σ:St) (H:Hp) (x:V) (xs:List V) (v:Value) (us:List Value) (Q:VK),Inv X pins σ H s->RelV x v->Vals xs us->r x xs H Q->
  wpAny `W3 X.A (call (.builtin id) (v::us)) (EP X pins σ Q) X.xe s
section
variable{a b:Expr}{ta tb:TE}
theorem IxR.or{r r':R2}(h:IxR X r)(h':IxR X r'):IxR X (λx y H Q=>r x y H Q\/r' x y H Q):=by
 intro value slice pins s σ H x y v u Q I rx ry q hs
 rcases q with q|q
 ·exact h value slice pins s σ H x y v u Q I rx ry q hs
 ·exact h' value slice pins s σ H x y v u Q I rx ry q hs
theorem zsP{r:R2}(hr:IxR X r)(ha:PE X a ta)(hb:PE X b tb)(hs:zkK b):PE X (.Subscript a b pos) (tOp r ta tb):=by
 intro pins s σ H Q I h
 exact Subscript_ (zsm ha hb I h λv u s2 x y H2 I2 rx ry q=>hr a b pins s2 σ H2 x y v u Q I2 rx ry q (hs _ _))
noncomputable def zs6(K:W.Frag):R2:=λx y H Q=>∃p xs i v,x= .ref p/\y= .int i/\SqL K H p xs/\atI xs i=some v/\Q v H
noncomputable def zrM(K:W.Frag):R2:=λx y H Q=>∃p xs i v,x= .ref p/\y= .int i/\SqT K H p xs/\atI xs i=some v/\Q v H
noncomputable def zsY:R2:=λx y H Q=>∃z i c,x= .str z/\y= .int i/\z.length<=sizeLine/\atI z.cps.toList i=some c/\Q (.str ⟨#[c]⟩) H
theorem zaz:IxR X (zs6 X.K):=by
 intro value slice pins s σ H x y v u Q I rx ry h hs
 obtain⟨p,xs,i,z,rfl,rfl,hq,he,q⟩:=h
 cases rx
 obtain⟨t,rfl⟩:=ry
 obtain⟨its,r,pl,hz⟩:=I.list hq
 obtain⟨j,h1,h2,h3,h4,h5⟩:=zhy he
 obtain⟨w,ew,rw'⟩:=r.get h2
 have hl:=r.length
 have hn:=zdy
 have fin:EP X pins σ Q w s:=⟨z,H,I,rw',q⟩
 by_cases h0:0<=i
 ·have hj:i.toNat=j:=by
   rw[seqIndex_of h0 h5] at h1
   exact o0 h1
  exact item_listR pl.isList h0 () (by rw[hj];simpa using ew) fin hs
 ·have hj:(i+(its.toArray.size:Int)).toNat=j:=by
   rw[seqIndex_neg () h4] at h1
   rw[G1,←hl]
   exact o0 h1
  exact subscriptTail_builtinR (x:=w) pl.isList.typeIs slot_list_getitem.lookup
   (wpAny_getItem_list_neg (Q:=λr s'=>r=w/\EP X pins σ Q r s') pl.isList () (by rw[G1]<;>lia) () (by rw[hj];simpa using ew) ⟨rfl,fin⟩) hs
theorem zM:IxR X (zrM X.K):=by
 intro value slice pins s σ H x y v u Q I rx ry h hs
 obtain⟨p,xs,i,z,rfl,rfl,hq,he,q⟩:=h
 cases rx
 obtain⟨t,rfl⟩:=ry
 obtain⟨its,r,pl,hz⟩:=I.tuple hq
 obtain⟨j,h1,h2,h3,h4,h5⟩:=zhy he
 obtain⟨w,ew,rw'⟩:=r.get h2
 have hl:=r.length
 have hn:=zdy
 have fin:EP X pins σ Q w s:=⟨z,H,I,rw',q⟩
 exact subscriptTail_builtinR (x:=w) pl.typeIs slot_tuple_getitem.lookup
  (getItem_tuple (j:=j) (Q:=λr s'=>r=w/\EP X pins σ Q r s') pl () () (by rw[G1,←hl];exact h1) (by simpa using ew) ⟨rfl,fin⟩) hs
theorem zm5:IxR X zsY:=by
 intro value slice pins s σ H x y v u Q I rx ry h hs
 obtain⟨z,i,c,rfl,rfl,hz,he,q⟩:=h
 obtain⟨t,rfl⟩:=rx
 obtain⟨t',rfl⟩:=ry
 obtain⟨j,h1,h2,h3,h4,h5⟩:=zhy he
 have hl:z.cps.toList.length=z.length:=by simp[Str.length]
 rw[hl] at h1 h4 h5
 have hn:=zdy
 exact tail_any (typeIs_str s z t) slot_str_getitem.lookup (getItem_str (c:=c) (by
  have e1:decide (i< -(2^63:Int))=false:=A1 ()
  have e2:decide (i≥2^63)=false:=A1 ()
  rw[e1,e2,Bool.or_false]) (by rw[h1];simpa using h2) ⟨.str ⟨#[c]⟩,H,I.tok _,⟨_,rfl⟩,q⟩) hs
noncomputable def rIx(K:W.Frag):R2:=λx y H Q=>zs6 K x y H Q\/zrM K x y H Q\/zsY x y H Q
theorem zns:IxR X (rIx X.K):=zaz.or (zM.or zm5)
theorem zj6(its:List Value)(n j:Nat)(u:Value):Obj.mapSeq (·.setIfInBounds j u) {cls:= .type "list",data:= .seq its.toArray n}={cls:= .type "list",data:= .seq (its.set j u).toArray n}:=by
 simp[Obj.mapSeq]
theorem Inv.lst(I:Inv X pins σ H s)(h:H p=some (.lst xs)):
 ∃(its:List Value) (n:Nat),Vals xs its/\s.heap.get? p=some {cls:= .type "list",data:= .seq its.toArray n}/\xs.length<=sizeLine:=by
 obtain⟨z,its,n,r,e⟩:=I.hok p _ h
 exact⟨its,n,r,e,z⟩
theorem Inv.lstUpd{n':Nat}{f:Obj->Obj}(I:Inv X pins σ H s)(h:H p=some (.lst xs))
 (ho:s.heap.get? p=some {cls:= .type "list",data:= .seq its.toArray n}) (hf:f {cls:= .type "list",data:= .seq its.toArray n}={cls:= .type "list",data:= .seq its'.toArray n'}) (r:Vals ys its') (hz:ys.length<=sizeLine) (t:Nat):
 Inv X pins σ (upd H p (.lst ys)) {s with heap:=s.heap.update p f,toks:=t}:=by
 have e:(s.heap.update p f).get? p=some {cls:= .type "list",data:= .seq its'.toArray n'}:=by
  rw[Heap.get?_update_self f ho (by rw[hf]<;>rfl),hf]
 refine I.write (x:=p) (e:=p) (by rw[h];trivial) (.inl rfl) (λb u hb q=>(Heap.get?_update_other _ _ (Ne.symm hb)).trans q) ⟨_,e⟩ ?_
 exact⟨hz,its',n',r,e⟩
def zsQ:V->V->V->Hp->(Hp->Prop)->Prop:=λo i v H Q=>∃p xs k j,o= .ref p/\i= .int k/\H p=some (.lst xs)/\ixN xs.length k=some j/\Q (upd H p (.lst (xs.set j v)))
theorem zfg:zrx X zsQ:=by
 intro pins s σ H o i v ov iv u Q I ro ri rv h
 obtain⟨p,xs,k,j,rfl,rfl,hp,hj,q⟩:=h
 cases ro
 obtain⟨t,rfl⟩:=ri
 obtain⟨its,n,r,ho,hz⟩:=I.lst hp
 obtain⟨h1,h2,h3,h4⟩:=zkA hj
 have hl:=r.length
 have hn:=zdy
 have I':Inv X pins σ (upd H p (.lst (xs.set j v))) {s with heap:=s.heap.update p (Obj.mapSeq (·.setIfInBounds j u))}:=
  I.lstUpd hp ho (zj6 its n j u) (r.set rv j) (by rw[List.length_set];exact hz) s.toks
 by_cases h0:0<=k
 ·have hk:k.toNat=j:=by
   rw[seqIndex_of h0 h4] at h1
   exact o0 h1
  exact W.ki_setAt ho h0 () (by rw[G1,←hl];exact h4) (by rw[hk];exact⟨_,I',q⟩)
 ·have hk:(k+(its.toArray.size:Int)).toNat=j:=by
   rw[seqIndex_neg () h3] at h1
   rw[G1,←hl]
   exact o0 h1
  exact W.ki_setBack ho () (by rw[G1,←hl];exact h3) () (by rw[hk];exact⟨_,I',q⟩)
theorem zhB(lo hi:Option Int)(n:Nat):(sliceBounds lo hi none n).1=((sIx n 0 lo:Nat):Int)/\(sliceBounds lo hi none n).2.1=((sIx n n hi:Nat):Int)/\(sliceBounds lo hi none n).2.2=1:=by
 refine⟨?_,?_,rfl⟩
 ·cases lo with
  |none=>simp[sliceBounds,sIx]
  |some i=>
   simp only[sliceBounds,sIx,Option.getD_none,show(1:Int)>0 by decide,if_true]
   by_cases h:i<0
   ·simp only[h,if_true]<;>lia
   ·simp only[h,if_false]<;>lia
 ·cases hi with
  |none=>simp[sliceBounds,sIx]
  |some i=>
   simp only[sliceBounds,sIx,Option.getD_none,show(1:Int)>0 by decide,if_true]
   by_cases h:i<0
   ·simp only[h,if_true]<;>lia
   ·simp only[h,if_false]<;>lia
theorem zf9(its:List Value)(lo hi:Option Int):slicePick its.toArray lo hi none=((its.drop (sIx its.length 0 lo)).take (sIx its.length its.length hi -sIx its.length 0 lo)).toArray:=by
 obtain⟨h1,h2,h3⟩:=zhB lo hi its.toArray.size
 unfold slicePick
 rw[h1,h2,h3]
 simp only[sliceRange_one,pick_run,G1]<;>rfl
def ztN(K:W.Frag):V->Option Int->Option Int->Hp->VK->Prop:=λx lo hi H Q=>∃a xs,x= .ref a/\SqL K H a xs/\∀p,H p=none->Q (.ref p) (upd H p (.lst (zcD xs lo hi)))
theorem zo3:SlR X (ztN X.K):=by
 intro pins s σ H x v vl vu lo hi sl Q I rx hs pl pu h
 obtain⟨a,xs,rfl,hx,q⟩:=h
 cases rx
 obtain⟨its,r,ht,hz⟩:=I.list hx
 have hlen:=r.length
 refine⟨"list",_,slot_list_getitem.lookup,ht.isList.typeIs,?_⟩
 refine wpAny_getItem_list_slice ht.isList hs pl pu .none `j3 ?_ (by rw[G1]<;>lia)
 rw[zf9,←hlen]
 refine⟨.ref s.heap.objs.size,_,I.laid (t':=s.toks) (o:= .lst (zcD xs lo hi)) (λb ob q=>G0 _ q) (L0 _) ?_,rfl,q _ (I.hok.fresh (L0 _))⟩
 exact⟨B2 (zeL xs lo hi) hz,_,0,(r.drop (sIx xs.length 0 lo)).take (sIx xs.length xs.length hi -sIx xs.length 0 lo),T0 _ rfl⟩
noncomputable def zdW:V->Bool
 | .non=>true
 | .bl _=>true
 | .int _=>true
 | .str _=>true
 |_=>false
noncomputable def eqV:V->V->Bool
 | .non, .non=>true
 | .bl a, .bl b=>a==b
 | .bl a, .int b=>(if a then 1 else 0)==b
 | .int a, .bl b=>a==(if b then 1 else 0)
 | .int a, .int b=>a==b
 | .str a, .str b=>a==b
 |_,_=>false
theorem zrb{y x:V}{v:Value}(ry:RelV y u)(rx:RelV x v)(fy:zdW y=true)(fx:zdW x=true):SeqAt.EqAt A s u v (eqV y x):=by
 cases y with
 |non=>
  cases ry
  cases x with
  |non=>cases rx;exact SeqAt.EqAt.same _
  |bl b=>cases rx;exact SeqAt.EqAt.none_bool b
  |int b=>obtain ⟨t,rfl⟩:=rx;exact SeqAt.EqAt.none_int b t
  |str b=>obtain ⟨t,rfl⟩:=rx;exact SeqAt.EqAt.none_str b t
  |_=>exact absurd (show false=true from fx) O1
 |bl a=>
  cases ry
  cases x with
  |non=>cases rx;exact SeqAt.EqAt.bool_none a
  |bl b=>cases rx;exact SeqAt.EqAt.bool_bool a b
  |int b=>obtain ⟨t,rfl⟩:=rx;exact SeqAt.EqAt.bool_int a b t
  |str b=>obtain ⟨t,rfl⟩:=rx;exact SeqAt.EqAt.bool_str a b t
  |_=>exact absurd (show false=true from fx) O1
 |int a=>
  obtain⟨t',rfl⟩:=ry
  cases x with
  |non=>cases rx;exact SeqAt.EqAt.int_none a t'
  |bl b=>cases rx;exact SeqAt.EqAt.int_bool a t' b
  |int b=>obtain ⟨t,rfl⟩:=rx;exact SeqAt.EqAt.int_int a t' b t
  |str b=>obtain ⟨t,rfl⟩:=rx;exact SeqAt.EqAt.int_str a t' b t
  |_=>exact absurd (show false=true from fx) O1
 |str a=>
  obtain⟨t',rfl⟩:=ry
  cases x with
  |non=>cases rx;exact SeqAt.EqAt.str_none a t'
  |bl b=>cases rx;exact SeqAt.EqAt.str_bool a t' b
  |int b=>obtain ⟨t,rfl⟩:=rx;exact SeqAt.EqAt.str_int a t' b t
  |str b=>obtain ⟨t,rfl⟩:=rx;exact SeqAt.EqAt.str_str a t' b t
  |_=>exact absurd (show false=true from fx) O1
 |_=>exact absurd (show false=true from fy) O1
noncomputable def eqU(x:V)(u:Value):Bool:=match u with
 | .none=>eqV .non x
 | .bool b=>eqV (.bl b) x
 | .int i _=>eqV (.int i) x
 | .str z _=>eqV (.str z) x
 |_=>false
theorem zow{x y:V}(r:RelV y u)(f:zdW y=true):eqU x u=eqV y x:=by
 cases y with
 |non=>cases r;rfl
 |bl b=>cases r;rfl
 |int i=>obtain ⟨t,rfl⟩:=r;rfl
 |str z=>obtain ⟨t,rfl⟩:=r;rfl
 |_=>exact absurd (show false=true from f) O1
theorem zd0{x:V}:∀{xs:List V} {us:List Value},Vals xs us->xs.all zdW=true->us.any (eqU x)=xs.any λy=>eqV y x
 |_,_, .nil,_=>rfl
 |y::xs,u::us, .cons r t,f=>by
  rw[List.all_cons,E1] at f
  rw[List.any_cons,List.any_cons,zow r f.1,zd0 t f.2]
theorem zcP{A:Around}{s:Shared}{x:V}{v:Value}(rx:RelV x v)(fx:zdW x=true):∀{xs:List V} {us:List Value},Vals xs us->xs.all zdW=true->∀u∈us,SeqAt.EqAt A s u v (eqU x u)
 |_,_, .nil,_=>λu hu=>by cases hu
 |y::xs,u::us, .cons r t,f=>λu' hu=>by
  rw[List.all_cons,E1] at f
  rcases R0.mp hu with rfl|hu
  ·rw[zow r f.1];exact zrb r rx f.1 fx
  ·exact zcP rx fx t f.2 u' hu
noncomputable def inV(x:V)(xs:List V):Bool:=xs.any λy=>eqV y x
noncomputable def rIn(K:W.Frag)(neg:Bool):R2:=λx y H Q=>∃p xs,y= .ref p/\(SqL K H p xs\/SqT K H p xs)/\zdW x=true/\xs.all zdW=true/\Q (.bl (if neg then !inV x xs else inV x xs)) H
theorem zdh:OpR X (compareOp .In) (rIn X.K false):=by
 intro pins s σ H x y v u Q I rx ry h
 obtain⟨p,xs,rfl,hq,fx,fs,q⟩:=h
 cases ry
 rcases hq with hq|hq
 ·obtain ⟨its,r,pl,hz⟩:=I.list hq
  refine SeqAt.in_listAt (eqU x) pl.isList (λw hw=>zcP rx fx r fs w (by simpa using hw)) ⟨.bl _,H,I,rfl,?_⟩
  rw[show its.toArray.any (eqU x)=its.any (eqU x) by simp,zd0 r fs]
  exact q
 ·obtain ⟨its,r,pl,hz⟩:=I.tuple hq
  refine SeqAt.in_tupleAt (eqU x) pl (λw hw=>zcP rx fx r fs w (by simpa using hw)) ⟨.bl _,H,I,rfl,?_⟩
  rw[show its.toArray.any (eqU x)=its.any (eqU x) by simp,zd0 r fs]
  exact q
theorem zhz:OpR X (compareOp .NotIn) (rIn X.K true):=by
 intro pins s σ H x y v u Q I rx ry h
 obtain⟨p,xs,rfl,hq,fx,fs,q⟩:=h
 cases ry
 rcases hq with hq|hq
 ·obtain ⟨its,r,pl,hz⟩:=I.list hq
  refine SeqAt.notIn_listAt (eqU x) pl.isList (λw hw=>zcP rx fx r fs w (by simpa using hw)) ⟨.bl _,H,I,rfl,?_⟩
  rw[show its.toArray.any (eqU x)=its.any (eqU x) by simp,zd0 r fs]
  exact q
 ·obtain ⟨its,r,pl,hz⟩:=I.tuple hq
  refine SeqAt.notIn_tupleAt (eqU x) pl (λw hw=>zcP rx fx r fs w (by simpa using hw)) ⟨.bl _,H,I,rfl,?_⟩
  rw[show its.toArray.any (eqU x)=its.any (eqU x) by simp,zd0 r fs]
  exact q
theorem zhA:CallR X (.builtin "len") (λxs H Q=>∃p ys,xs=[.ref p]/\(SqL X.K H p ys\/SqT X.K H p ys)/\Q (.int ys.length) H):=by
 intro pins s σ H xs us Q I r h
 obtain⟨p,ys,rfl,hq,q⟩:=h
 obtain⟨u,rfl,rx⟩:=za8 r
 cases rx
 have hn:=zdy
 rcases hq with hq|hq
 ·obtain ⟨its,r',pl,hz⟩:=I.list hq
  have hlen:=r'.length
  exact Calls.call_len_list pl.isList (by simp only[G1]<;>lia) ⟨.int ys.length,H,I.tok _,⟨s.toks+1,by rw[G1,hlen]⟩,q⟩
 ·obtain ⟨its,r',pl,hz⟩:=I.tuple hq
  have hlen:=r'.length
  exact len_tuple pl (by simp only[G1]<;>lia) ⟨.int ys.length,H,I.tok _,⟨s.toks+1,by rw[G1,hlen]⟩,q⟩
theorem zhe:CallR X (.builtin "len") (λxs H Q=>∃z,xs=[.str z]/\z.length<=sizeLine/\Q (.int z.length) H):=by
 intro pins s σ H xs us Q I r h
 obtain⟨z,rfl,hz,q⟩:=h
 obtain⟨u,rfl,t,rfl⟩:=za8 r
 have hn:=zdy
 exact len_str () ⟨.int z.length,H,I.tok _,⟨_,rfl⟩,q⟩
theorem CallR.or{f:Value}{r r':List V->Hp->VK->Prop}(h:CallR X f r)(h':CallR X f r'):CallR X f (λxs H Q=>r xs H Q\/r' xs H Q):=by
 intro pins s σ H xs us Q I rs q
 rcases q with q|q
 ·exact h pins s σ H xs us Q I rs q
 ·exact h' pins s σ H xs us Q I rs q
theorem zJ:CallR X (.type "tuple") (λxs H Q=>∃p ys,xs=[.ref p]/\((SqL X.K H p ys/\∀l,H l=none->Q (.ref l) (upd H l (.tup ys)))\/(SqT X.K H p ys/\Q (.ref p) H))):=by
 intro pins s σ H xs us Q I r h
 obtain⟨p,ys,rfl,h⟩:=h
 obtain⟨u,rfl,rx⟩:=za8 r
 cases rx
 rcases h with⟨hq,q⟩|⟨hq,q⟩
 ·obtain ⟨its,r',pl,hz⟩:=I.list hq
  have hlen:=r'.length
  refine call_tuple_list pl.isList (λh' kp=>?_) (by simp only[G1]<;>lia)
  have I1:Inv X pins σ H {s with heap:=h'}:=I.kept (t':=s.toks) kp
  have I2:Inv X pins σ (upd H h'.objs.size (.tup ys)) {s with heap:=h'.push {cls:= .type "tuple",data:= .seq its.toArray}}:=
   I1.laid (t':=s.toks) (λb o e=>G0 _ e) (L0 _) (show ObjOk X.prog X.w _ _ _ (.tup ys)from⟨hz,its,r',IsTup.new _ _,NoDict.new rfl (T0 _ rfl)⟩)
  exact⟨.ref h'.objs.size,_,I2,rfl,q _ (I1.hok.fresh (L0 _))⟩
 ·obtain ⟨its,r',pl,hz⟩:=I.tuple hq
  exact call_tuple_same pl ⟨.ref p,H,I,rfl,q⟩
def tyV(K:W.Frag)(T:String)(x:V)(H:Hp):Prop:=match x with
 | .str _=>T="str"
 | .int _=>T="int"
 | .ref p=>(T="list"/\∃xs,SqL K H p xs)\/(T="tuple"/\∃o,K.lookup p=some o/\o.cls= .type "tuple"/\o.dict=none)\/
    (T="dict"/\((∃kvs,H p=some (.dK kvs))\/∃kvs,H p=some (.dT kvs)))\/(T="set"/\∃S n,H p=some (.set S n))\/(T="tuple"/\∃xs,H p=some (.tup xs))
 |_=>False
theorem zmN{x:V}{v:Value}(I:Inv X pins σ H s)(r:RelV x v)(ty:tyV X.K T x H):
 s.TypeIs v T/\∀a,v= .ref a->∃ob,s.heap.get? a=some ob/\ob.dict=none:=by
 cases x with
 |str z=>
  obtain⟨t,rfl⟩:=r
  cases(show T="str"from ty)
  exact⟨typeIs_str s z t,λ_ e=>nomatch e⟩
 |int i=>
  obtain⟨t,rfl⟩:=r
  cases(show T="int"from ty)
  exact⟨typeIs_int s i t,λ_ e=>nomatch e⟩
 |ref p=>
  cases r
  rcases ty with⟨rfl,xs,hq⟩|⟨rfl,o,hk,hc,hd⟩|⟨rfl,hk⟩|⟨rfl,S,n,hk⟩|⟨rfl,xs,hk⟩
  ·obtain ⟨its,_,pl,_⟩:=I.list hq
   refine⟨pl.isList.typeIs,λa e=>?_⟩
   cases e
   obtain⟨o,n,e,c,hd,_⟩:=pl
   exact⟨o,e,hd⟩
  ·refine ⟨⟨o,I.kIn p o hk,hc⟩,λa e=>?_⟩
   cases e
   exact⟨o,I.kIn _ o hk,hd⟩
  ·have z:∃o,s.heap.get? p=some o/\o.ExactDict:=by
    rcases hk with⟨kvs,hk⟩|⟨kvs,hk⟩
    ·obtain ⟨_,_,_,_,o,_,_,e,ex,_⟩:=I.hok p _ hk
     exact⟨o,e,ex⟩
    ·obtain ⟨_,_,_,_,o,_,_,e,ex,_⟩:=I.hok p _ hk
     exact⟨o,e,ex⟩
   obtain⟨o,e,ex⟩:=z
   refine⟨⟨o,e,ex.1⟩,λa e2=>?_⟩
   cases e2
   exact⟨o,e,ex.2.1⟩
  ·obtain ⟨o,_,_,_,e,ex,_⟩:=I.hok p _ hk
   refine⟨⟨o,e,ex.1⟩,λa e2=>?_⟩
   cases e2
   exact⟨o,e,ex.2.1⟩
  ·obtain ⟨_,_,_,⟨o,e,c,_⟩,nd⟩:=I.hok p _ hk
   refine⟨⟨o,e,c⟩,λa e2=>?_⟩
   cases e2
   exact⟨o,e,nd o e⟩
 |_=>exact False.elim ty
def zsK(K:W.Frag)(T:String)(r:V->List V->Hp->VK->Prop)(to:TE):TE:=λσ H Q=>to σ H λx H1=>tyV K T x H1/\r x [] H1 Q
def tBM(K:W.Frag)(T:String)(r:V->List V->Hp->VK->Prop)(to:TE)(t:TA):TE:=λσ H Q=>to σ H λx H1=>tyV K T x H1/\t σ H1 λxs H2=>r x xs H2 Q
variable{o:Expr}{to:TE}{t:TA}{id:String}{r:V->List V->Hp->VK->Prop}
theorem zsf(pa:PlainAttrs T)(slot:Slot T name id)(hty:typeOf (.builtin id)=pure (.type "method_descriptor"))(hm:MtR X id r)(ho:PE X o to)
 (hbase:autoParam (attributeBase o name X.env (eval o X.env)=eval o X.env) y3) (hline:autoParam ((apos.endLine==cpos.line)=true) y3):PE X (.Call (.Attribute o name apos) [] [] cpos) (zsK X.K T r to):=by
 intro pins s σ H Q I h
 refine wpAny_Call_method0_late hbase hline (thn (ho pins s σ H _ I h) λv s1 zq=>?_)
 obtain⟨x,H1,I1,r1,ty,q1⟩:=zq
 obtain⟨h1,h2⟩:=zmN I1 r1 ty
 exact⟨T,id,pa,slot,hty,h1,h2,Calls.callWith_builtin rfl (PySem.evalArgs_none (hm pins s1 σ H1 x [] v [] Q I1 r1 .nil q1))⟩
theorem zsF(pa:PlainAttrs T)(slot:Slot T name id)(hty:typeOf (.builtin id)=pure (.type "method_descriptor"))(hm:MtR X id r)(ho:PE X o to)(ha:PA X (e::es) t)
 (hbase:autoParam (attributeBase o name X.env (eval o X.env)=eval o X.env) y3)
 (hfew:autoParam (((backTo cpos (starEach (e::es) X.env)).all (λx=>!x.1)&&(backToKw cpos (keywordEach [] X.env)).all (λx=>x.1.isSome)
   &&decide ((e::es).length+([]:List Keyword).length+(if([]:List Keyword).isEmpty then 0 else 1)<30))=true) y3)
 (hline:autoParam ((apos.endLine==cpos.line)=true) y3) (hs:autoParam (starEach (e::es) X.env=(false,eval e X.env)::starEach es X.env) y3) (hplain:autoParam ((backTo cpos (starEach es X.env)).any (·.1)=false) y3):
 PE X (.Call (.Attribute o name apos) (e::es) [] cpos) (tBM X.K T r to t):=by
 intro pins s σ H Q I h
 refine wpAny_Call_method_late hbase hfew hline rfl (thn (ho pins s σ H _ I h) λv s1 zq=>?_)
 obtain⟨x,H1,I1,r1,ty,q1⟩:=zq
 obtain⟨h1,h2⟩:=zmN I1 r1 ty
 refine⟨T,id,pa,slot,hty,h1,h2,?_⟩
 have hA:=ha cpos pins s1 σ H1 _ I1 q1
 rw[hs] at hA⊢
 refine Calls.callWith_builtin (by show(false||(backTo cpos (starEach es X.env)).any (·.1))=false;rw[hplain]<;>rfl) (Calls.evalArgs_plain ?_)
 refine thn hA λus s2 zq=>?_
 obtain⟨vs,H2,I2,r2,q2⟩:=zq
 exact hm pins s2 σ H2 x vs v us Q I2 r1 r2 q2
end
def MtM(X:Cx)(id:String)(r:V->List V->Hp->VK->Prop):Prop:=
 ∀(pins:List (Addr×Obj)) (s:Shared) (σ:St) (H:Hp) (x:V) (xs:List V) (v:Value) (us:List Value) (Q:VK),Inv X pins σ H s->RelV x v->Vals xs us->r x xs H Q->
  wpAny `W3 X.A (call (.builtin id) (v::us)) (EP X pins σ Q) X.xe s
theorem Vals.one{x:V}(h:Vals [x] us):∃u,us=[u]/\RelV x u:=by
 cases h with
 |cons r t=>cases t;exact⟨_,rfl,r⟩
theorem Vals.zero:∀{us:List Value},Vals [] us->us=[]
 |_, .nil=>rfl
theorem Vals.dropLast(h:Vals xs us):Vals xs.dropLast us.dropLast:=by
 induction h with
 |nil=>exact .nil
 |cons r t ih=>
  cases t with
  |nil=>exact .nil
  |cons q t'=>exact .cons r ih
theorem zkc(l:List α):l.eraseIdx (l.length -1)=l.dropLast:=by
 induction l with
 |nil=>rfl
 |cons a r ih=>
  cases r with
  |nil=>rfl
  |cons b r=>
   have e:(a::b::r).length -1=((b::r).length -1)+1:=by
    have h1:(a::b::r).length=r.length+2:=rfl
    have h2:(b::r).length=r.length+1:=rfl
    lia
   rw[e,List.eraseIdx_cons_succ,ih]
   all_goals rfl
section
variable{b:Addr}{zs:List V}
theorem Inv.lset{f:Array Value->Array Value}(I:Inv X pins σ H s)(hH:H l=some (.lst xs))
 (e:s.heap.get? l=some {cls:= .type "list",data:= .seq its.toArray n}) (hf:f its.toArray=its'.toArray) (hv:Vals ys its') (hz:ys.length<=sizeLine):
 Inv X pins σ (upd H l (.lst ys)) {s with heap:=s.heap.update l (Obj.mapSeq f),toks:=t'}:=by
 have q:=IsL.update e f
 rw[hf] at q
 refine I.write (x:=l) (e:=l) (by rw[hH];exact trivial) (.inl rfl) (λb' u hb hu=>(Heap.get?_update_other s.heap (Obj.mapSeq f) (Ne.symm hb)).trans hu) ⟨_,q⟩ ?_
 exact⟨hz,its',_,hv,q⟩
theorem Inv.lnew(I:Inv X pins σ H s)(hv:Vals ys its)(hz:ys.length<=sizeLine):
 Inv X pins σ (upd H s.heap.objs.size (.lst ys)) {s with heap:=s.heap.push {cls:= .type "list",data:= .seq its.toArray},toks:=t'}:=
 I.laid (λ_ _ q=>G0 _ q) (L0 _) ⟨hz,its,0,hv,T0 _ rfl⟩
theorem Inv.fresh(I:Inv X pins σ H s):H s.heap.objs.size=none:=I.hok.fresh (L0 _)
theorem Inv.lstM(I:Inv X pins σ H s)(hH:H l=some (.lst xs)):xs.length<=sizeLine/\∃(its:List Value) (n:Nat),Vals xs its/\xs.length=its.length/\s.heap.get? l=some {cls:= .type "list",data:= .seq its.toArray n}:=by
 obtain⟨z,its,n,r,e⟩:=I.hok l _ hH
 exact⟨z,its,n,r,r.length,e⟩
theorem zn1(h:n<=sizeLine):Builtin.List.listTooLong n=false:=by
 unfold Builtin.List.listTooLong
 exact A1 ()
end
def zqi:V->List V->Hp->VK->Prop:=λx vs H Q=>∃l xs y,x= .ref l/\vs=[y]/\H l=some (.lst xs)/\xs.length<sizeLine/\Q .non (upd H l (.lst (xs ++ [y])))
theorem z5:MtM X "list.append" zqi:=by
 intro pins s σ H x vs v us Q I rx rv h
 obtain⟨l,xs,y,rfl,rfl,hH,hz,q⟩:=h
 cases rx
 obtain⟨u,rfl,ru⟩:=rv.one
 obtain⟨z,its,n,r,hl,e⟩:=I.lstM hH
 refine call_meets F.slot_list_append ⟨_,e,rfl⟩ F.entry_list_append (F.args_list_append_2 _ _) (PySem.list_append l its.toArray n u (by rw[G1];lia)) ⟨e,?_⟩
 refine⟨.non,_,I.lset (its':=its ++ [u]) hH e `j3 (r.append (.cons ru .nil)) ?_,rfl,q⟩
 rw[Z0,List.length_singleton]
 lia
def zpw:V->List V->Hp->VK->Prop:=λx vs H Q=>∃l b xs zs,x= .ref l/\vs=[.ref b]/\H l=some (.lst xs)/\H b=some (.lst zs)/\xs.length+zs.length<=sizeLine/\Q .non (upd H l (.lst (xs ++zs)))
theorem zmg:MtM X "list.extend" zpw:=by
 intro pins s σ H x vs v us Q I rx rv h
 obtain⟨l,b,xs,zs,rfl,rfl,hH,hB,hz,q⟩:=h
 cases rx
 obtain⟨u,rfl,ru⟩:=rv.one
 cases ru
 obtain⟨z,its,n,r,hl,e⟩:=I.lstM hH
 obtain⟨z2,its2,n2,r2,hl2,e2⟩:=I.lstM hB
 have hsz:its.toArray.size+its2.toArray.size<=sizeLine:=by rw[G1,G1];lia
 have hlong:¬(!its.toArray.isEmpty&&Builtin.List.listTooLong (its.toArray.size+its2.toArray.size))=true:=by
  rw[zn1 hsz,Bool.and_false]
  exact O1
 refine call_meets F.slot_list_extend ⟨_,e,rfl⟩ F.entry_list_extend (F.args_list_extend_2 _ _)
  (AutoSeq1.list_extend_list_list_0 l its.toArray n b its2.toArray n2 hlong (by rw[G1];lia) ()) ⟨e,e2,?_⟩
 refine⟨.non,_,I.lset (its':=its ++its2) hH e `j3 (r.append r2) ?_,rfl,q⟩
 rw[Z0]
 lia
def ztL:V->List V->Hp->VK->Prop:=λx vs H Q=>∃l xs y,x= .ref l/\vs=[]/\H l=some (.lst xs)/\xs[xs.length -1]?=some y/\Q y (upd H l (.lst xs.dropLast))
theorem zsx:MtM X "list.pop" ztL:=by
 intro pins s σ H x vs v us Q I rx rv h
 obtain⟨l,xs,y,rfl,rfl,hH,hy,q⟩:=h
 cases rx
 have hus:=rv.zero
 subst hus
 obtain⟨z,its,n,r,hl,e⟩:=I.lstM hH
 obtain⟨u,hu,ru⟩:=r.get hy
 have hy':its.toArray[its.toArray.size -1]?=some u:=by
  show its.toArray[its.length -1]?=some u
  rw[←Array.getElem?_toList,←hl]
  exact hu
 refine call_meets F.slot_list_pop ⟨_,e,rfl⟩ F.entry_list_pop (F.args_list_pop_1 _) (MeetsSeq.list_pop_last l its.toArray n u hy' (by rw[G1];lia)) ⟨e,?_⟩
 refine⟨y,_,I.lset (its':=its.dropLast) hH e ?_ r.dropLast ?_,ru,q⟩
 ·show its.toArray.eraseIdxIfInBounds (its.toArray.size -1)=its.dropLast.toArray
  rw[G1,List.eraseIdxIfInBounds_toArray,zkc]
 ·rw[List.length_dropLast]
  lia
noncomputable def ztJ:R2:=λx y H Q=>∃l b xs zs,x= .ref l/\y= .ref b/\H l=some (.lst xs)/\H b=some (.lst zs)/\xs.length+zs.length<=sizeLine/\∀p,H p=none->Q (.ref p) (upd H p (.lst (xs ++zs)))
theorem zq6:OpR X (binaryOp .Add) ztJ:=by
 intro pins s σ H x y v u Q I rx ry h
 obtain⟨l,b,xs,zs,rfl,rfl,hH,hB,hz,q⟩:=h
 cases rx
 cases ry
 obtain⟨z,its,n,r,hl,e⟩:=I.lstM hH
 obtain⟨z2,its2,n2,r2,hl2,e2⟩:=I.lstM hB
 refine P.add_list e e2 ?_ (by rw[G1,G1];lia)
 have ea:its.toArray ++its2.toArray=(its ++its2).toArray:=`j3
 rw[ea]
 exact⟨.ref _,_,I.lnew (t':=s.toks) (r.append r2) (by rw[Z0];lia),rfl,q _ I.fresh⟩
section
set_option maxRecDepth 100000 in
end
section
open PySem.W PySem.Calls
theorem ze1{P:Params}:∀(ns:List Int) (vs:List Value),WellAll P h vs (ns.map WData.int)->IntsAre vs ns:=by
 intro ns
 induction ns with
 |nil=>
  intro vs w
  rw[List.map_nil] at w
  cases w
  exact .nil
 |cons n ns ih=>
  intro vs w
  rw[V1] at w
  cases w with
  |cons a b=>
   cases a
   exact .cons _ _ (ih _ b)
theorem zlq{l:OpenLaw}(hn:l.most=some n){P:Params}{args:List WData}{vals:List Value}
 (hpre:l.row.toRowW.claim.pre args=true) (hwl:WellAll P h vals args):
 ∃a vs ns,vals=[Value.ref a]/\args=[WData.list (ns.map WData.int)]/\h.get? a=some {cls:= .type "list",data:= .seq vs.toArray}/\IntsAre vs ns/\ns.length<=n:=by
 have hsh:WShape.hasAll [] args [.list .int]=true:=(pre_splitW hpre).1
 have hc:l.pre.holds [] {args:=args}=true:=(pre_splitW hpre).2
 obtain⟨d,r,rfl,h1,h2⟩:=hasAllW_cons hsh
 obtain rfl:=hasAllW_nil h2
 obtain⟨xs,rfl,h3⟩:=hasW_list h1
 obtain⟨ns,rfl⟩:=items_int h3
 have hlen:ns.length<=n:=by
  unfold OpenLaw.pre at hc
  have h4:(WTm.not (.lt (.lit (.int (n:Int))) (.len (.arg 0)))).holds [] {args:=[.list (ns.map .int)]}=true:=by
   have h4:=(holds_andW hc).1
   rw[hn] at h4
   exact h4
  have h5:=condW_of h4 (w_not (w_lt w_lit (w_len_list (w_arg rfl))))
  rw[C0] at h5
  refine Nat.le_of_not_lt λq=>?_
  have q':(n:Int)<((ns.length:Nat):Int):=()
  first
   |(rw[U0 q'] at h5;exact absurd h5 ⋯)
   |(simp at h5;lia)
 cases hwl with
 |cons w1 w2=>
  cases w2
  cases w1 with
  |list ho hall=>exact ⟨_,_,ns,rfl,rfl,ho,ze1 ns _ hall,hlen⟩
theorem zlz(l:OpenLaw)(args:List WData):l.row.toRowW.claim.post args (.bool true) args=true:=
 postW_of (r:=l.row.toRowW) (X:=(true==true))
  (show WShape.has [] (.bool true) .bool=true by first|rfl|decide|simp[WShape.has,WShape.arms,WShape.armsAll])
  (show(WTm.eq .res (.lit (.bool true))).value [] {args:=args,res:=some (.bool true),after:=args}=some (.bool (true==true))from w_eq_bool (w_res rfl) w_lit) rfl
theorem attach_call{l:OpenLaw}{q:Program}{d:DefRec}
 (hn:l.most=some n) (hdf:d.params.defaults=[])
 (call:∀(w:World) (s₀ s₁:Shared) (mg mb:Str->Option Value) (fa:Addr) (o:Obj) (pm cd doc:Value) (a:Addr) (vs:List Value) (ns:List Int),
   Ground q loose [] XP w s₀ mg mb s₁.heap->YP w s₁.heap->
   s₁.heap.get? fa=some o->o.data= .func (docDef d.name d.params d.body d.scope pm cd doc)->s₁.heap.CodeRec cd d.name->mg d.name=some (.ref fa)->
   s₁.heap.get? a=some {cls:= .type "list",data:= .seq vs.toArray}->IntsAre vs ns->ns.length<=n->s₁.gens= #[]->
   codeAny (model l.prog w) callerA (.call (.ref fa) ⟨[.ref a],[]⟩) (λr s'=>r= .ok (.ret (.bool true))/\OldK s₁.heap s'.heap/\s'.os=s₁.os/\AllBare s'.gens) s₁):
 WalkO q loose XP YP l.row.toRowW d [] (λf vs=>PySem.call f vs):=by
 intro w s₀ s₁ mg mb G Y fa o pm cd doc dV kV ho hd hcd hD hmg hg args vals as hpre hlay hrd hwl hlo
 obtain rfl:dV= .none:=Dflts.none hD hdf
 obtain rfl:kV= .none:=Dflts.noKw hD
 obtain⟨a,vs,ns,rfl,rfl,hobj,hints,hlen⟩:=zlq hn hpre hwl
 refine enter_call (codeAny_mono (call w s₀ s₁ mg mb fa o pm cd doc a vs ns G Y ho (fd_plain hd) hcd hmg hobj hints hlen hg) λr s' hq=>?_)
 obtain⟨rfl,h2,h3,h4⟩:=hq
 exact⟨.inl ⟨.bool true, .bool true,[],rfl,λ_=>rfl, .bool true,zlz l _,λ_=>⟨List.Pairwise.nil,λ_ hm=>(nomatch hm)⟩⟩,h2,h3,h4⟩
section
variable{K:Frag}
end
end
theorem zgL:∀{vs:List Value} {ns:List Int},IntsAre vs ns->Vals (ns.map V.int) vs
 |_,_, .nil=> .nil
 |_,_, .cons n t h=> .cons ⟨t,rfl⟩ (zgL h)
def zrN(H:Hp):Prop:=∀b,H b=none\/∃o xs,H b=some (.frz o (.lst xs))
theorem zmF{mg mb:Str->Option Value}{k:Nat}{s₁:Shared}{vs:List Value}{ns:List Int}
 (KX:K.In s₁.heap) (hns:s₁.heap.Ns mainGlobals mg) (hb:s₁.heap.Ns builtinsNs mb) (hbb:∀x:Str,x≠"__name__"->mb x=bootBuiltins x) (hlim:s₁.heap.NoLimit) (hg:s₁.gens= #[])
 (ha:s₁.heap.get? a=some {cls:= .type "list",data:= .seq vs.toArray}) (hi:IntsAre vs ns) (hl:ns.length<=sizeLine) (hr:Room k callerA)
 (F:∀base:Heap,K.In base->base.Ns mainGlobals mg->FnOk P w K mg base CX k fa fd [x] sp) (hbind:∀(s:Shared) (u:Value),BindsTo s fd ⟨[u],[]⟩ [(x,u)])
 (hsp:∀H:Hp,zrN H->SqL K H a (ns.map V.int)->sp [.ref a] H (λv _=>v= .bl true) λ_ _ _=>False)
 (hCX:∀H e s',CX [] H s₁ (λ_ _ _=>False) e s'->False):
 codeAny (model P w) callerA (.call (.ref fa) ⟨[.ref a],[]⟩) (λr s'=>r= .ok (.ret (.bool true))/\OldK s₁.heap s'.heap/\s'.os=s₁.os/\AllBare s'.gens) s₁:=by
 have rv:=zgL hi
 have lenV:=hi.length
 have core:∀H:Hp,zrN H->SqL K H a (ns.map V.int)->HOk P w H s₁.heap->(∀b,H b≠none->b=a)->(H a≠none->K.lookup a=none)->
  codeAny (model P w) callerA (.call (.ref fa) ⟨[.ref a],[]⟩) (λr s'=>r= .ok (.ret (.bool true))/\OldK s₁.heap s'.heap/\s'.os=s₁.os/\AllBare s'.gens) s₁:=by
  intro H hO hS hok hA hK
  have base_of:∀{b:Addr} {o:Obj},s₁.heap.get? b=some o->H b=none->(zhN s₁.heap H).get? b=some o:=λe n=>zm0 e n
  have noA:∀{b:Addr} {o:Obj} {es:Array DictEntry} {ep:Nat},s₁.heap.get? b=some o->o.data= .dict es ep->H b=none:=λ{b o es ep} e d=>by
   cases q:H b with
   |none=>rfl
   |some u=>
    have e':b=a:=hA b (by rw[q];simp)
    subst e'
    rw[ha] at e;cases e
    have d':Data.seq vs.toArray _=Data.dict es ep:=d
    cases d'
  have nsK:∀{b:Addr} {m:Str->Option Value},s₁.heap.Ns b m->(zhN s₁.heap H).Ns b m:=λ{b m} ⟨o,es,ep,e,d,r⟩=>⟨o,es,ep,base_of e (noA e d),d,r⟩
  have hKb:K.In (zhN s₁.heap H):=λb o e=>base_of (KX b o e) (by
   cases q:H b with
   |none=>rfl
   |some u=>
    have e':b=a:=hA b (by rw[q];simp)
    subst e'
    rw[hK (by rw[q];simp)] at e;cases e)
  have hM:Mod K mg (zhN s₁.heap H):=⟨hKb,nsK hns,⟨mb,nsK hb,hbb⟩,let⟨mc,h1,h2⟩:=hlim;⟨mc,nsK h1,h2⟩⟩
  have e0:Env0 P w K mg (zhN s₁.heap H) callerA [] s₁ H:=⟨rfl,hM,λb o e=>zpK e,Nat.le_of_eq (zlX _ _),trivial,λb hb=>absurd (show b∈([]:List Addr)from hb) `j3,hok, .of_eq hg⟩
  refine codeAny_mono ((F _ hKb (nsK hns)).run callerA [] s₁ H ⟨[.ref a],[]⟩ [.ref a] [.ref a] _ _ hr e0 (hbind s₁ (.ref a)) (.cons rfl .nil) (hsp H hO hS)) λr s' h=>?_
  cases r with
  |error e=>exact (hCX H e s' h).elim
  |ok fl=>
   cases fl with
   |next=>exact False.elim h
   |brk=>exact False.elim h
   |cont=>exact False.elim h
   |ret u=>
    obtain⟨v,H',os,bare,un,hok',r',q⟩:=h
    have q':v= .bl true:=q
    subst q'
    obtain rfl:u=Value.bool true:=r'
    refine⟨rfl,OldK.of_keep λb o e=>?_,os,bare⟩
    cases q:H b with
    |none=>exact un.keep b o e q (by intro z;exact absurd (show b∈([]:List Addr)from z) `j3) `j3
    |some u=>
     rcases hO b with z|⟨ob,xs,z⟩
     ·rw[q] at z;cases z
     ·have z2:=un.frzs b ob _ z
      obtain⟨e1,_⟩:=hok b _ z
      obtain⟨e2,_⟩:=hok' b _ z2
      rw[e] at e1;cases e1
      exact e2
 cases hk:K.lookup a with
 |some o=>
  have e:=KX a o hk
  rw[ha] at e
  cases e
  refine core (λ_=>none) (λ_=> .inl rfl) (.inr ⟨_,vs.toArray,_,hk,rfl,rfl,rfl,by rw[G1,lenV];exact hl,by simpa using rv⟩) (λb u z=>by have z':(none:Option HO)=some u:=z;cases z') (λb z=>absurd rfl z) λz=>absurd rfl z
 |none=>
  refine core (λb=>if b=a then some (.frz {cls:= .type "list",data:= .seq vs.toArray} (.lst (ns.map V.int)))else none) (λb=>?_) (.inl (.inr ⟨{cls:= .type "list",data:= .seq vs.toArray},c0 rfl⟩)) (λb u z=>?_) (λb z=>?_) λ_=>hk
  ·by_cases hb:b=a
   ·exact .inr ⟨_,_,c0 hb⟩
   ·exact .inl (P0 hb)
  ·by_cases hb:b=a
   ·have z':=(c0 hb).symm.trans z
    cases z'
    subst hb
    exact⟨ha,by rw[C0];exact hl,vs,_,rv,ha⟩
   ·have z':=(P0 hb).symm.trans z
    cases z'
  ·by_cases hb:b=a
   ·exact hb
   ·exact absurd (P0 hb) z
theorem walk_of{l:W.OpenLaw}{k:Nat}{q:Program}{d:DefRec}{K:Params->W.Frag}{CX:World->CXT}{sp:World->Sp}
 (hn:l.most=some n) (hn2:n<=sizeLine) (hdf:d.params.defaults=[]) (hr:Room k callerA)
 (hY:∀(w:World) (h:Heap),YP w h->(K w.params).In h)
 (F:∀(w:World) (mg:Str->Option Value) (fa:Addr) (h:Heap),(K w.params).In h->h.Ns mainGlobals mg->mg d.name=some (.ref fa)->
   ∃fd:FuncData,(∀(s:Shared) (u:Value),BindsTo s fd ⟨[u],[]⟩ [(x,u)])/\
    ∀base:Heap,(K w.params).In base->base.Ns mainGlobals mg->FnOk l.prog w (K w.params) mg base (CX w) k fa fd [x] (sp w))
 (hsp:∀(w:World) (H:Hp) (a:Addr) (ns:List Int),ns.length<=n->zrN H->SqL (K w.params) H a (ns.map V.int)->sp w [.ref a] H (λv _=>v= .bl true) λ_ _ _=>False)
 (hCX:∀(w:World) (H:Hp) (s:Shared) (e:Value) (s':Shared),CX w [] H s (λ_ _ _=>False) e s'->False):
 W.WalkO q loose XP YP l.row.toRowW d [] (λf vs=>PySem.call f vs):=by
 refine attach_call hn hdf λw s₀ s₁ mg mb fa o pm cd doc a vs ns G Y ho hd hcd hmg hobj hints hlen hg=>?_
 have KX:=hY w _ Y
 obtain⟨fd,hb,hF⟩:=F w mg fa _ KX G.T.g hmg
 exact zmF KX G.T.g G.T.b G.T.builtins G.T.nolimit hg hobj hints (B2 hlen hn2) hr hF hb (λH hO hS=>hsp w H a ns hlen hO hS) λH e s'=>hCX w H s₁ e s'
noncomputable abbrev CX0:CXT:=λ_ _ _ _ _ _=>False
noncomputable abbrev E0:XK:=λ_ _ _=>False
theorem zu:zhh CX0 X E0:=λ_ _ _ _ _ _ _ h=>h.elim
structure Fun(K:W.Frag)(x qual:Str)(st:Stmt)(f:Addr)(fd:FuncData):Prop where
 ex:∃(oc:Value) (od:Option Addr) (kV doc pm:Value) (an:Option Addr) (cdv ct:Value) (osl:Array (Option Value)),
  fd=W.fnOf x qual (zY st) (zL st) (ze st) .none kV doc pm an cdv ct/\K.lookup f=some ⟨oc,od, .func fd,osl⟩/\W.codeIn K cdv qual=true
 kp:W.keepIn K (.ref f)=true
section
variable{mg:Str->Option Value}{base:Heap}
theorem Fun.ok{st:Stmt}{ps:List Str}{k:Nat}(F:Fun K x qual st f fd)(S:FnScope N ps (ze st))(len:∀vs H Q E,sp vs H Q E->vs.length=ps.length)
 (hbody:∀(cdv:Value) (A:Around) (outer:List Env) (s:Shared) (H:Hp) (vs:List V) (Q:VK) (E:XK),Room k (A.deeper (envOfC qual (ze st) s.heap.objs.size f cdv))->sp vs H Q E->
   ∃t,PSs (zgg CX0 P w K mg base N qual (ze st) f cdv A outer s H E).nox (zL st) t/\t {nx:=λ_ H'=>Q .non H',rt:=Q} (start N vs) H):FnOk P w K mg base CX0 (k+1) f fd ps sp:=by
 obtain⟨oc,od,kV,doc,pm,an,cdv,ct,osl,rfl,lk,hcd⟩:=F.ex
 refine znH lk hcd S len λA outer s H vs Q E hr hsp=>?_
 obtain⟨t,h,q⟩:=hbody cdv A outer s H vs Q E hr hsp
 exact⟨t,h.nox,q⟩
theorem Fun.binds{st:Stmt}{ps:List Str}(F:Fun K x qual st f fd)
 (h:∀(kV doc pm:Value) (an:Option Addr) (cdv ct:Value) (us:List Value),us.length=ps.length->bindArgs (W.fnOf x qual (zY st) (zL st) (ze st) .none kV doc pm an cdv ct) ⟨us,[]⟩=pure (ps.zip us)):Binds K fd ps []:=by
 obtain⟨oc,od,kV,doc,pm,an,cdv,ct,osl,rfl,lk,hcd⟩:=F.ex
 exact .all (h kV doc pm an cdv ct)
theorem zm7{st:Stmt}{kV:Value}(l:K.lookup f=some ⟨oc,od, .func (W.fnOf x qual (zY st) (zL st) (ze st) .none kV doc pm an cdv ct),osl⟩)
 (c:W.codeIn K cdv qual=true) (k:W.keepIn K (.ref f)=true):Fun K x qual st f (W.fnOf x qual (zY st) (zL st) (ze st) .none kV doc pm an cdv ct):=⟨⟨oc,od,kV,doc,pm,an,cdv,ct,osl,rfl,l,c⟩,k⟩
end
theorem zj(h:n<=1000):n<sizeLine:=Nat.lt_of_le_of_lt h ⋯
theorem zd9{c A B:Prop}[Decidable c](h1:c->A)(h2:¬c->B):if c then A else B:=by
 by_cases h:c
 ·rw[c0 h]
  exact h1 h
 ·rw[P0 h]
  exact h2 h
def Same(H H':Hp):Prop:=∀b o,H b=some o->H' b=some o
theorem Same.refl(H:Hp):Same H H:=λ_ _ h=>h
theorem Same.trans(a:Same H H1)(b:Same H1 H2):Same H H2:=λc o h=>b c o (a c o h)
theorem Same.free(e:Same H H')(h:H' l=Option.none):H l=Option.none:=by
 cases q:H l with
 |none=>rfl
 |some o=>
  rw[e l o q] at h
  cases h
theorem Same.seq(e:Same H H')(h:SqL K H a xs):SqL K H' a xs:=by
 rcases h with(h|⟨o,h⟩)|h
 ·exact .inl (.inl (e _ _ h))
 ·exact .inl (.inr ⟨o,e _ _ h⟩)
 ·exact .inr h
noncomputable def zg(X:Cx)(N':List Str)(scope:Scope)(cl:List (Str×Addr))(C:Addr)(s₀:Shared)(H₀:Hp)(fp:List Addr):Cx:=
 {prog:=X.prog,w:=X.w,K:=X.K,mg:=X.mg,base:=X.base,A:=X.A,N:=N',s₀:=s₀,H₀:=H₀,env:=compEnvC scope cl C X.env,outer:=X.stack,stack:=X.stack,ex:=fp,fn:=λ_=>false,
  calm:=X.calm,pn:=[],xe:=λ_ _=>False}
structure CompOk(N:List Str)(osc:Scope)(N':List Str)(src:List (Option Nat))(scope:Scope):Prop where
 kind:scope.kind= .function
 nocell:∀y∈scope.names,y.2≠ .cell
 loc:∀y∈scope.names,y.2= .local->scope.names.lookup y.1=some .local
 frees:∀y∈scope.names,y.2= .free->osc.names.lookup y.1=some .cell\/osc.names.lookup y.1=some .free
 nd:N'.Nodup
 len:src.length=N'.length
 src:∀q∈src.zip N',∀j∈q.1.toList,N[j]?=some q.2/\scope.names.lookup q.2=some .free
theorem zdv{env:Env}:∀(l:List (Str×NameKind)) (acc:List (Str×Addr)),(∀x c,acc.lookup x=some c->env.cells.lookup x=some c)->(∀y∈l,y.2= .free->∃c,env.cells.lookup y.1=some c)->
 ∃cl,(forIn l acc λ(x:Str×NameKind) (r:List (Str×Addr))=>(if(x.2==NameKind.free)=true then(cellOf env x.1>>=λa=>pure (ForInStep.yield ((x.1,a)::r)))else pure (ForInStep.yield r):Sem (ForInStep (List (Str×Addr)))))=pure cl/\
  (∀x c,cl.lookup x=some c->env.cells.lookup x=some c)/\(∀y∈l,y.2= .free->∃c,cl.lookup y.1=some c)/\(∀x c,acc.lookup x=some c->∃d,cl.lookup x=some d)
 |[],acc,h,_=>⟨acc,rfl,h,λ_ z=>(nomatch z),λx c e=>⟨c,e⟩⟩
 |(n,k)::l,acc,h,hf=>by
  by_cases hk:k= .free
  ·subst hk
   obtain⟨c,hc⟩:=hf (n, .free) Q0 rfl
   have hacc:∀x d,((n,c)::acc).lookup x=some d->env.cells.lookup x=some d:=λx d e=>by
    rw[List.lookup_cons] at e
    cases hx:x==n with
    |true=>
     rw[hx] at e
     have e1:x=n:=by simpa using hx
     have e2:c=d:=by simpa using e
     rw[e1,←e2];exact hc
    |false=>
     rw[hx] at e
     exact h x d e
   obtain⟨cl,e1,e2,e3,e4⟩:=zdv l ((n,c)::acc) hacc λy hy=>hf y (V0 _ hy)
   refine⟨cl,?_,e2,λy hy hyf=>?_,λx d e=>?_⟩
   ·rw[List.forIn_cons]
    have:cellOf env n=pure c:=by unfold cellOf;rw[hc]
    simp only[beq_self_eq_true,if_true,this,pure_bind]
    exact e1
   ·rcases R0.mp hy with rfl|hy
    ·exact e4 n c `j3
    ·exact e3 y hy hyf
   ·by_cases hx:x=n
    ·subst hx;exact e4 x c `j3
    ·have hb:(x==n)=false:=by simpa using hx
     exact e4 x d (by rw[List.lookup_cons,hb];exact e)
  ·obtain ⟨cl,e1,e2,e3,e4⟩:=zdv l acc h λy hy=>hf y (V0 _ hy)
   refine⟨cl,?_,e2,λy hy hyf=>?_,e4⟩
   ·rw[List.forIn_cons]
    have hb:(k==NameKind.free)=false:=by simpa using hk
    simp only[hb,M3,if_false,pure_bind]
    exact e1
   ·rcases R0.mp hy with rfl|hy
    ·exact absurd hyf hk
    ·exact e3 y hy hyf
theorem zbK(hf:∀y∈scope.names,y.2= .free->∃c,env.cells.lookup y.1=some c):
 ∃cl,closureFor scope env=pure cl/\(∀x c,cl.lookup x=some c->env.cells.lookup x=some c)/\∀y∈scope.names,y.2= .free->∃c,cl.lookup y.1=some c:=by
 obtain⟨cl,e1,e2,e3,_⟩:=zdv (env:=env) scope.names [] (λ_ _ z=>by simp at z) hf
 refine⟨cl,?_,e2,e3⟩
 unfold closureFor
 refine Eq.trans ?_ (congrArg (λt=>t>>=λc=>(pure c:Sem (List (Str×Addr)))) e1)
 first
  |rfl
  |(congr 1)
theorem zhH:∀{x:Str},(relabel scope env).names.lookup x=some .cell\/(relabel scope env).names.lookup x=some .free->(∀y∈scope.names,y.2≠ .cell)->(x,NameKind.free)∈scope.names:=by
 intro x h hc
 have key:∀(l:List (Str×NameKind)),(∀y∈l,y.2≠ .cell)->((l.map λ(n,k)=>if (k==NameKind.free&&env.scope.kind== .function&&env.kindOf n==some .cell)then(n,NameKind.cell)else(n,k)).lookup x=some .cell\/
  (l.map λ(n,k)=>if (k==NameKind.free&&env.scope.kind== .function&&env.kindOf n==some .cell)then(n,NameKind.cell)else(n,k)).lookup x=some .free)->(x,NameKind.free)∈l:=by
  intro l
  induction l with
  |nil=>intro _ h;simp at h
  |cons y l ih=>
   obtain⟨n,k⟩:=y
   intro hc h
   have hc':∀y∈l,y.2≠ .cell:=λy hy=>hc y (V0 _ hy)
   have hk:k≠ .cell:=hc (n,k) Q0
   rw[V1] at h
   by_cases hx:x=n
   ·subst hx
    by_cases hf:k= .free
    ·subst hf;exact Q0
    ·exfalso
     have hb:(k==NameKind.free)=false:=by simpa using hf
     simp only[hb,Bool.false_and,M3,if_false,List.lookup_cons,beq_self_eq_true] at h
     rcases h with h|h
     ·exact hk (o0 h)
     ·exact hf (o0 h)
   ·refine V0 _ (ih hc' ?_)
    have hb:(x==n)=false:=by simpa using hx
    by_cases hq:(k==NameKind.free&&env.scope.kind== .function&&env.kindOf n==some .cell)=true
    ·simp only[hq,if_true,List.lookup_cons,hb] at h
     exact h
    ·simp only[hq,M3,if_false,List.lookup_cons,hb] at h
     exact h
 exact key _ hc h
theorem zhT(h:scope.names.lookup x=some .free):(relabel scope env).names.lookup x=some .cell\/(relabel scope env).names.lookup x=some .free:=by
 have key:∀(l:List (Str×NameKind)),l.lookup x=some .free->((l.map λ(n,k)=>if (k==NameKind.free&&env.scope.kind== .function&&env.kindOf n==some .cell)then(n,NameKind.cell)else(n,k)).lookup x=some .cell\/
  (l.map λ(n,k)=>if (k==NameKind.free&&env.scope.kind== .function&&env.kindOf n==some .cell)then(n,NameKind.cell)else(n,k)).lookup x=some .free):=by
  intro l
  induction l with
  |nil=>intro h;simp at h
  |cons y l ih=>
   obtain⟨n,k⟩:=y
   intro h
   rw[V1]
   rw[List.lookup_cons] at h
   cases hx:x==n with
   |true=>
    rw[hx] at h
    have hk:k= .free:=o0 h
    subst hk
    by_cases hq:(NameKind.free==NameKind.free&&env.scope.kind== .function&&env.kindOf n==some .cell)=true
    ·simp only[hq,if_true,List.lookup_cons,hx];exact .inl trivial
    ·simp only[hq,M3,if_false,List.lookup_cons,hx];exact .inr trivial
   |false=>
    rw[hx] at h
    by_cases hq:(k==NameKind.free&&env.scope.kind== .function&&env.kindOf n==some .cell)=true
    ·simp only[hq,if_true,List.lookup_cons,hx];exact ih h
    ·simp only[hq,M3,if_false,List.lookup_cons,hx];exact ih h
 exact key _ h
noncomputable def zdk(src:List (Option Nat))(σ:St):St:=src.map λo=>o.bind λj=>(σ[j]?).join
section
variable{src:List (Option Nat)}{cl:List (Str×Addr)}
theorem zbF{h₁:Heap}{tk:Nat}(I:Inv X pins σ H s)(hf:∀b∈fp,zb4 X pins H b)(hlt:∀b∈fp,b<s.heap.objs.size)(ok:CompOk X.N osc N' src scope)(hsc:X.env.scope=osc)
 (c1:∀x c,cl.lookup x=some c->X.env.cells.lookup x=some c) (c2:∀y∈scope.names,y.2= .free->∃c,cl.lookup y.1=some c)
 (hn:h₁.Ns s.heap.objs.size λ_=>none) (hk:∀b o,s.heap.get? b=some o->h₁.get? b=some o):
 Inv (zg X N' scope cl s.heap.objs.size s H fp) [] (zdk src σ) H {s with heap:=h₁,toks:=tk}:=by
 have hkind:(relabel scope X.env).kind= .function:=ok.kind
 refine⟨⟨I.ok.mod,hkind,I.ok.glob,I.ok.blt,L0 _,λx y c h1 h2=>I.ok.inj x y c (c1 x c h1) (c1 y c h2),λx hx=>?_,λx c z _=>(by cases z),I.ok.hd,I.ok.frames, .inl rfl,λb hb=>?_,I.bs,B2 I.ok.bsz I.sz,λb o e hb=>?_,λb hb z=>?_,I.stack,I.stkFree⟩,
  rfl,I.bare,Un.kept hk,⟨_,hn,λi x v h1 h2 h3=>?_⟩,λx c e=>?_,I.hok.fresh (L0 _),λx c e=>I.freeC x c (c1 x c e),λp hp=>absurd (show p∈([]:List (Addr×Obj))from hp) `j3,I.hok.kept hk,?_⟩
 ·exact c2 _ (zhH (env:=X.env) (scope:=scope) (x:=x) hx ok.nocell) rfl
 ·obtain ⟨f0,f1,f2,f3,f4,f5⟩:=hf b hb
  exact⟨λz=>absurd (hlt b hb) (by rw[z];exact Nat.lt_irrefl _),λx c e=>f4 x c (c1 x c e)⟩
 ·obtain ⟨f0,f1,f2,f3,f4,f5⟩:=hf b hb
  rcases f3 with z|z
  ·exact I.ok.noex b o e z
  ·exact absurd (A2 (W0 e) (B2 I.ok.bsz z)) (Nat.lt_irrefl _)
 ·obtain ⟨f0,f1,f2,f3,f4,f5⟩:=hf b hb
  rcases R0.mp (I.stkSub b z)with q|q
  ·exact f1 q
  ·exact f2 q
 ·
  have hi:∃j,src[i]?=some (some j)/\σ[j]?=some (some v):=by
   unfold zdk at h2
   rw[N0] at h2
   cases e:src[i]? with
   |none=>rw[e] at h2;cases h2
   |some o=>
    rw[e] at h2
    cases o with
    |none=>cases h2
    |some j=>
     refine⟨j,rfl,?_⟩
     have h2':(σ[j]?).join=some v:=o0 h2
     cases e2:σ[j]? with
     |none=>rw[e2] at h2';cases h2'
     |some w=>rw[e2] at h2';exact congrArg some h2'
  obtain⟨j,e1,e2⟩:=hi
  have hz:(some j,x)∈src.zip N':=by
   refine List.mem_iff_getElem?.mpr ⟨i,?_⟩
   rw[List.getElem?_zip_eq_some]
   exact⟨e1,h1⟩
  obtain⟨q1,q2⟩:=ok.src _ hz j `j3
  have hfr:=PySem.mem_of_lookup q2
  have hk0:=ok.frees _ hfr rfl
  rw[←hsc] at hk0
  obtain⟨m,hns,hl⟩:=I.loc
  obtain⟨u,r,l⟩:=hl j x v q1 e2 (hk0.elim (λz=> .inr (.inl z)) λz=> .inr (.inr z))
  refine⟨u,r,?_⟩
  rcases l with⟨l1,_⟩|⟨_,c,l2,l3⟩
  ·exfalso
   have l1':X.env.scope.names.lookup x=some .local:=l1
   rcases hk0 with z|z
   ·rw[l1'] at z;cases z
   ·rw[l1'] at z;cases z
  ·obtain ⟨d,hd⟩:=c2 _ hfr rfl
   have:d=c:=by
    have:=(c1 _ _ hd).symm.trans l2
    exact o0 this
   subst this
   obtain⟨o,ho,hod⟩:=l3
   exact .inr ⟨zhT q2,d,hd,o,hk _ _ ho,hod⟩
 ·obtain ⟨v,o,ho,hod⟩:=I.cell x c (c1 x c e)
  exact⟨v,o,hk _ _ ho,hod⟩
 ·show (zdk src σ).length=N'.length
  unfold zdk
  rw[C0]
  exact ok.len
theorem zbD{σ':St}(I:Inv X pins σ H s)(hf:∀b∈fp,zb4 X pins H b)(hC:s.heap.objs.size<=C)(J:Inv (zg X N' scope cl C s H fp) [] σ' H' s')(hs:Heap.SameBut C s'.heap h'):
 Inv X pins σ H' {s' with heap:=h'}:=by
 have nC:∀b o,s.heap.get? b=some o->b≠C:=λb o e z=>absurd (A2 (W0 e) (by rw[z];exact hC)) (Nat.lt_irrefl _)
 have B:Un (frs X.stack) fp H H' s.heap s'.heap:=J.base
 refine I.call' (ch:=fp) J.os ⟨λb o e n hb hx=>(hs.2 b (nC b o e)).trans (B.keep b o e n hb hx),λb o e n hb hx=>?_,B.free,λb o e hx=>?_,B.tups,B.frzs,B.tbls⟩ (λb ob e=>?_) J.bare λb hb=>?_
 ·obtain ⟨sl,e1⟩:=B.slot b o e n hb hx
  exact⟨sl,(hs.2 b (nC b o e)).trans e1⟩
 ·obtain ⟨o',e1⟩:=B.there b o e hx
  exact⟨o',(hs.2 b (nC b o e)).trans e1⟩
 ·refine (J.hok b ob e).stay (λc w' hc q=>(hs.2 c ?_).trans q) (λ_ q=>q) λ_ _ q=>q
  have hfree:H' C=none:=J.free
  rintro rfl
  rcases hc with rfl|hc
  ·rw[hfree] at e;cases e
  ·rw[hfree] at hc;cases hc
 ·obtain ⟨f0,f1,f2,f3,f4,f5⟩:=hf b hb
  exact⟨f3,f1,f4,f5⟩
end
noncomputable def zcg(ifs:List Expr)(env:Env):Sem Bool:=forIn ifs true λc r=>if r=true then do let ok ←isTrue c env (eval c env);pure (ForInStep.yield ok)else pure (ForInStep.yield r)
def PIf(X:Cx)(ifs:List Expr)(t:TT):Prop:=
 ∀(pins:List (Addr×Obj)) (s:Shared) (σ:St) (H:Hp) (Q:Bool->Hp->Prop),Inv X pins σ H s->t σ H Q->wpAny `W3 X.A (zcg ifs X.env) (TP X pins σ Q) X.xe s
noncomputable def zrV:TT:=λ_ H Q=>Q true H
theorem zpx:PIf X [] zrV:=λpins s σ H Q I h=>wpAny_tests_nil ⟨H,I,h⟩
theorem zoE{t:TT}(h:PT X c t):PIf X [c] t:=λpins s σ H Q I hq=>wpAny_tests_one (h pins s σ H Q I hq)
theorem zdU{it:Value}(I:Nat->Shared->Prop)
 (turn:∀n s,I n s->wpAny `Y3 A (pyNext it) (λr s1=>match r with
   |none=>R (.ok .next) s1
   |some v=>wpAny `Y3 A (letOwnedTupleGo target it v) (λ_ s1'=>wpAny `Y3 A (assign target env v) (λ_ s2=>wpAny `Y3 A (zcg ifs env) (λok s3=>
     if ok=true then wpAny `Y3 A (eval elt env) (λx s4=>wpAny `Y3 A (call (.builtin "list.append") [acc,x]) (λ_ s5=>∃m,m<n/\I m s5) (λ_ _=>False) s4) (λ_ _=>False) s3
     else∃m,m<n/\I m s3) (λ_ _=>False) s2) (λ_ _=>False) s1') (λ_ _=>False) s1) (λ_ _=>False) s)
 (n:Nat) (h:I n s):codeAny `Y3 A (.compLoop (.ListComp elt [⟨target,iter,ifs,0⟩] scope pos) 0 it acc env) R s:=by
 have no:∀{E:Value->Shared->Prop} (e:Value) (s:Shared),(λ(_:Value) (_:Shared)=>False) e s->E e s:=λ_ _ z=>False.elim z
 refine codeAny_loop rfl I (λn s hI=>?_) n h
 show wpAny _ A ((compTurn (.ListComp elt [⟨target,iter,ifs,0⟩] scope pos) 0 it acc env).onRaise (λx=>do noteFrame x env;theTreesLotGoes x)) _ _ s
 refine wpAny_noted ?_
 rw[compTurn_list]
 refine A0 (J3 (A0 (K1 (turn n s hI) (λr s₁ h₁=>?_) no)))
 cases r with
 |none=>exact F0 h₁
 |some v=>
  refine A0 (K1 h₁ (λ_ s1' h1'=>?_) no)
  refine A0 (K1 h1' (λ_ s₂ h₂=>A0 (K1 h₂ (λok s₃ h₃=>?_) no)) no)
  cases ok with
  |false=>exact F0 ⟨rfl,h₃⟩
  |true=>
   exact A0 (A0 (K1 h₃ (λx s₄ h₄=>A0 (K1 h₄ (λ_ s₅ h₅=>F0 (F0 ⟨rfl,h₅⟩)) no)) no))
def zfE(g:TG)(tc:TT)(te:TE)(src:List (Option Nat))(σ:St)(Q:VK)(J:It)(H1:Hp):Prop:=∀l,H1 l=none->
 ∃W:Nat->Nat->List V->St->Hp->Prop,(∃m,W 0 m [] (zdk src σ) (upd H1 l (.lst [])))/\∀i m ys σ' H',W i m ys σ' H'->H' l=some (.lst ys)->
  (J.stop i H'/\Q (.ref l) H')\/(J.go i H'/\∃N:List V->St->Hp->Prop,(∀zs σ2 H2,N zs σ2 H2->∃m',m'<m/\W (i+1) m' zs σ2 H2)/\∀x H2,J.yld i H' x H2->g x σ' H2 λσ2 H3=>tc σ2 H3 λb H4=>
    if b=true then te σ2 H4 λy H5=>H5 l=some (.lst ys)/\ys.length<sizeLine/\N (ys ++ [y]) σ2 (upd H5 l (.lst (ys ++ [y])))
    else H4 l=some (.lst ys)/\N ys σ2 H4)
noncomputable def zkz(wi:TI)(g:TG)(tc:TT)(te:TE)(src:List (Option Nat)):TE:=λσ H Q=>wi σ H (zfE g tc te src σ Q)
def zkI(g:TG)(tb:TS)(D:Ends)(σ:St)(J:It)(H1:Hp):Prop:=∃W:Nat->Nat->St->Hp->Prop,(∃m,W 0 m σ H1)/\∀i m σ H,W i m σ H->
 (J.stop i H/\D.nx σ H)\/(J.go i H/\∃N:St->Hp->Prop,(∀σ' H',N σ' H'->∃m',m'<m/\W (i+1) m' σ' H')/\∀x H',J.yld i H x H'->g x σ H' λσ2 H2=>tb {D with nx:=N,ct:=N,bk:=D.nx} σ2 H2)
noncomputable def zqM(wi:TI)(g:TG)(tb:TS):TS:=λD σ H=>wi σ H (zkI g tb D σ)
theorem zpy{g:TG}(hp:PassesOwn `W3 X.A X.env X.xe)(hc:X.calm=true)(hi:PI X tg iter wi)(hg:PG X tg g)(hb:PSs X body tb)
 (hs:autoParam (∀x,foldedSetIterable iter X.env x=pure x) y4):PS X (.For tg iter body [] pos) (zqM wi g tb):=zrj hp hc hi hg hb hs
section
variable{src:List (Option Nat)}{g:TG}
theorem zp1(ok:CompOk X.N osc N' src scope)(hsc:X.env.scope=osc)(hc:X.calm=true)(hi:PI X tg iter wi)
 (hg:∀cl C s₀ H₀ fp,PG `X3 tg g) (ht:∀cl C s₀ H₀ fp,PIf `X3 ifs tc) (he:∀cl C s₀ H₀ fp,PE `X3 elt te)
 (hs:autoParam (∀x,foldedSetIterable iter X.env x=pure x) y4):PE X (.ListComp elt [⟨tg,iter,ifs,0⟩] scope pos) (zkz wi g tc te src):=by
 intro pins s σ H Q I h
 obtain⟨cl,hcl,c1,c2⟩:=zbK (scope:=scope) (env:=X.env) λy hy hyf=>I.ok.has y.1 (by
  have z:=ok.frees y hy hyf
  rw[←hsc] at z
  exact z)
 rw[eval_ListComp]
 refine wpAny_comprehension_free (use:=none) rfl hs hcl ok.kind ok.loc (thn (hi pins s σ H _ I h) λv s1 h1=>thn h1 λitv s2 h2=>?_)
 obtain⟨it,fp,tn,J,H2,e,I2,T,st2,f2,q2⟩:=h2
 subst e
 have hlt2:∀b∈fp,b<s2.heap.objs.size:=λb hb=>by
  obtain⟨o,e,_⟩:=T.obj _ _ st2 b hb
  exact W0 e
 refine j1 ?_
 have hl:H2 s2.heap.objs.size=none:=I2.hok.fresh (L0 _)
 have I3:Inv X pins σ (upd H2 s2.heap.objs.size (.lst [])) {s2 with heap:=s2.heap.push {cls:= .type "list",dict:=none,data:= .seq ([]:List Value).toArray}}:=
  I2.laid (t':=s2.toks) (λb u e=>G0 _ e) (L0 _) ⟨X1 _,[],0, .nil,T0 _ rfl⟩
 obtain⟨W,⟨m0,w0⟩,turn⟩:=q2 _ hl
 generalize hl2:s2.heap.objs.size=l at *
 generalize hs3:({s2 with heap:=s2.heap.push {cls:= .type "list",dict:=none,data:= .seq ([]:List Value).toArray}}:Shared)=s3 at *
 have f3:∀b∈fp,zb4 X pins (upd H2 l (.lst [])) b:=λb hb=>⟨by rw[zc (P1 (hlt2 b hb))];exact(f2 b hb).1,(f2 b hb).2⟩
 have k3:∀b o,s2.heap.get? b=some o->s3.heap.get? b=some o:=λb o e=>by rw[←hs3];exact G0 _ e
 have hlt3:∀b∈fp,b<s3.heap.objs.size:=λb hb=>by
  obtain⟨o,e,_⟩:=T.obj _ _ st2 b hb
  exact W0 (k3 b o e)
 refine wpAny_newFunctionEnv ok.nocell (by intro y hy;simp at hy) (λh₁ hns₁ hsb₁=>?_) ok.kind
 have k4:∀b o,s3.heap.get? b=some o->h₁.get? b=some o:=λb o e=>(hsb₁.2 b (P1 (W0 e))).trans (G0 _ e)
 have J0:=zbF (tk:=s3.toks+([]:List (Str×Value)).length) I3 f3 hlt3 ok hsc c1 c2 hns₁ k4
 have st4:tn 0 h₁:=T.keep _ _ _ st2 λb hb o e=>k4 b o (k3 b o e)
 generalize hC:s3.heap.objs.size=C at *
 have stat:∀{H':Hp},(∀b∈fp,H' b=none)->∀b∈fp,zb4 (zg X N' scope cl C s3 (upd H2 l (.lst [])) fp) [] H' b:=λ{H'} hn b hb=>
  ⟨hn b hb,(J0.ok.exf b hb).1,J0.ok.exfs b hb, .inl hb,(J0.ok.exf b hb).2,λp hp=>absurd (show p∈([]:List (Addr×Obj))from hp) `j3⟩
 have loop:codeAny `W3 X.A (.compLoop (.ListComp elt [⟨tg,iter,ifs,0⟩] scope pos) 0 (.ref it) (.ref l) (compEnvC scope cl C X.env))
  (compPost `W3 X.A X.xe none (EP X pins σ Q) (.ref l) C) {s3 with heap:=h₁,toks:=s3.toks+([]:List (Str×Value)).length}:=by
  refine zdU (λn s'=>∃i ys σ' H',Inv (zg X N' scope cl C s3 (upd H2 l (.lst [])) fp) [] σ' H' s'/\tn i s'.heap/\(∀b∈fp,H' b=none)/\H' l=some (.lst ys)/\W i n ys σ' H') ?_ m0
   ⟨0,[],_,_,J0,st4,λb hb=>(f3 b hb).1,zb,w0⟩
  rintro n s5 ⟨i,ys,σ5,H5,I5,st5,fr5,hl5,w5⟩
  rcases turn i n ys σ5 H5 w5 hl5 with⟨stop,qn⟩|⟨go,N,hN,step⟩
  ·refine thn (T.done (zg X N' scope cl C s3 (upd H2 l (.lst [])) fp) rfl rfl rfl hc i [] s5 σ5 H5 (λ_ _=>False) I5 (stat fr5) st5 stop) λr s6 ⟨hr,I6⟩=>?_
   subst hr
   obtain⟨m,hn,_⟩:=I6.loc
   exact⟨m,hn,λh' hsb=>⟨.ref l,H5,zbD I3 f3 (by rw[←hC];exact L0 _) I6 hsb,rfl,qn⟩⟩
  ·refine thn (T.item (zg X N' scope cl C s3 (upd H2 l (.lst [])) fp) rfl rfl rfl hc i [] s5 σ5 H5 (λ_ _=>False) I5 (stat fr5) st5 go) λr s6 ⟨u,hr,h6⟩=>?_
   subst hr
   refine thn h6 λ_ s7 zq=>?_
   obtain⟨x,H7,I7,r7,y7,st7,fr7⟩:=zq
   have I7':=I7.pinned (stat fr7) (T.obj _ _ st7)
   refine thn (hg cl C s3 _ fp _ s7 σ5 H7 x u _ I7' r7 (step x H7 y7)) λ_ s8 zq=>?_
   obtain⟨σ8,H8,I8,q8⟩:=zq
   refine thn (ht cl C s3 _ fp _ s8 σ8 H8 _ I8 q8) λb s9 zq=>?_
   obtain⟨H9,I9,q9⟩:=zq
   have back:∀{s':Shared} {H':Hp},Inv (zg X N' scope cl C s3 (upd H2 l (.lst [])) fp) ([]++zan fp s7.heap) σ8 H' s'->tn (i+1) s'.heap/\∀b∈fp,H' b=none:=λ{s' H'} I'=>by
    refine⟨T.keep _ _ _ st7 λb hb o e=>(I'.pin (b,o) (O0 _ (O0 _ (zv hb e)))).1,λb hb=>?_⟩
    obtain⟨o,e,d⟩:=T.obj _ _ st7 b hb
    exact(I'.pin (b,o) (O0 _ (O0 _ (zv hb e)))).2.1
   cases b with
   |false=>
    obtain⟨hl9,n9⟩:=q9
    obtain⟨m',hm,w9⟩:=hN _ _ _ n9
    obtain⟨t9,fr9⟩:=back I9
    exact⟨m',hm,i+1,ys,σ8,H9,I9.unpinned,t9,fr9,hl9,w9⟩
   |true=>
    refine thn (he cl C s3 _ fp _ s9 σ8 H9 _ I9 q9) λxv s10 zq=>?_
    obtain⟨y,H10,I10,r10,hl10,hz,n10⟩:=zq
    obtain⟨m',hm,w10⟩:=hN _ _ _ n10
    refine thn (z5 (X:=zg X N' scope cl C s3 (upd H2 l (.lst [])) fp) _ s10 σ8 H10 (.ref l) [y] (.ref l) [xv] (λv H'=>H'=upd H10 l (.lst (ys ++ [y]))) I10 rfl (.cons r10 .nil) ⟨l,ys,y,rfl,rfl,hl10,hz,rfl⟩) λ_ s11 ⟨_,H11,I11,_,e11⟩=>?_
    subst e11
    obtain⟨t11,fr11⟩:=back I11
    exact⟨m',hm,i+1,ys ++ [y],σ8,_,I11.unpinned,t11,fr11,zb,w10⟩
 exact codeAny_compStart_list loop (T.self _ 0 _ _ _ st4 loop)
end
section
variable[DecidableEq κ]
noncomputable def zae(kvs:List (κ×V))(k:κ):Option V:=(kvs.find? λkv=>decide (kv.1=k)).map (·.2)
noncomputable def zaj(kvs:List (κ×V))(k:κ)(v:V):List (κ×V):=
 if(kvs.any λkv=>decide (kv.1=k))=true then kvs.map (λkv=>if kv.1=k then(kv.1,v)else kv)else kvs ++ [(k,v)]
theorem zcW{p:κ×V}{r:List (κ×V)}{k:κ}(e:p.1=k):zae (p::r) k=some p.2:=by simp[zae,List.find?_cons,e]
theorem zbL{p:κ×V}{r:List (κ×V)}{k:κ}(e:¬p.1=k):zae (p::r) k=zae r k:=by simp[zae,List.find?_cons,e]
theorem zfu(k:κ):∀kvs:List (κ×V),(kvs.any λkv=>decide (kv.1=k))=(zae kvs k).isSome
 |[]=>rfl
 |p::r=>by
  rw[List.any_cons]
  by_cases e:p.1=k
  ·simp only[zcW e,U0 e,Bool.true_or,Option.isSome_some]
  ·rw[zbL e,A1 e,Bool.false_or];exact zfu k r
theorem zcT(kvs:List (κ×V))(k:κ)(v:V):(zaj kvs k v).length<=kvs.length+1:=by
 unfold zaj
 split
 ·rw[C0];lia
 ·rw[Z0,Y1,List.length_nil];lia
theorem zef{kvs:List (κ×V)}{k:κ}(v:V)(h:zae kvs k=none):zaj kvs k v=kvs ++ [(k,v)]:=by
 unfold zaj
 rw[zfu,h]
 exact P0 ⋯
theorem RelO.isSome_eq{o:Option V}{u:Option Value}(r:RelO o u):o.isSome=u.isSome:=by
 cases o with
 |none=>cases u with
  |none=>rfl
  |some _=>exact (show False from r).elim
 |some _=>cases u with
  |none=>exact (show False from r).elim
  |some _=>rfl
theorem RelO.getD{o:Option V}{u:Option Value}{d:V}{d':Value}(r:RelO o u)(rd:RelV d d'):RelV (o.getD d) (u.getD d'):=by
 cases o with
 |none=>cases u with
  |none=>exact rd
  |some _=>exact (show False from r).elim
 |some _=>cases u with
  |none=>exact (show False from r).elim
  |some _=>exact r
theorem KV.val{kvs:List (κ×V)}{vs:List (κ×Value)}(r:KV kvs vs)(k:κ):RelO (zae kvs k) (valueAt vs k):=by
 unfold KV at r
 induction r with
 |nil=>exact True.intro
 | @cons p q ps qs h t ih=>
   obtain⟨h1,h2⟩:=h
   by_cases e:p.1=k
   ·have e':q.1=k:=h1.symm.trans e
    have b:valueAt (q::qs) k=some q.2:=by simp[valueAt,List.find?_cons,e']
    rw[zcW e,b];exact h2
   ·have e':¬q.1=k:=λz=>e (h1.trans z)
    have b:valueAt (q::qs) k=valueAt qs k:=by simp[valueAt,List.find?_cons,e']
    rw[zbL e,b];exact ih
theorem KV.any{kvs:List (κ×V)}{vs:List (κ×Value)}(r:KV kvs vs)(k:κ):(kvs.any λkv=>decide (kv.1=k))=vs.any λkv=>decide (kv.1=k):=by
 unfold KV at r
 induction r with
 |nil=>rfl
 |cons h t ih=>rw[List.any_cons,List.any_cons,ih,h.1]
theorem KV.repl{kvs:List (κ×V)}{vs:List (κ×Value)}(r:KV kvs vs)(k:κ){y:V}(ry:RelV y u):
 KV (kvs.map λkv=>if kv.1=k then(kv.1,y)else kv) (vs.map λkv=>if kv.1=k then(kv.1,u)else kv):=by
 unfold KV at r⊢
 induction r with
 |nil=>exact .nil
 | @cons p q ps qs h t ih=>
   rw[V1,V1]
   refine .cons ?_ ih
   obtain⟨h1,h2⟩:=h
   by_cases e:p.1=k
   ·rw[c0 e,c0 (h1.symm.trans e)];exact⟨h1,ry⟩
   ·rw[P0 e,P0 (λz=>e (h1.trans z))];exact⟨h1,h2⟩
theorem KV.put{kvs:List (κ×V)}{vs:List (κ×Value)}(r:KV kvs vs)(k:κ){y:V}(ry:RelV y u):KV (zaj kvs k y) (stored vs k u):=by
 unfold zaj stored
 rw[r.any k]
 by_cases e:(vs.any λkv=>decide (kv.1=k))=true
 ·rw[c0 e,c0 e];exact r.repl k ry
 ·rw[P0 e,P0 e];exact Paired.snoc r ⟨rfl,ry⟩
theorem KV.length{kvs:List (κ×V)}{vs:List (κ×Value)}(r:KV kvs vs):kvs.length=vs.length:=Paired.length r
end
theorem ziP{k:Key}(r:RelV (kV k) u):(zU P w).is k u=true:=by
 cases k with
 |inl i=>obtain ⟨t,e⟩:=(show∃t,u=Value.int i t from r);subst e;exact zif P w i t
 |inr x=>obtain ⟨t,e⟩:=(show∃t,u=Value.str x t from r);subst e;exact ziT P w x t
theorem zgD{P:Program}{w:World}:∀{ks:List Key} {us:List Value},Vals (ks.map kV) us->ItemsAre (zU P w) ks us
 |[],_,r=>by rw[List.map_nil] at r;cases r;exact .nil
 |k::ks,_,r=>by
  rw[V1] at r
  cases r with
  |cons h t=>exact .cons (ziP h) (zgD t)
abbrev KT(H:Hp):List (List Key×V)->List (List Key×Addr×Value)->Prop:=Paired λp q=>p.1=q.1/\H q.2.1=some (.tup (p.1.map kV))/\RelV p.2 q.2.2
theorem KT.val{xs:List (List Key×Addr×Value)}(r:KT H kvs xs)(k:List Key):RelO (zae kvs k) ((atKey xs k).map (·.2)):=by
 induction r with
 |nil=>exact True.intro
 | @cons p q ps qs h t ih=>
   obtain⟨h1,_,h2⟩:=h
   by_cases e:p.1=k
   ·have e':q.1=k:=h1.symm.trans e
    have b:atKey (q::qs) k=some q.2:=by simp[atKey,List.find?_cons,e']
    rw[zcW e,b];exact h2
   ·have e':¬q.1=k:=λz=>e (h1.trans z)
    have b:atKey (q::qs) k=atKey qs k:=by simp[atKey,List.find?_cons,e']
    rw[zbL e,b];exact ih
theorem KT.repl{xs:List (List Key×Addr×Value)}(r:KT H kvs xs)(k:List Key){y:V}(ry:RelV y u):
 KT H (kvs.map λkv=>if kv.1=k then(kv.1,y)else kv) (xs.map (putAt k u)):=by
 induction r with
 |nil=>exact .nil
 | @cons p q ps qs h t ih=>
   rw[V1,V1]
   refine .cons ?_ ih
   obtain⟨h1,h2,h3⟩:=h
   unfold putAt
   by_cases e:p.1=k
   ·rw[c0 e,c0 (h1.symm.trans e)];exact⟨h1,h2,ry⟩
   ·rw[P0 e,P0 (λz=>e (h1.trans z))];exact⟨h1,h2,h3⟩
theorem KT.put{xs:List (List Key×Addr×Value)}(r:KT H kvs xs)(k:List Key){b:Addr}{y:V}(hb:H b=some (.tup (k.map kV)))(ry:RelV y u):
 KT H (zaj kvs k y) (storedH xs k b u):=by
 have e:(kvs.any λkv=>decide (kv.1=k))=(atKey xs k).isSome:=by
  rw[zfu,(r.val k).isSome_eq,Option.isSome_map]
 unfold zaj storedH
 rw[e]
 by_cases q:(atKey xs k).isSome=true
 ·rw[c0 q,c0 q];exact r.repl k ry
 ·rw[P0 q,P0 q];exact Paired.snoc r ⟨rfl,hb,ry⟩
theorem KT.keeps{xs:List (List Key×Addr×Value)}(r:KT H kvs xs)(ht:∀b ys,H b=some (.tup ys)->H' b=some (.tup ys)):KT H' kvs xs:=
 Paired.mapP r λ_ _ z=>⟨z.1,ht _ _ z.2.1,z.2.2⟩
theorem zqL{u:HO}(ok:HOk P w H h)(e:Rd H a u):ObjOk P w H h a u:=e.ok ok
theorem ziI{kvs:List (Key×V)}(ok:HOk P w H h)(e:Rd H a (.dK kvs)):kvs.length<=sizeLine/\(a==sysModules)=false/\∃vs,KV kvs vs/\h.DictOf (zU P w) a vs:=
 show ObjOk P w H h a (.dK kvs)from zqL ok e
theorem zmV{kvs:List (Key×V)}(ok:HOk P w H h)(e:H a=some (.dK kvs)):kvs.length<=sizeLine/\(a==sysModules)=false/\∃vs,KV kvs vs/\h.DictOf (zU P w) a vs:=ziI ok (.inl e)
theorem zfm{ks:List Key}(ok:HOk P w H h)(e:H a=some (.tup (ks.map kV))):(tupleKind (zU P w)).is h ks a:=by
 obtain⟨_,its,r,⟨o,h1,h2,n,h3⟩,_⟩:=(show ObjOk P w H h a (.tup (ks.map kV))from ok a _ e)
 exact⟨o,its.toArray,n,h1,h2,h3,by simpa using zgD r⟩
theorem zgr(ok:HOk P w H h)(e:Rd H a (.dT kvs)):kvs.length<=sizeLine/\(a==sysModules)=false/\
 ∃xs,KT H kvs xs/\h.DictOfH (tupleKind (zU P w)) a xs:=by
 obtain⟨z,y,xs,r,o,es,ep,h1,h2,h3,h4,h5⟩:=(show ObjOk P w H h a (.dT kvs)from zqL ok e)
 refine⟨z,y,xs,r,o,es,ep,h1,h2,h3,h4,λx hx=>?_,h5⟩
 have all:∀{l:List (List Key×V)} {m:List (List Key×Addr×Value)},KT H l m->∀x∈m,(tupleKind (zU P w)).is h x.1 x.2.1:=by
  intro l m q
  induction q with
  |nil=>intro x hx;exact nomatch hx
  | @cons p q ps qs hq t ih=>
    intro x hx
    rcases R0.mp hx with e|hx
    ·subst e
     exact zfm ok (by rw[←hq.1];exact hq.2.1)
    ·exact ih x hx
 exact all r x hx
theorem zqK(ok:HOk P w H h)(e:H a=some (.dT kvs)):kvs.length<=sizeLine/\(a==sysModules)=false/\
 ∃xs,KT H kvs xs/\h.DictOfH (tupleKind (zU P w)) a xs:=zgr ok (.inl e)
def DGet(H:Hp)(a:Addr)(y:V)(r:Option V):Prop:=
 (∃kvs k,Rd H a (.dK kvs)/\y=kV k/\r=zae kvs k)\/∃kvs k b,Rd H a (.dT kvs)/\y= .ref b/\H b=some (.tup (k.map kV))/\r=zae kvs k
def DPut(H:Hp)(a:Addr)(y v:V)(H':Hp):Prop:=
 (∃kvs k,H a=some (.dK kvs)/\y=kV k/\kvs.length<sizeLine/\H'=upd H a (.dK (zaj kvs k v)))\/
 ∃kvs k b,H a=some (.dT kvs)/\y= .ref b/\H b=some (.tup (k.map kV))/\kvs.length<sizeLine/\H'=upd H a (.dT (zaj kvs k v))
theorem DGet.k{H:Hp}{a:Addr}{kvs:List (Key×V)}{k:Key}(e:H a=some (.dK kvs)):DGet H a (kV k) (zae kvs k):= .inl ⟨kvs,k, .inl e,rfl,rfl⟩
variable{k:Nat}
theorem DGet.t{b:Addr}{k:List Key}(e:H a=some (.dT kvs))(eb:H b=some (.tup (k.map kV))):DGet H a (.ref b) (zae kvs k):= .inr ⟨kvs,k,b, .inl e,rfl,eb,rfl⟩
theorem DPut.t{b:Addr}{k:List Key}(e:H a=some (.dT kvs))(eb:H b=some (.tup (k.map kV)))(hl:kvs.length<sizeLine):
 DPut H a (.ref b) v (upd H a (.dT (zaj kvs k v))):= .inr ⟨kvs,k,b,e,rfl,eb,hl,rfl⟩
variable{t:SetTable}
section
variable{y:V}{r:Value}{o:Option V}
theorem Inv.big(I:Inv X pins σ H s):sysModules<s.heap.objs.size:=by
 have h:mainGlobals<s.heap.objs.size:=(I.mod.glob.keeps I.bk).lt
 exact Nat.lt_trans ⋯ h
theorem zmc(hu:A.units+1<cLine)(I:Inv X pins σ H s)(g:DGet H a y (some v))(ry:RelV y u)(h:∀w' s',Inv X pins σ H s'->RelV v w'->Q w' s'):
 wpAny `W3 A (getItem (.ref a) u) Q E s:=by
 rcases g with⟨kvs,k,e,ey,l⟩|⟨kvs,k,b,e,ey,eb,l⟩
 ·subst ey
  obtain⟨z,hd,vs,rel,dd⟩:=ziI I.hok e
  obtain⟨w',hw,rw'⟩:=RelO.some_of (v:=v) (o:=valueAt vs k) (by rw[l];exact rel.val k)
  exact wpAny_getItem_of (ziP ry) dd.mapOf hw (h w' _ (I.tok _) rw')
 ·subst ey
  cases(show u=Value.ref b from ry)
  obtain⟨z,hd,xs,rel,dd⟩:=zgr I.hok e
  obtain⟨w',hw,rw'⟩:=RelO.some_of (v:=v) (o:=(atKey xs k).map (·.2)) (by rw[l];exact rel.val k)
  obtain⟨p,hp,hp2⟩:=Option.map_eq_some_iff.mp hw
  refine wpAny_getItem_heap (tupleKind_room_in1 hu) (zfm I.hok eb) dd hp ?_
  rw[hp2]
  exact h w' _ (I.tok _) rw'
theorem ze6{ob:HO}(I:Inv X pins σ H s)(mu:Mut (H a))(hs:Heap.SameBut a s.heap h')(he:∃q,h'.get? a=some q)(new:ObjOk X.prog X.w (upd H a ob) h' a ob):
 Inv X pins σ (upd H a ob) {s with heap:=h',toks:=t'}:=
 I.write (x:=a) (e:=a) mu (.inl rfl) (λb q hb z=>(hs.2 b hb).trans z) he new
theorem zmt{kvs:List (Key×V)}{vs:List (Key×Value)}(z:kvs.length<=sizeLine)(hd:(a==sysModules)=false)(rel:KV kvs vs)(dd:h'.DictOf (zU P w) a vs):
 ObjOk P w H' h' a (.dK kvs):=⟨z,hd,vs,rel,dd⟩
theorem zlH{Q:Unit->Shared->Prop}(hu:A.units+1<cLine)(I:Inv X pins σ H s)(g:DPut H a y v H')(ry:RelV y u)(rv:RelV v r)(h:∀s',Inv X pins σ H' s'->Q Unit.unit s'):
 wpAny `W3 A (setItem (.ref a) u r) Q E s:=by
 rcases g with⟨kvs,k,e,ey,l,eH⟩|⟨kvs,k,b,e,ey,eb,l,eH⟩
 ·subst ey eH
  obtain⟨z,hd,vs,rel,dd⟩:=zmV I.hok e
  have hz:vs.length<=sizeLine:=by rw[←rel.length];exact z
  have hl:(zaj kvs k v).length<=sizeLine:=by have:=zcT kvs k v;lia
  refine wpAny_setItem_pairs (hsz:=hz) (ziP ry) dd λh' dd' hs=>h _ ?_
  have he:∃q,h'.get? a=some q:=let⟨q,_,_,hq,_⟩:=dd';⟨q,hq⟩
  exact ze6 I (by rw[e];exact True.intro) hs he (zmt hl hd (rel.put k rv) dd')
 ·subst ey eH
  cases(show u=Value.ref b from ry)
  obtain⟨z,hd,xs,rel,dd⟩:=zqK I.hok e
  have hz:xs.length<=sizeLine:=by rw[←Paired.length rel];exact z
  have hl:(zaj kvs k v).length<=sizeLine:=by have:=zcT kvs k v;lia
  refine wpAny_setItem_heap (hsz:=hz) (tupleKind_room_in1 hu) (zfm I.hok eb) dd λh' dd' hs=>h _ ?_
  obtain⟨q,es,ep,hq,h2,h3,h4,_,h5⟩:=dd'
  refine ze6 I (by rw[e];exact True.intro) hs ⟨q,hq⟩ ⟨hl,hd,_,(rel.put k eb rv).keeps λc ys ec=>?_,q,es,ep,hq,h2,h3,h4,h5⟩
  rw[zc (zak ec e (λz=>nomatch z))]
  exact ec
end
section
variable{kvs:List (Key×V)}{k:Key}
end
def zsc(i:Expr):Prop:=∀ov iv,subscripted i false ov iv=operate [ov,iv] (getItem ov iv)
theorem zoO{slice:Expr}{id:String}
 (hl:typeLookup (.type T) "__getitem__"=pure (some (.builtin id))) (hs:zsc slice)
 (h:wpAny `Y3 A (eval value env) (λo s₁=>wpAny `Y3 A (eval slice env) (λi s₂=>s₂.TypeIs o T/\wpAny `Y3 A (getItem o i) Q E s₂) E s₁) E s):
 wpAny `Y3 A (eval (.Subscript value slice pos) env) Q E s:=by
 refine Subscript_ (K1 h (λo s₁ h₁=>K1 h₁ (λi s₂ h₂=>?_) λ_ _ x=>x) λ_ _ x=>x)
 obtain⟨hT,h₂⟩:=h₂
 unfold subscriptTail
 refine A0 ?_
 rw[getitemInPython_of_ne hT.not_modules]
 refine A0 (wpAny_specialOf hT hl ?_)
 have fin:wpAny `Y3 A (subscripted slice false o i) (λr s₃=>wpAny `Y3 A (letTemporaryGo value o r>>=λ_=>pure r) Q E s₃) E s₂:=by
  rw[hs o i]
  exact wpAny_operating (K1 h₂ (λr s₃ h₃=>A0 (wpAny_letTemporaryGo (F0 h₃))) λ_ _ x=>x)
 first
  |exact F0 (A0 fin)
  |exact A0 (F0 (A0 fin))
  |exact A0 fin
theorem zi5{y:V}{o:Option V}(I:Inv X pins σ H s)(g:DGet H a y o):s.TypeIs (.ref a) "dict":=by
 rcases g with⟨kvs,k,e,_,_⟩|⟨kvs,k,b,e,_,_,_⟩
 ·obtain ⟨_,_,vs,_,dd⟩:=ziI I.hok e
  exact dd.typeIs
 ·obtain ⟨_,_,xs,_,dd⟩:=zgr I.hok e
  exact dd.typeIs
noncomputable def zqJ(td ty:TE):TE:=λσ H Q=>td σ H λx H1=>ty σ H1 λy H2=>∃a v,x= .ref a/\DGet H2 a y (some v)/\Q v H2
noncomputable def zqB(td ty tv:TE):TS:=λD σ H=>tv σ H λv H1=>td σ H1 λx H2=>ty σ H2 λy H3=>∃a H4,x= .ref a/\DPut H3 a y v H4/\D.nx σ H4
section
variable{o i:Expr}{ty:TE}
theorem zqp(hu:X.A.units+1<cLine)(ho:PE X o td)(hi:PE X i ty)(hs:zsc i):PE X (.Subscript o i pos) (zqJ td ty):=by
 intro pins s σ H Q I h
 refine zoO F.slot_dict_getitem.lookup hs (thn (ho pins s σ H _ I h) λu s1 zq=>?_)
 obtain⟨x,H1,I1,rx,q1⟩:=zq
 refine thn (hi pins s1 σ H1 _ I1 q1) λiv s2 zq1=>?_
 obtain⟨y,H2,I2,ry,a,v,ex,g,q2⟩:=zq1
 subst ex
 obtain rfl:u=Value.ref a:=rx
 exact⟨zi5 I2 g,zmc hu I2 g ry λw' s3 I3 rw'=>⟨v,H2,I3,rw',q2⟩⟩
theorem zqd(hu:X.A.units+1<cLine)(ho:PE X o td)(hi:PE X i ty)(hv:PE X value tv)(hs:swapsWith value (some (.Subscript o i pos')) pos.line X.env=pure false):
 PS X (.Assign [.Subscript o i pos'] value pos) (zqB td ty tv):=by
 intro pins s σ H D I h
 refine wpAny_Assign_Subscript (thn (hv pins s σ H _ I h) λr s1 zq=>?_) hs
 obtain⟨v,H1,I1,rv,q1⟩:=zq
 refine thn (ho pins s1 σ H1 _ I1 q1) λu s2 zq1=>?_
 obtain⟨x,H2,I2,rx,q2⟩:=zq1
 refine thn (hi pins s2 σ H2 _ I2 q2) λiv s3 zq2=>?_
 obtain⟨y,H3,I3,ry,a,H4,ex,g,q3⟩:=zq2
 subst ex
 obtain rfl:u=Value.ref a:=rx
 exact zlH hu I3 g ry rv λs4 I4=>⟨σ,H4,I4,q3⟩
end
theorem zon(h:Heap)(hb:sysModules<h.objs.size):ObjOk P w H (h.push {cls:= .type "dict",data:= .dict #[]}) h.objs.size (.dK []):=
 ⟨X1 _,beq_eq_false_iff_ne.mpr (Ne.symm (P1 hb)),[], .nil,Heap.DictOf.new h⟩
theorem ziu(h:Heap)(hb:sysModules<h.objs.size):ObjOk P w H (h.push {cls:= .type "dict",data:= .dict #[]}) h.objs.size (.dT []):=
 ⟨X1 _,beq_eq_false_iff_ne.mpr (Ne.symm (P1 hb)),[], .nil,_, #[],0,T0 _ rfl,⟨rfl,rfl,rfl⟩,rfl,rfl,List.nodup_nil⟩
noncomputable def zmL:TE:=λ_ H Q=>∀p,H p=none->Q (.ref p) (upd H p (.dT []))
theorem znS:PE X (.Dict [] [] pos) zmL:=λpins s σ H Q I h=>
 wpAny_Dict_empty ⟨.ref s.heap.objs.size,_,I.laid (a:=s.heap.objs.size) (o:= .dT []) (t':=s.toks) (λ_ _ q=>G0 _ q) (L0 _) (ziu s.heap I.big),rfl,h _ (I.hok.fresh (L0 _))⟩
def zj7:List (TE×TE)->St->Hp->(List (V×V)->Hp->Prop)->Prop
 |[],_,H,Q=>Q [] H
 |(tk,tv)::r,σ,H,Q=>tk σ H λx H1=>tv σ H1 λy H2=>zj7 r σ H2 λps H3=>Q ((x,y)::ps) H3
abbrev VV:List (V×V)->List (Value×Value)->Prop:=Paired λp q=>RelV p.1 q.1/\RelV p.2 q.2
def PPs(X:Cx)(pos:Pos)(keys:List (Option Expr))(values:List Expr)(trs:List (TE×TE)):Prop:=
 ∀(pins:List (Addr×Obj)) (s:Shared) (σ:St) (H:Hp) (Q:List (V×V)->Hp->Prop),Inv X pins σ H s->zj7 trs σ H Q->
  wpAny `W3 X.A (evalPairs (pairTrees keys values X.env pos)) (λvs s'=>∃ps H',Inv X pins σ H' s'/\VV ps vs/\Q ps H') X.xe s
theorem zo4:PPs X pos [] [] []:=λpins s σ H Q I h=>pairTrees_nil_walk ⟨[],H,I, .nil,h⟩
theorem zm8{k v:Expr}{ks:List (Option Expr)}{vs:List Expr}{tk:TE}(hk:PE X k tk)(hv:PE X v tv)(hr:PPs X pos ks vs trs):
 PPs X pos (some k::ks) (v::vs) ((tk,tv)::trs):=λpins s σ H Q I h=>
 pairTrees_cons_walk (thn (hk pins s σ H _ I h) λu s1 ⟨x,H1,I1,rx,q1⟩=>thn (hv pins s1 σ H1 _ I1 q1) λw2 s2 ⟨y,H2,I2,ry,q2⟩=>
  thn (hr pins s2 σ H2 _ I2 q2) λws s3 ⟨ps,H3,I3,rel,q3⟩=>⟨(x,y)::ps,H3,I3, .cons ⟨rx,ry⟩ rel,q3⟩)
structure M1(X:Cx)(o:Expr)(m:Str)(apos:Pos)(e:Expr)(cpos:Pos):Prop where
 base:attributeBase o m X.env (eval o X.env)=eval o X.env
 few:((backTo cpos (starEach [e] X.env)).all (λx=>!x.1)&&(backToKw cpos (keywordEach [] X.env)).all (λx=>x.1.isSome)
  &&decide (([e]:List Expr).length+([]:List Keyword).length+(if([]:List Keyword).isEmpty then 0 else 1)<30))=true
 line:(apos.endLine==cpos.line)=true
 trees:backTo cpos (starEach [e] X.env)=[(false,eval e X.env)]
structure M2(X:Cx)(o:Expr)(m:Str)(apos:Pos)(e f:Expr)(cpos:Pos):Prop where
 base:attributeBase o m X.env (eval o X.env)=eval o X.env
 few:((backTo cpos (starEach [e,f] X.env)).all (λx=>!x.1)&&(backToKw cpos (keywordEach [] X.env)).all (λx=>x.1.isSome)
  &&decide (([e,f]:List Expr).length+([]:List Keyword).length+(if([]:List Keyword).isEmpty then 0 else 1)<30))=true
 line:(apos.endLine==cpos.line)=true
 trees:backTo cpos (starEach [e,f] X.env)=[(false,eval e X.env),(false,eval f X.env)]
variable{base:Heap}
def IsD(H:Hp)(a:Addr):Prop:=(∃kvs,Rd H a (.dK kvs))\/∃kvs,Rd H a (.dT kvs)
theorem zrS(I:Inv X pins σ H s)(d:IsD H a):
 s.TypeIs (.ref a) "dict"/\(∀b,Value.ref a= .ref b->∃ob,s.heap.get? b=some ob/\ob.dict=none)/\(a==sysModules)=false:=by
 rcases d with⟨kvs,e⟩|⟨kvs,e⟩
 ·obtain ⟨_,hd,vs,_,dd⟩:=ziI I.hok e
  refine⟨dd.typeIs,λb q=>?_,hd⟩
  cases q
  obtain⟨ob,_,_,h1,h2,_⟩:=dd
  exact⟨ob,h1,h2.2.1⟩
 ·obtain ⟨_,hd,xs,_,dd⟩:=zgr I.hok e
  refine⟨dd.typeIs,λb q=>?_,hd⟩
  cases q
  obtain⟨ob,_,_,h1,h2,_⟩:=dd
  exact⟨ob,h1,h2.2.1⟩
section
variable{y d:V}{r:Value}{o:Option V}
theorem zr6(hu:A.units+1<cLine)(I:Inv X pins σ H s)(g:DGet H a y o)(ry:RelV y u)(rd:RelV d r)(h:∀w' s',Inv X pins σ H s'->RelV (o.getD d) w'->Q w' s'):
 wpAny `W3 A (call (.builtin "dict.get") [.ref a,u,r]) Q E s:=by
 rcases g with⟨kvs,k,e,ey,l⟩|⟨kvs,k,b,e,ey,eb,l⟩
 ·subst ey
  obtain⟨z,hd,vs,rel,dd⟩:=ziI I.hok e
  refine call_meetsIn F.slot_dict_get dd.typeIs F.entry_dict_get (F.args_dict_get_3 _ _ _) (meets_dict_get_default (zU X.prog X.w) a (ziP ry) hd r) ⟨_,dd.mapOf,h _ _ (I.tok _) ?_⟩
  rw[l]
  exact(rel.val k).getD rd
 ·subst ey
  cases(show u=Value.ref b from ry)
  obtain⟨z,hd,xs,rel,dd⟩:=zgr I.hok e
  refine call_meetsIn F.slot_dict_get dd.typeIs F.entry_dict_get (F.args_dict_get_3 _ _ _) (meetsH_dict_get_default (tupleKind (zU X.prog X.w)) a b hd r) ⟨tupleKind_room_in1 hu,k,xs,zfm I.hok eb,dd,h _ _ (I.tok _) ?_⟩
  rw[l]
  exact(rel.val k).getD rd
end
noncomputable def znM(td ty tx:TE):TE:=λσ H Q=>td σ H λx H1=>∃a,x= .ref a/\IsD H1 a/\ty σ H1 λy H2=>tx σ H2 λz H3=>∃o,DGet H3 a y o/\Q (o.getD z) H3
section
variable{o f:Expr}{ty:TE}
theorem zmI(hu:X.A.units+1<cLine)(ho:PE X o td)(he:PE X e ty)(hf:PE X f tx)(m:M2 X o "get" apos e f cpos):PE X (.Call (.Attribute o "get" apos) [e,f] [] cpos) (znM td ty tx):=by
 intro pins s σ H Q I h
 refine wpAny_Call_method m.base m.few m.line F.plainAttrs_dict F.slot_dict_get F.type_dict_get (thn (ho pins s σ H _ I h) λu s1 zq=>?_)
 obtain⟨x,H1,I1,rx,a,ex,d,q1⟩:=zq
 subst ex
 obtain rfl:u=Value.ref a:=rx
 obtain⟨t1,t2,_⟩:=zrS I1 d
 refine⟨t1,t2,?_⟩
 rw[m.trees]
 refine Calls.callWith_builtin rfl (Calls.evalArgs_plain (Calls.spliced_cons (thn (he pins s1 σ H1 _ I1 q1) λiv s2 ⟨y,H2,I2,ry,q2⟩=>
  Calls.spliced_cons (thn (hf pins s2 σ H2 _ I2 q2) λfv s3 ⟨z,H3,I3,rz,ov,g,q3⟩=>Calls.spliced_nil ?_))))
 exact zr6 hu I3 g ry rz λw' s4 I4 rw'=>⟨_,H3,I4,rw',q3⟩
end
section
variable{kvs:List (Key×V)}
end
section
variable{y:V}
end
theorem zkp:∀{bs:List Bool} {us:List Value} {i:Nat} {v:Value},Vals (bs.map V.bl) us->us[i]?=some v->∃b,bs[i]?=some b/\v= .bool b
 |[],_,_,_, .nil,e=>by simp at e
 |b::bs,_,0,v, .cons r _,e=>by
  simp at e
  subst e
  exact⟨b,rfl,r⟩
 |b::bs,_,i+1,v, .cons _ t,e=>by
  obtain⟨c,h1,h2⟩:=zkp (i:=i) t (by simpa using e)
  exact⟨c,by simpa using h1,h2⟩
noncomputable def atB(bs:List Bool)(j:Nat):Bool:=match bs[j]? with|some b=>b|none=>true
theorem zgY(bs:List Bool):(List.range bs.length).all (atB bs)=bs.all id:=by
 refine Eq.trans ?_ (PyProof.Rows.all_rangeD bs (id:Bool->Bool))
 congr 1
 funext j
 unfold atB
 cases bs[j]?<;>rfl
theorem zlF(hc:X.calm=true):CallR X (.builtin "all") (λxs H Q=>∃(p:Addr) (bs:List Bool),xs=[.ref p]/\SqL X.K H p (bs.map V.bl)/\Q (.bl (bs.all id)) H):=by
 intro pins s σ H xs us Q I r h
 obtain⟨p,bs,rfl,hq,q⟩:=h
 obtain⟨u,rfl,ru⟩:=za8 r
 cases ru
 obtain⟨its,rv,pl,hz⟩:=I.list hq
 have hp:p≠s.heap.objs.size:=P1 pl.lt
 refine call_all_walk (wpAny_pyIter_list pl.isList ?_)
 refine⟨s.heap.objs.size,_,_,_,_,_,atB bs,rfl,Walks.list (A:=X.A.in1) (show X.A.in1.handled=none from I.ok.hd hc) _ p hp its.toArray,⟨⟨_,T0 _ rfl,rfl,rfl⟩,?_⟩,?_,λh' tk hk=>?_⟩
 ·obtain ⟨o,n,e,c,_,d⟩:=pl
  exact⟨o,G0 _ e,c,n,d⟩
 ·intro i v s' Q' E' hP hQ
  obtain⟨b,h1,rfl⟩:=zkp (i:=i) (v:=v) rv (by simpa using hP)
  refine wpAny_truthy_bool ?_
  have e:atB bs i=b:=by unfold atB;rw[h1]
  rw[e] at hQ
  exact hQ
 ·have hl:its.toArray.size=bs.length:=by
   have:=rv.length
   simp at this
   simp[this]
  rw[hl,zgY]
  refine⟨.bl (bs.all id),H,I.kept λb o e=>hk b o ?_ (G0 _ e),rfl,q⟩
  intro z
  have:b=s.heap.objs.size:=by simpa using z
  exact absurd (W0 e) (by rw[this];exact Nat.lt_irrefl _)
theorem za1:∀{ys:List Str} {us:List Value},Vals (ys.map V.str) us->StrsAre us ys
 |[],_, .nil=>by first|exact .nil|trivial
 |y::ys,_, .cons r t=>by
  obtain⟨k,rfl⟩:=r
  first
   |exact .cons _ _ (za1 t)
   |exact .cons (za1 t)
   |exact⟨⟨k,rfl⟩,za1 t⟩
noncomputable def zfZ(z:Str)(n:Nat):Str:=⟨(List.replicate n z.cps).foldl (·++·) #[]⟩
theorem zjI:OpR X (binaryOp .Mult) (λx y H Q=>∃z n,x= .str z/\y= .int n/\1<n/\n<=1000/\0<z.length/\z.length<=1000/\Q (.str (zfZ z n.toNat)) H):=by
 intro pins s σ H x y v u Q I rx ry h
 obtain⟨z,n,rfl,rfl,h1,h2,h3,h4,q⟩:=h
 obtain⟨t,rfl⟩:=rx
 obtain⟨t',rfl⟩:=ry
 have e1:¬n<1:=()
 have e2:(n==1||z.length==0)=false:=by
  have a:(n==1)=false:=beq_eq_false_iff_ne.mpr ()
  have b:(z.length==0)=false:=beq_eq_false_iff_ne.mpr ()
  rw[a,b];rfl
 have hz:z.length*n.toNat<=1000*1000:=Nat.mul_le_mul h4 ()
 refine P.mul_str ?_ (λ_ _=>?_) (λ_ _=>?_) ?_
 ·have a:decide (n< -(2^63:Int))=false:=A1 ()
  have b:decide (n≥2^63)=false:=A1 ()
  rw[a,b];rfl
 ·have hd:(1000:Int)<=(2^63 -1)/n:=by
   apply Int.le_ediv_of_mul_le ()
   lia
  lia
 ·have hb:z.length*n.toNat<=sizeLine:=B2 hz ⋯
  unfold Builtin.Str.tooLong
  exact A1 ()
 ·rw[P0 e1,e2]
  simp only[M3,if_false]
  refine⟨?_,⟨.str _,H,I.tok _,⟨_,rfl⟩,q⟩⟩
  have key:∀(k:Nat) (acc:Array Nat),((List.replicate k z.cps).foldl (·++·) acc).size=acc.size+k*z.cps.size:=by
   intro k
   induction k with
   |zero=>intro acc;simp
   |succ k ih=>intro acc;rw[List.replicate_succ,List.foldl_cons,ih,Array.size_append,Nat.succ_mul];lia
  have hk:=key n.toNat #[]
  have hz':n.toNat *z.cps.size<=1000*1000:=Nat.mul_le_mul () h4
  have hsl:1000*1000<=sizeLine:=⋯
  show((List.replicate n.toNat z.cps).foldl (·++·) #[]).size<=sizeLine
  rw[hk]
  simp only[Array.size_empty]
  lia
theorem zaP:bootBuiltins "len"=some (.builtin "len"):=`Z3
theorem zsq:bootBuiltins "all"=some (.builtin "all"):=`Z3
theorem zg3:bootBuiltins "max"=some (.builtin "max"):=`Z3
theorem zg5:bootBuiltins "min"=some (.builtin "min"):=`Z3
theorem zah:bootBuiltins "sorted"=some (.builtin "sorted"):=`Z3
theorem zjJ:bootBuiltins "int"=some (.type "int"):=`Z3
theorem zaJ:bootBuiltins "tuple"=some (.type "tuple"):=`Z3
theorem few{xs:List α}(h:Nat.ble xs.length 1000=true):xs.length<=sizeLine:=A3 (zj (Nat.le_of_ble_eq_true h))
noncomputable def zeE:Expr->Option V
 | .Constant (.str x) _ _=>some (.str x)
 | .Constant (.int i) _ _=>some (.int i)
 | .Constant (.bool b) _ _=>some (.bl b)
 | .Constant .none _ _=>some .non
 |_=>none
theorem znl(h:zeE e=some v):PE X e (tC v)/\∀es,starEach (e::es) X.env=(false,eval e X.env)::starEach es X.env:=by
 cases e with
 |Constant c j pos=>
  cases c with
  |str x=>cases h;exact⟨zmK,λ_=>rfl⟩
  |int x=>cases h;exact⟨znr,λ_=>rfl⟩
  |bool x=>cases h;exact⟨zqC,λ_=>rfl⟩
  |none=>cases h;exact⟨zmO,λ_=>rfl⟩
  |_=>cases h
 |_=>cases h
noncomputable def ztE(vs:List V):TA:=λ_ H Q=>Q vs H
theorem zec:∀{es:List Expr} {vs:List V},es.mapM zeE=some vs->PA X es (ztE vs)
 |[],vs,h=>by
  have e:vs=[]:=by simpa using h.symm
  subst e
  exact znh
 |e::es,vs,h=>by
  rw[List.mapM_cons] at h
  cases h1:zeE e with
  |none=>rw[h1] at h;cases h
  |some v=>
   rw[h1] at h
   cases h2:es.mapM zeE with
   |none=>rw[h2] at h;cases h
   |some us=>
    rw[h2] at h
    have e1:v::us=vs:=o0 h
    subst e1
    obtain⟨p,st⟩:=znl (X:=X) h1
    have q:=zkY p (zec (es:=es) h2) (st es)
    exact q
noncomputable def zqv(vs:List V):TE:=λ_ H Q=>vs.length<=sizeLine/\∀p,H p=none->Q (.ref p) (upd H p (.lst vs))
theorem zoN(vs:List V)(h:es.mapM zeE=some vs):PE X (.List es pos) (zqv vs):=zn3 (zec h)
structure Wk(J:It)(n:Nat)(P:Nat->V->Prop)(ok:Hp->Prop):Prop where
 stop:∀i H,ok H->n<=i->J.stop i H
 go:∀i H,ok H->i<n->J.go i H
 yld:∀i H x H',ok H->i<n->J.yld i H x H'->H'=H/\P i x
theorem zaO:Wk (Itl K a) xs.length (λi x=>xs[i]?=some x) (λH=>SqL K H a xs) where
 stop:=λi H h l=>⟨xs,h,l⟩
 go:=λi H h l=>⟨xs,xs[i],h,by simp[l]⟩
 yld:=λi H x H' h l y=>⟨y.1,y.2 xs h⟩
theorem zap:Wk (Itt K a) xs.length (λi x=>xs[i]?=some x) (λH=>SqT K H a xs) where
 stop:=λi H h l=>⟨xs,h,l⟩
 go:=λi H h l=>⟨xs,xs[i],h,by simp[l]⟩
 yld:=λi H x H' h l y=>⟨y.1,y.2 xs h⟩
theorem zfR{lo:Int}:Wk (Itr lo n) n (λi x=>x= .int (lo+i)) (λ_=>True) where
 stop:=λi H h l=>l
 go:=λi H h l=>l
 yld:=λi H x H' h l y=>y
theorem za3{P:Nat->V->Prop}{ok:Hp->Prop}{g:TG}{src:List (Option Nat)}{Q:VK}(wk:Wk J n P ok)(Pv:Addr->Nat->List V->St->Hp->Prop)
 (h0:∀l,H1 l=none->Pv l 0 [] (zdk src σ) (upd H1 l (.lst []))) (hok:∀l i ys σ H,H1 l=none->Pv l i ys σ H->ok H)
 (hs:∀l i x ys σ H,H1 l=none->i<n->P i x->Pv l i ys σ H->H l=some (.lst ys)->g x σ H λσ2 H3=>tc σ2 H3 λb H4=>
   if b=true then te σ2 H4 λy H5=>H5 l=some (.lst ys)/\ys.length<sizeLine/\Pv l (i+1) (ys ++ [y]) σ2 (upd H5 l (.lst (ys ++ [y])))else H4 l=some (.lst ys)/\Pv l (i+1) ys σ2 H4)
 (hd:∀l ys σ H,H1 l=none->Pv l n ys σ H->H l=some (.lst ys)->Q (.ref l) H):
 zfE g tc te src σ Q J H1:=by
 intro l hl
 refine⟨λi m ys σ H=>m=n -i/\i<=n/\Pv l i ys σ H,⟨n,`j3,X1 _,h0 l hl⟩,?_⟩
 rintro i m ys σ' H' ⟨rfl,hi,p⟩ hl'
 by_cases hlt:i<n
 ·refine .inr ⟨wk.go i H' (hok l i ys σ' H' hl p) hlt,Pv l (i+1),λzs σ2 H2 q=>⟨n -(i+1),(),rfl,hlt,q⟩,λx H2 y=>?_⟩
  obtain⟨rfl,px⟩:=wk.yld i H' x H2 (hok l i ys σ' H' hl p) hlt y
  exact hs l i x ys σ' _ hl hlt px p hl'
 ·have e:i=n:=()
  subst e
  exact .inl ⟨wk.stop _ _ (hok l _ ys σ' H' hl p) (L0 _),hd l ys σ' H' hl p hl'⟩
theorem zaN{P:Nat->V->Prop}{ok:Hp->Prop}{g:TG}{D:Ends}(wk:Wk J n P ok)(Pv:Nat->St->Hp->Prop)(h0:Pv 0 σ H)(hok:∀i σ H,Pv i σ H->ok H)
 (hs:∀i x σ H,i<n->P i x->Pv i σ H->g x σ H λσ2 H2=>tb {D with nx:=Pv (i+1),ct:=Pv (i+1),bk:=D.nx} σ2 H2) (hd:∀σ H,Pv n σ H->D.nx σ H):
 zkI g tb D σ J H:=by
 refine⟨λi m σ H=>m=n -i/\i<=n/\Pv i σ H,⟨n,`j3,X1 _,h0⟩,?_⟩
 rintro i m σ H ⟨rfl,hi,p⟩
 by_cases hlt:i<n
 ·refine .inr ⟨wk.go i H (hok i σ H p) hlt,Pv (i+1),λσ' H' q=>⟨n -(i+1),(),rfl,hlt,q⟩,λx H' y=>?_⟩
  obtain⟨rfl,px⟩:=wk.yld i H x H' (hok i σ H p) hlt y
  exact hs i x σ _ hlt px p
 ·have e:i=n:=()
  subst e
  exact .inl ⟨wk.stop _ _ (hok _ σ H p) (L0 _),hd σ H p⟩
structure QE(X:Cx)(e:Expr)(t:TE):Prop where o:PE X e t
structure QT(X:Cx)(e:Expr)(t:TT):Prop where o:PT X e t
structure QW(X:Cx)(e:Expr)(t:TT):Prop where o:PW X e t
structure QA(X:Cx)(es:List Expr)(t:TA):Prop where o:PA X es t
structure QS(X:Cx)(s:Stmt)(t:TS):Prop where o:PS X s t
structure QB(X:Cx)(s:List Stmt)(t:TS):Prop where o:PSs X s t
structure QI(X:Cx)(tg iter:Expr)(t:TI):Prop where o:PI X tg iter t
structure QG(X:Cx)(tg:Expr)(t:TG):Prop where o:PG X tg t
structure QGs(X:Cx)(tg:List Expr)(t:TGs):Prop where o:PGs X tg t
structure QF(X:Cx)(ifs:List Expr)(t:TT):Prop where o:PIf X ifs t
structure QO(X:Cx)(e:Option Expr)(t:TO):Prop where o:PO X e t
structure QPs(X:Cx)(pos:Pos)(keys:List (Option Expr))(values:List Expr)(trs:List (TE×TE)):Prop where o:PPs X pos keys values trs
section
variable{a b o i:Expr}{ta tb tc to:TE}{t u:TA}{p:Pos}{q q':TT}
theorem qv(i:Nat)(hN:autoParam (X.N[i]?=some x) y3)(hv:Vis X.env.scope x:=by exact Or.inl rfl)(hd:autoParam ((x==("__debug__":Str))=false) v4)
 (hcd:autoParam ((x==("__classdict__":Str))=false) v4):QE X (.Name x pos) (zl9 i):=⟨zn8 hN hv hd hcd⟩
theorem qc(i:Nat)(hN:autoParam (X.N[i]?=some x) y3)(hv:autoParam (X.env.scope.names.lookup x=some .cell) y3)(hd:autoParam ((x==("__debug__":Str))=false) v4)
 (hcd:autoParam ((x==("__classdict__":Str))=false) v4):QE X (.Name x pos) (zl9 i):=⟨zn8 hN (.inr (.inl hv)) hd hcd⟩
theorem zk{k:Int}:QE X (.Constant (.int k) j pos) (tC (.int k)):=⟨znr⟩
theorem zbb{k:Str}:QE X (.Constant (.str k) j pos) (tC (.str k)):=⟨zmK⟩
theorem zlP{k:Bool}:QE X (.Constant (.bool k) j pos) (tC (.bl k)):=⟨zqC⟩
theorem zeO:QE X (.Constant .none j pos) (tC .non):=⟨zmO⟩
theorem zne{u:Value}(hm:X.mg x=some u)(r:RelV v u)(hg:autoParam (Gl X x) y3)(hd:autoParam ((x==("__debug__":Str))=false) v4):QE X (.Name x pos) (tC v):=⟨zo9 hg hm r hd⟩
theorem zN{op:Operator}{r:R2}(ho:OpR X (binaryOp op) r)(ha:QE X a ta)(hb:QE X b tb):QE X (.BinOp a op b pos) (tOp r ta tb):=⟨zti ho ha.o hb.o⟩
theorem zn2{op:UnaryOp}{r:V->Hp->VK->Prop}(ho:UnR X (unaryOp op) r)(ha:QE X a ta):QE X (.UnaryOp op a pos) (tUn r ta):=⟨zsT ho ha.o⟩
theorem zcH{r:R2}(ho:OpR X (compareOp op) r)(ha:QE X a ta)(hb:QE X b tb)(hm:autoParam (behindInMarks op b=false) y3):QE X (.Compare a [op] [b] pos) (tOp r ta tb):=⟨zpS ho ha.o hb.o hm⟩
theorem zK{r:R2}(ho:OpR X (compareOp op) r)(ha:QE X a ta)(hb:QE X b tb)(hm:autoParam (behindInMarks op b=false) y3):QT X (.Compare a [op] [b] pos) (zle (tOp r ta tb)):=⟨zpf ho ha.o hb.o hm⟩
theorem ztn{op:BoolOp}(h:QE X a ta):QE X (.BoolOp op [a] pos) ta:=⟨zru h.o⟩
theorem ztg(ha:QE X a ta)(hb:QE X (.BoolOp .And (b::rest) pos) tb):QE X (.BoolOp .And (a::b::rest) pos) (zqy ta tb):=⟨zrY ha.o hb.o⟩
theorem zte(ha:QE X a ta):QE X (.UnaryOp .Not a pos) (zqQ ta):=⟨zrt ha.o⟩
theorem znP(hc:QT X c q)(ha:QE X a ta)(hb:QE X b tb):QE X (.IfExp c a b pos) (tIf q ta tb):=⟨zmA hc.o ha.o hb.o⟩
theorem zmx(ha:QT X a q):QW X (.BoolOp .And [a] pos) q:=⟨zo1 ha.o⟩
theorem zqZ(ha:QT X a q):QW X (.BoolOp .Or [a] pos) q:=⟨zry ha.o⟩
theorem zqR(ha:QT X a q)(hb:QW X (.BoolOp .And (b::rest) pos) q'):QW X (.BoolOp .And (a::b::rest) pos) (zsU q q'):=⟨zr8 ha.o hb.o⟩
theorem zsC(ha:QT X a q)(hb:QW X (.BoolOp .Or (b::rest) pos) q'):QW X (.BoolOp .Or (a::b::rest) pos) (tOr q q'):=⟨zs9 ha.o hb.o⟩
theorem t_w(h:QW X a q):QT X a q:=⟨h.o.pt⟩
theorem zkP(ha:QT X a q):QT X (.UnaryOp .Not a pos) (zsD q):=⟨zrZ ha.o⟩
theorem zgJ(h:QE X e te)(he:autoParam (∀whole,isTrue e X.env whole=(do let v ←whole;standAt e.pos;holding [v] (truthy v))) y4):QT X e (tB te):=⟨zrU h.o he⟩
theorem zqn(h:QE X e te)(he:autoParam (∀whole,isTrue e X.env whole=(do let v ←whole;standAt e.pos;holding [v] (truthy v))) y4):QT X e (λσ H Q=>te σ H λx H'=>∃k,zr5 X.K x H' k/\Q k H'):=⟨zn5 h.o he⟩
theorem zd:QA X [] zrW:=⟨znh⟩
theorem za(ha:QE X e te)(hr:QA X es t)(hs:autoParam (starEach (e::es) X.env=(false,eval e X.env)::starEach es X.env) y3):QA X (e::es) (zoh te t):=⟨zkY ha.o hr.o hs⟩
theorem zF(h:QA X es t):QE X (.Tuple es k pos) (zsj t):=⟨zsv h.o⟩
theorem zdo(h:QA X es t):QE X (.List es pos) (ztb t):=⟨zn3 h.o⟩
theorem zhc(vs:List V)(h:es.mapM zeE=some vs):QE X (.List es pos) (zqv vs):=⟨zoN vs h⟩
theorem zo{ps:List Str}{ds:List Value}{E:XK}(F:FnOk X.prog X.w X.K X.mg X.base CX k f fd ps sp)(hr:Room k X.A)(hm:X.mg x=some (.ref f))(hk:W.keepIn X.K (.ref f)=true)(hb:Binds X.K fd ps ds)(hd:Vals dvs ds)(hx:zhh CX X E)
 (ha:QA X (e::es) t) (hg:autoParam (Gl X x) y3) (hdb:autoParam ((x==("__debug__":Str))=false) v4) (he:autoParam (starEach (e::es) X.env=(false,eval e X.env)::starEach es X.env) y3) (hpl:autoParam ((backTo pos (starEach es X.env)).any (·.1)=false) y3):
 QE X (.Call (.Name x p) (e::es) [] pos) (zqt sp dvs E t):=⟨zp8 F hr hg hm hk hb hd hx ha.o hdb he hpl⟩
theorem zr{id:String}{r:List V->Hp->VK->Prop}(hc:CallR X (.builtin id) r)(hm:X.mg x=none)(hv:bootBuiltins x=some (.builtin id))(ha:QA X (e::es) t)(hg:autoParam (Gl X x) y3)(hn:autoParam (x≠"__name__") v4)(hdb:autoParam ((x==("__debug__":Str))=false) v4)
 (he:autoParam (starEach (e::es) X.env=(false,eval e X.env)::starEach es X.env) y3) (hpl:autoParam ((backTo pos (starEach es X.env)).any (·.1)=false) y3):QE X (.Call (.Name x p) (e::es) [] pos) (tCB r t):=⟨zmM hc hg hm hv ha.o hn hdb he hpl⟩
theorem zaf{r:List V->Hp->VK->Prop}(hc:CallR X (.type T) r)(hm:X.mg x=none)(hv:bootBuiltins x=some (.type T))(ha:QA X (e::es) t)(hg:autoParam (Gl X x) y3)(hn:autoParam (x≠"__name__") v4)(hdb:autoParam ((x==("__debug__":Str))=false) v4)
 (he:autoParam (starEach (e::es) X.env=(false,eval e X.env)::starEach es X.env) y3) (hpl:autoParam ((backTo pos (starEach es X.env)).any (·.1)=false) y3):QE X (.Call (.Name x p) (e::es) [] pos) (tCB r t):=⟨zlD hc hg hm hv ha.o hn hdb he hpl⟩
theorem zag{r:R2}(hr:IxR X r)(ha:QE X a ta)(hb:QE X b tb)(hs:autoParam (zkK b) y6):QE X (.Subscript a b pos) (tOp r ta tb):=⟨zsP hr ha.o hb.o hs⟩
theorem zco:QO X none zk2:=⟨zqr⟩
theorem zcc(h:QE X e te):QO X (some e) (zqW te):=⟨zoT h.o⟩
theorem zhu{r:V->Option Int->Option Int->Hp->VK->Prop}{lo hi:Option Expr}{tl:TO}(hr:SlR X r)(he:QE X e te)(hl:QO X lo tl)(hu:QO X hi th):QE X (.Subscript e (.Slice lo hi none p) pos) (tSl r te tl th):=⟨zmG hr he.o hl.o hu.o⟩
theorem ze9{id:String}{r:V->List V->Hp->VK->Prop}(pa:PlainAttrs T)(slot:Slot T name id)(hty:typeOf (.builtin id)=pure (.type "method_descriptor"))(hm:MtR X id r)(ho:QE X o to)(ha:QA X (e::es) t)
 (hbase:autoParam (attributeBase o name X.env (eval o X.env)=eval o X.env) y3)
 (hfew:autoParam (((backTo cpos (starEach (e::es) X.env)).all (λx=>!x.1)&&(backToKw cpos (keywordEach [] X.env)).all (λx=>x.1.isSome)
   &&decide ((e::es).length+([]:List Keyword).length+(if([]:List Keyword).isEmpty then 0 else 1)<30))=true) y3)
 (hline:autoParam ((apos.endLine==cpos.line)=true) y3) (hs:autoParam (starEach (e::es) X.env=(false,eval e X.env)::starEach es X.env) y3) (hplain:autoParam ((backTo cpos (starEach es X.env)).any (·.1)=false) y3):
 QE X (.Call (.Attribute o name apos) (e::es) [] cpos) (tBM X.K T r to t):=⟨zsF pa slot hty hm ho.o ha.o hbase hfew hline hs hplain⟩
theorem zra:QPs X pos [] [] []:=⟨zo4⟩
theorem zsS{ks:List (Option Expr)}{vs:List Expr}(hk:QE X a ta)(hv:QE X b tb)(hr:QPs X pos ks vs trs):QPs X pos (some a::ks) (b::vs) ((ta,tb)::trs):=⟨zm8 hk.o hv.o hr.o⟩
theorem zbG(h:QE X e te):QI X tg e (zmX X.K te):=⟨zpG h.o⟩
theorem zbd(h:QE X e te):QI X tg e (zsw X.K te):=⟨zrr h.o⟩
theorem zhp(hm:X.mg "range"=none)(ha:QA X [a] t)(hg:autoParam (Gl X "range") y3)(hs:autoParam (starEach [a] X.env=[(false,eval a X.env)]) y3):QI X tg (.Call (.Name "range" p) [a] [] pos) (zqX t):=⟨zlR hg hm ha.o hs⟩
theorem zr0(hm:X.mg "range"=none)(ha:QA X [a,b] t)(hg:autoParam (Gl X "range") y3)(hs:autoParam (starEach [a,b] X.env=[(false,eval a X.env),(false,eval b X.env)]) y3)(hs2:autoParam (starEach [b] X.env=[(false,eval b X.env)]) y3):QI X tg (.Call (.Name "range" p) [a,b] [] pos) (zqG t):=⟨zlC hg hm ha.o hs hs2⟩
theorem zn(k:Nat)(hN:X.N.Nodup)(hi:autoParam (X.N[k]?=some x) y3)(hx:autoParam (X.env.scope.names.lookup x=some .local) y3):QG X (.Name x pos) (zay k):=⟨zkn hN hi (.inl hx) (.inr hx)⟩
theorem zaY:QGs X [] ztk:=⟨zoR⟩
theorem zx{tg:TG}(h1:QG X e tg)(h2:QGs X es tgs)(hs:autoParam ((assignEach (e::es) X.env).map (·.2)=assign e X.env::(assignEach es X.env).map (·.2)) y3):QGs X (e::es) (zqS tg tgs):=⟨zoo h1.o h2.o hs⟩
theorem zdr(n:Nat)(hc:X.calm=true)(h:QGs X es tgs)(hn:autoParam ((assignEach es X.env).length=n) y3)(hst:autoParam ((assignEach es X.env).findIdx? (·.1)=none) y3):QG X (.Tuple es k pos) (zso X.K n tgs):=⟨zsu hc h.o hn hst⟩
theorem zbn:QF X [] zrV:=⟨zpx⟩
theorem ziS(h:QT X c q):QF X [c] q:=⟨zoE h.o⟩
theorem z8:QB X [] zqw:=⟨zpC⟩
theorem zh{st:Stmt}(h1:QS X st sa)(h2:QB X sts sb):QB X (st::sts) (zsA sa sb):=⟨zh7 h1.o h2.o⟩
theorem zm{st:Stmt}(h1:QS X st sa):QB X [st] sa:=⟨zp6 h1.o⟩
theorem zaX{A B:List Stmt}(hc:QT X c q)(ha:QB X A sa)(hb:QB X B sb):QS X (.If c A B pos) (zsR q sa sb):=⟨zsB hc.o ha.o hb.o⟩
theorem zw(h:QE X e te):QS X (.Return (some e) pos) (zto te):=⟨zsy h.o⟩
theorem zci(he:QE X e te)(hs:autoParam (swapsWith e none pos.line X.env=pure false) y3):QS X (.Expr e pos) (zqV te):=⟨zqf he.o hs⟩
theorem zmY:QS X (.Continue pos) zqN:=⟨zig⟩
theorem zE(k:Nat)(hN:X.N.Nodup)(he:QE X e te)(hi:autoParam (X.N[k]?=some x) y3)(hx:autoParam (X.env.scope.names.lookup x=some .local) y3)(hs:autoParam (swapsWith e (some (.Name x pos')) pos.line X.env=pure false) y3):
 QS X (.Assign [.Name x pos'] e pos) (zj1 te (zay k)):=⟨znb hN hi (.inl hx) he.o hs (.inr hx)⟩
theorem zbW(k:Nat)(hN:X.N.Nodup)(he:QE X e te)(hi:autoParam (X.N[k]?=some x) y3)(hx:autoParam (X.env.scope.names.lookup x=some .cell) y3)(hf:autoParam (X.fn x=true) y3)(hs:autoParam (swapsWith e (some (.Name x pos')) pos.line X.env=pure false) y3):
 QS X (.Assign [.Name x pos'] e pos) (zj1 te (zay k)):=⟨znb hN hi (.inr hx) he.o hs (.inl hf)⟩
theorem zbo{g:TG}(hp:PassesOwn `W3 X.A X.env X.xe)(hc:X.calm=true)(hi:QI X tg iter wi)(hg:QG X tg g)(hb:QB X body sa)
 (hs:autoParam (∀x,foldedSetIterable iter X.env x=pure x) y4):QS X (.For tg iter body [] pos) (zqM wi g sa):=⟨zpy hp hc hi.o hg.o hb.o hs⟩
end
section
variable{src:List (Option Nat)}{g:TG}
theorem zbz(ok:CompOk X.N osc N' src scope)(hsc:X.env.scope=osc)(hc:X.calm=true)(hi:QI X tg iter wi)
 (hg:∀cl C s₀ H₀ fp,QG `X3 tg g) (ht:∀cl C s₀ H₀ fp,QF `X3 ifs tc) (he:∀cl C s₀ H₀ fp,QE `X3 elt te)
 (hs:autoParam (∀x,foldedSetIterable iter X.env x=pure x) y4):QE X (.ListComp elt [⟨tg,iter,ifs,0⟩] scope pos) (zkz wi g tc te src):=
 ⟨zp1 ok hsc hc hi.o (λcl C s₀ H₀ fp=>(hg cl C s₀ H₀ fp).o) (λcl C s₀ H₀ fp=>(ht cl C s₀ H₀ fp).o) (λcl C s₀ H₀ fp=>(he cl C s₀ H₀ fp).o) hs⟩
end
theorem Fun.okQ{mg:Str->Option Value}{st:Stmt}{ps:List Str}(F:Fun K x qual st f fd)(S:FnScope N ps (ze st))(len:∀vs H Q E,sp vs H Q E->vs.length=ps.length)
 (hbody:∀(cdv:Value) (A:Around) (outer:List Env) (s:Shared) (H:Hp) (vs:List V) (Q:VK) (E:XK),Room k (A.deeper (envOfC qual (ze st) s.heap.objs.size f cdv))->sp vs H Q E->
   ∃t,QB (zgg CX0 P w K mg base N qual (ze st) f cdv A outer s H E).nox (zL st) t/\t {nx:=λ_ H'=>Q .non H',rt:=Q} (start N vs) H):FnOk P w K mg base CX0 (k+1) f fd ps sp:=
 F.ok S len λcdv A outer s H vs Q E hr h=>let ⟨t,a,b⟩:=hbody cdv A outer s H vs Q E hr h;⟨t,a.o,b⟩
theorem zq7{m:Str->Option Value}(hn:h.Ns a m):∃o,h.get? a=some o/\∀v,o.data≠ .cell v:=
 let⟨o,es,ep,e,d,_⟩:=hn;⟨o,e,λv z=>by rw[d] at z;cases z⟩
theorem zpX{m:Str->Option Value}{o:Obj}(hn:h.Ns a m)(e:h.get? a=some o)(e':h'.get? a=some o):h'.Ns a m:=by
 obtain⟨o',es,ep,e1,r⟩:=hn
 rw[e] at e1
 cases e1
 exact⟨o,es,ep,e',r⟩
section
variable{src:List (Option Nat)}{g:TG}
theorem zjN(ok:CompOk X.N osc N' src scope)(hsc:X.env.scope=osc)(hc:X.calm=true)(hi:PI X tg iter wi)
 (hg:∀cl C s₀ H₀ fp,PG `X3 tg g) (ht:∀cl C s₀ H₀ fp,PIf `X3 ifs tc) (he:∀cl C s₀ H₀ fp,PE `X3 elt te)
 (hN:X.N.Nodup) (hk:X.N[k]?=some y) (hx:X.env.scope.names.lookup y=some .local) (hsw:swapsWith (.ListComp elt [⟨tg,iter,ifs,0⟩] scope pos) (some (.Name y py)) spos.line X.env=pure true)
 (hs:autoParam (∀x,foldedSetIterable iter X.env x=pure x) y4):PS X (.Assign [.Name y py] (.ListComp elt [⟨tg,iter,ifs,0⟩] scope pos) spos) (zj1 (zkz wi g tc te src) (zay k)):=by
 intro pins s σ H D I h
 obtain⟨cl,hcl,c1,c2⟩:=zbK (scope:=scope) (env:=X.env) λy hy hyf=>I.ok.has y.1 (by
  have z:=ok.frees y hy hyf
  rw[←hsc] at z
  exact z)
 rw[exec_Assign_Name_used _ _ _ _ hsw]
 refine A0 (J3 (A0 ?_))
 show wpAny _ X.A (do let _ ←comprehension (.ListComp elt [⟨tg,iter,ifs,0⟩] scope pos) scope X.env _ (newList []) false (eval iter X.env) (some (assign (.Name y py) X.env))) _ _ s
 refine A0 (K1 (wpAny_comprehension_free (use:=some (assign (.Name y py) X.env)) (Q:=λ_ s'=>∃σ' H',Inv X pins σ' H' s'/\D.nx σ' H') rfl hs hcl ok.kind ok.loc
  (thn (hi pins s σ H _ I h) λv s1 h1=>thn h1 λitv s2 h2=>?_)) (λ_ s' hq=>F0 (F0 hq)) λ_ _ e=>e)
 obtain⟨it,fp,tn,J,H2,e,I2,T,st2,f2,q2⟩:=h2
 subst e
 have hlt2:∀b∈fp,b<s2.heap.objs.size:=λb hb=>by
  obtain⟨o,e,_⟩:=T.obj _ _ st2 b hb
  exact W0 e
 refine j1 ?_
 have hl:H2 s2.heap.objs.size=none:=I2.hok.fresh (L0 _)
 have I3:Inv X pins σ (upd H2 s2.heap.objs.size (.lst [])) {s2 with heap:=s2.heap.push {cls:= .type "list",dict:=none,data:= .seq ([]:List Value).toArray}}:=
  I2.laid (t':=s2.toks) (λb u e=>G0 _ e) (L0 _) ⟨X1 _,[],0, .nil,T0 _ rfl⟩
 obtain⟨W,⟨m0,w0⟩,turn⟩:=q2 _ hl
 generalize hl2:s2.heap.objs.size=l at *
 generalize hs3:({s2 with heap:=s2.heap.push {cls:= .type "list",dict:=none,data:= .seq ([]:List Value).toArray}}:Shared)=s3 at *
 have f3:∀b∈fp,zb4 X pins (upd H2 l (.lst [])) b:=λb hb=>⟨by rw[zc (P1 (hlt2 b hb))];exact(f2 b hb).1,(f2 b hb).2⟩
 have k3:∀b o,s2.heap.get? b=some o->s3.heap.get? b=some o:=λb o e=>by rw[←hs3];exact G0 _ e
 have hlt3:∀b∈fp,b<s3.heap.objs.size:=λb hb=>by
  obtain⟨o,e,_⟩:=T.obj _ _ st2 b hb
  exact W0 (k3 b o e)
 refine wpAny_newFunctionEnv ok.nocell (by intro y hy;simp at hy) (λh₁ hns₁ hsb₁=>?_) ok.kind
 have k4:∀b o,s3.heap.get? b=some o->h₁.get? b=some o:=λb o e=>(hsb₁.2 b (P1 (W0 e))).trans (G0 _ e)
 have J0:=zbF (tk:=s3.toks+([]:List (Str×Value)).length) I3 f3 hlt3 ok hsc c1 c2 hns₁ k4
 have st4:tn 0 h₁:=T.keep _ _ _ st2 λb hb o e=>k4 b o (k3 b o e)
 generalize hC:s3.heap.objs.size=C at *
 have stat:∀{H':Hp},(∀b∈fp,H' b=none)->∀b∈fp,zb4 (zg X N' scope cl C s3 (upd H2 l (.lst [])) fp) [] H' b:=λ{H'} hn b hb=>
  ⟨hn b hb,(J0.ok.exf b hb).1,J0.ok.exfs b hb, .inl hb,(J0.ok.exf b hb).2,λp hp=>absurd (show p∈([]:List (Addr×Obj))from hp) `j3⟩
 have loop:codeAny `W3 X.A (.compLoop (.ListComp elt [⟨tg,iter,ifs,0⟩] scope pos) 0 (.ref it) (.ref l) (compEnvC scope cl C X.env))
  (compPost `W3 X.A X.xe (some (assign (.Name y py) X.env)) (λ_ s'=>∃σ' H',Inv X pins σ' H' s'/\D.nx σ' H') (.ref l) C) {s3 with heap:=h₁,toks:=s3.toks+([]:List (Str×Value)).length}:=by
  refine zdU (λn s'=>∃i ys σ' H',Inv (zg X N' scope cl C s3 (upd H2 l (.lst [])) fp) [] σ' H' s'/\tn i s'.heap/\(∀b∈fp,H' b=none)/\H' l=some (.lst ys)/\W i n ys σ' H') ?_ m0
   ⟨0,[],_,_,J0,st4,λb hb=>(f3 b hb).1,zb,w0⟩
  rintro n s5 ⟨i,ys,σ5,H5,I5,st5,fr5,hl5,w5⟩
  rcases turn i n ys σ5 H5 w5 hl5 with⟨stop,qn⟩|⟨go,N,hN,step⟩
  ·refine thn (T.done (zg X N' scope cl C s3 (upd H2 l (.lst [])) fp) rfl rfl rfl hc i [] s5 σ5 H5 (λ_ _=>False) I5 (stat fr5) st5 stop) λr s6 ⟨hr,I6⟩=>?_
   subst hr
   obtain⟨m,hn,_⟩:=I6.loc
   have hCs:s3.heap.objs.size<=C:=by rw[←hC];exact L0 _
   have I7:Inv X pins σ H5 s6:=zbD (h':=s6.heap) I3 f3 hCs I6 ⟨rfl,λ_ _=>rfl⟩
   have fC:zb4 X pins H5 C:=I3.fpOk hCs I6.free
   obtain⟨oC,eC,dC⟩:∃o,s6.heap.get? C=some o/\∀v,o.data≠ .cell v:=by
    obtain⟨o,e,d⟩:=zq7 hn
    exact⟨o,e,d⟩
   have I8:=I7.pinned (fp:=[C]) (λb hb=>by rw[K0.mp hb];exact fC) (λb hb=>by rw[K0.mp hb];exact⟨oC,eC,dC⟩)
   refine wpAny_assign_Name (zcI (v:= .ref l) I8 hN hk (.inl hx) rfl (λs9 I9=>?_) (.inr hx))
   have p9:=(I9.pin (C,oC) (O0 _ (O0 _ (zv (K0.mpr rfl) eC)))).1
   refine⟨m,zpX hn eC p9,λh' hsb=>⟨_,H5,?_,qn⟩⟩
   obtain⟨f0,f1,f2,f3',f4,f5⟩:=fC
   exact I9.unpinned.turned (t':=s9.toks) (λb o hb e=>(hsb.2 b hb).trans e) f0 f1 f3' f4 f5
  ·refine thn (T.item (zg X N' scope cl C s3 (upd H2 l (.lst [])) fp) rfl rfl rfl hc i [] s5 σ5 H5 (λ_ _=>False) I5 (stat fr5) st5 go) λr s6 ⟨u,hr,h6⟩=>?_
   subst hr
   refine thn h6 λ_ s7 zq=>?_
   obtain⟨x,H7,I7,r7,y7,st7,fr7⟩:=zq
   have I7':=I7.pinned (stat fr7) (T.obj _ _ st7)
   refine thn (hg cl C s3 _ fp _ s7 σ5 H7 x u _ I7' r7 (step x H7 y7)) λ_ s8 zq=>?_
   obtain⟨σ8,H8,I8,q8⟩:=zq
   refine thn (ht cl C s3 _ fp _ s8 σ8 H8 _ I8 q8) λb s9 zq=>?_
   obtain⟨H9,I9,q9⟩:=zq
   have back:∀{s':Shared} {H':Hp},Inv (zg X N' scope cl C s3 (upd H2 l (.lst [])) fp) ([]++zan fp s7.heap) σ8 H' s'->tn (i+1) s'.heap/\∀b∈fp,H' b=none:=λ{s' H'} I'=>by
    refine⟨T.keep _ _ _ st7 λb hb o e=>(I'.pin (b,o) (O0 _ (O0 _ (zv hb e)))).1,λb hb=>?_⟩
    obtain⟨o,e,d⟩:=T.obj _ _ st7 b hb
    exact(I'.pin (b,o) (O0 _ (O0 _ (zv hb e)))).2.1
   cases b with
   |false=>
    obtain⟨hl9,n9⟩:=q9
    obtain⟨m',hm,w9⟩:=hN _ _ _ n9
    obtain⟨t9,fr9⟩:=back I9
    exact⟨m',hm,i+1,ys,σ8,H9,I9.unpinned,t9,fr9,hl9,w9⟩
   |true=>
    refine thn (he cl C s3 _ fp _ s9 σ8 H9 _ I9 q9) λxv s10 zq=>?_
    obtain⟨y,H10,I10,r10,hl10,hz,n10⟩:=zq
    obtain⟨m',hm,w10⟩:=hN _ _ _ n10
    refine thn (z5 (X:=zg X N' scope cl C s3 (upd H2 l (.lst [])) fp) _ s10 σ8 H10 (.ref l) [y] (.ref l) [xv] (λv H'=>H'=upd H10 l (.lst (ys ++ [y]))) I10 rfl (.cons r10 .nil) ⟨l,ys,y,rfl,rfl,hl10,hz,rfl⟩) λ_ s11 ⟨_,H11,I11,_,e11⟩=>?_
    subst e11
    obtain⟨t11,fr11⟩:=back I11
    exact⟨m',hm,i+1,ys ++ [y],σ8,_,I11.unpinned,t11,fr11,zb,w10⟩
 exact codeAny_compStart_list loop (T.self _ 0 _ _ _ st4 loop)
theorem zeu(k:Nat)(ok:CompOk X.N osc N' src scope)(hsc:X.env.scope=osc)(hc:X.calm=true)(hN:X.N.Nodup)(hi:QI X tg iter wi)
 (hg:∀cl C s₀ H₀ fp,QG `X3 tg g) (ht:∀cl C s₀ H₀ fp,QF `X3 ifs tc) (he:∀cl C s₀ H₀ fp,QE `X3 elt te)
 (hk:autoParam (X.N[k]?=some y) y3) (hx:autoParam (X.env.scope.names.lookup y=some .local) y3) (hsw:autoParam (swapsWith (.ListComp elt [⟨tg,iter,ifs,0⟩] scope pos) (some (.Name y py)) spos.line X.env=pure true) y3)
 (hs:autoParam (∀x,foldedSetIterable iter X.env x=pure x) y4):QS X (.Assign [.Name y py] (.ListComp elt [⟨tg,iter,ifs,0⟩] scope pos) spos) (zj1 (zkz wi g tc te src) (zay k)):=
 ⟨zjN ok hsc hc hi.o (λcl C s₀ H₀ fp=>(hg cl C s₀ H₀ fp).o) (λcl C s₀ H₀ fp=>(ht cl C s₀ H₀ fp).o) (λcl C s₀ H₀ fp=>(he cl C s₀ H₀ fp).o) hN hk hx hsw hs⟩
end
section
variable{o i:Expr}{to:TE}{g:TG}{t:zpH}
theorem zgA(he:QE X e te)(hg:QG X tg g)(hs:autoParam (swapsWithSole [tg] e pos.line X.env=pure false) y3)(hw:autoParam (swappedStores [tg] e X.env=pure none) y3)
 (h1:autoParam ((assignEach [tg] X.env).map (·.2)=[assign tg X.env]) y3):QS X (.Assign [tg] e pos) (zj1 te g):=⟨zri he.o hg.o hs hw h1⟩
theorem znA(ho:QE X o to)(hi:QE X i ti)(hs:zrx X t)(ha:autoParam (∀v,assign (.Subscript o i pos) X.env v=(do
 let ov ←holding [v] (eval o X.env)
 let iv ←holding [v,ov] (eval i X.env)
 standAt pos
 holding [v,ov,iv] (setItem ov iv v)
 release [v,ov,iv] [])) y4):QG X (.Subscript o i pos) (zsW to ti t):=⟨zq4 ho.o hi.o hs ha⟩
theorem zlh(k:Nat)(hN:X.N.Nodup)(hi:autoParam (X.N[k]?=some x) y3)(hx:autoParam (X.env.scope.names.lookup x=some .cell) y3)(hf:autoParam (X.fn x=true) y3):QG X (.Name x pos) (zay k):=⟨zkn hN hi (.inr hx) (.inl hf)⟩
end
noncomputable def ztP(t u:TS):TS:=λD σ H=>∃R:St->Hp->Prop,t {D with nx:=R} σ H/\∀σ' H',R σ' H'->u D σ' H'
theorem zsH{st:Stmt}(h1:QS X st sa)(h2:QB X sts sb):QB X (st::sts) (ztP sa sb):=by
 refine⟨λpins s σ H D I h=>?_⟩
 obtain⟨R,ha,hb⟩:=h
 have h3:PSs X sts (λD' σ' H'=>D'=D/\R σ' H'):=λpins s σ' H' D' I h=>by
  obtain⟨rfl,hR⟩:=h
  exact h2.o pins s σ' H' D' I (hb σ' H' hR)
 have e:(λσ' H'=>D=D/\R σ' H')=R:=by
  funext σ' H'
  simp
 refine zh7 h1.o h3 pins s σ H D I ?_
 show sa {D with nx:=λσ' H'=>D=D/\R σ' H'} σ H
 rw[e]
 exact ha
theorem zmC(z:Str):zfZ z 1=z:=by
 unfold zfZ
 simp
theorem ziG:OpR X (binaryOp .Mult) (λx y H Q=>∃z n,x= .str z/\y= .int n/\1<=n/\n<=1000/\0<z.length/\z.length<=1000/\Q (.str (zfZ z n.toNat)) H):=by
 intro pins s σ H x y v u Q I rx ry h
 obtain⟨z,n,rfl,rfl,h1,h2,h3,h4,q⟩:=h
 by_cases h:1<n
 ·exact zjI pins s σ H _ _ v u Q I rx ry ⟨z,n,rfl,rfl,h,h2,h3,h4,q⟩
 ·have e:n=1:=()
  subst e
  obtain⟨t,rfl⟩:=rx
  obtain⟨t',rfl⟩:=ry
  refine P.mul_str ⋯ (λ_ z=>by simp at z) (λ_ z=>by simp at z) ?_
  simp only[show¬(1:Int)<1 by decide,if_false,beq_self_eq_true,Bool.true_or,if_true]
  refine⟨.str _,H,I,⟨_,rfl⟩,?_⟩
  have e:zfZ z (1:Int).toNat=z:=zmC z
  rw[e] at q
  exact q
theorem zoZ(h:X.K=K):IxR X (zrM K):=by subst h;exact zM
theorem zfU(h:X.K=K):CallR X (.type "tuple") (λxs H Q=>∃p ys,xs=[.ref p]/\((SqL K H p ys/\∀l,H l=none->Q (.ref l) (upd H l (.tup ys)))\/(SqT K H p ys/\Q (.ref p) H))):=by subst h;exact zJ
theorem zQ:CallR X (.builtin "len") (λxs H Q=>(∃p ys,xs=[.ref p]/\(SqL X.K H p ys\/SqT X.K H p ys)/\Q (.int ys.length) H)\/∃z,xs=[.str z]/\z.length<=sizeLine/\Q (.int z.length) H):=zhA.or zhe
theorem zgZ(n:Nat)(hK:X.K=K)(hc:X.calm=true)(h:QGs X es tgs)(hn:autoParam ((assignEach es X.env).length=n) y3)(hst:autoParam ((assignEach es X.env).findIdx? (·.1)=none) y3):QG X (.Tuple es k pos) (zso K n tgs):=by subst hK;exact zdr n hc h hn hst
noncomputable def zlk(c:Nat):Bool:=decide (97<=c)&&decide (c<=122)
noncomputable def zrA:List Str:=["if","and","not","never"]
noncomputable def zf(x:Str):Bool:=decide (1<=x.length)&&decide (x.length<=8)&&x.cps.toList.all zlk&&!(zrA.any λy=>decide (y=x))
def Hand(H:Hp)(a:Addr)(n:Int):Prop:=∃x m t:Int,H a=some (.lst [.int x, .int m, .int t])/\0<=m/\m<2^63/\0<=t/\t<=n
def Keep(a:Addr)(H H':Hp):Prop:=∀b o,b≠a->H b=some o->H' b=some o
theorem Keep.trans(x:Keep a H H1)(y:Keep a H1 H2):Keep a H H2:=λb o n h=>y b o n (x b o n h)
theorem Keep.upd(a:Addr)(H:Hp)(o:HO):Keep a H (L2.upd H a o):=λb u n h=>by rw[zc n];exact h
theorem Keep.new{o:HO}(h:H p=none):Keep a H (L2.upd H p o):=λb u n e=>by rw[zc (zi e h)];exact e
theorem Keep.of(h:Same H H'):Keep a H H':=λb o _ e=>h b o e
theorem Hand.ne{n:Int}(h:Hand H a n)(e:H p=none):p≠a:=by
 obtain⟨x,m,t,h,_⟩:=h
 exact λz=>by rw[z,h] at e;cases e
theorem Hand.new{n:Int}{o:HO}(h:Hand H a n)(e:H p=none):Hand (upd H p o) a n:=by
 have ne:=h.ne e
 obtain⟨x,m,t,h,r⟩:=h
 exact⟨x,m,t,by rw[zc (Ne.symm ne)];exact h,r⟩
theorem Hand.same{n:Int}(h:Hand H a n)(s:Same H H'):Hand H' a n:=by
 obtain⟨x,m,t,h,r⟩:=h
 exact⟨x,m,t,s _ _ h,r⟩
theorem Hand.mono{n n':Int}(h:Hand H a n)(l:n<=n'):Hand H a n':=by
 obtain⟨x,m,t,h,h1,h2,h3,h4⟩:=h
 exact⟨x,m,t,h,h1,h2,h3,()⟩
theorem Keep.sqL{b:Addr}(k:Keep a H H')(n:b≠a)(h:SqL K H b xs):SqL K H' b xs:=by
 rcases h with(h|⟨o,h⟩)|h
 ·exact .inl (.inl (k _ _ n h))
 ·exact .inl (.inr ⟨o,k _ _ n h⟩)
 ·exact .inr h
theorem Hand.updNe{n:Int}{o:HO}(h:Hand H a n)(e:p≠a):Hand (upd H p o) a n:=by
 obtain⟨x,m,t,h,r⟩:=h
 exact⟨x,m,t,by rw[zc (Ne.symm e)];exact h,r⟩
theorem Keep.updNew{o:HO}(k:Keep a H H')(e:H p=none):Keep a H (L2.upd H' p o):=λb u n h=>by
 rw[zc (zi h e)]
 exact k b u n h
noncomputable def za7:Str:="abcdefghijklmnopqrstuvwxyz"
noncomputable def one(c:Nat):Str:=⟨#[c]⟩
theorem Same.new{o:HO}(h:H p=none):Same H (upd H p o):=λb u e=>by rw[zc (zi e h)];exact e
structure At(K:W.Frag)(mg:Str->Option Value)(x:Str)(st:Stmt)(ps:List Str)(f:Addr)(fd:FuncData):Prop where
 fn:Fun K x x st f fd
 b:Binds K fd ps []
 mg:mg x=some (.ref f)
 kp:W.keepIn K (.ref f)=true
theorem zhZ{xs:List α}{d:Int}(h0:0<=d)(h1:d<xs.length):∃v,atI xs d=some v/\v∈xs:=by
 obtain⟨k,rfl⟩:∃k:Nat,d=(k:Int):=⟨d.toNat,()⟩
 have hk:k<xs.length:=()
 exact⟨xs[k],zab (by simp[hk]),Z2 hk⟩
theorem at0{x:α}{xs:List α}:atI (x::xs) 0=some x:=zab (j:=0) rfl
theorem at1{x y:α}{xs:List α}:atI (x::y::xs) 1=some y:=zab (j:=1) rfl
inductive D where
 |non|bl (b:Bool)|int (i:Int)|str (x:Str)|tup (ds:List D)|oth
variable{ds lks hds:List D}{d:D}
inductive Rep(H:Hp):V->D->Prop where
 |non:Rep H .non .non
 |bl (b:Bool):Rep H (.bl b) (.bl b)
 |int (i:Int):Rep H (.int i) (.int i)
 |str (x:Str) (h:x.length<=1000):Rep H (.str x) (.str x)
 |tup {p:Addr} {vs:List V} {ds:List D} (h:H p=some (.tup vs)) (l:vs.length=ds.length) (b:ds.length<=1000) (r:∀(i:Nat) (v:V) (d:D),vs[i]?=some v->ds[i]?=some d->Rep H v d):Rep H (.ref p) (.tup ds)
 |lst {p:Addr} {vs:List V} (h:H p=some (.lst vs)):Rep H (.ref p) .oth
 |dK {p:Addr} {kvs:List (Key×V)} (h:H p=some (.dK kvs)):Rep H (.ref p) .oth
structure Mono(H H':Hp):Prop where
 tup:∀p xs,H p=some (.tup xs)->H' p=some (.tup xs)
 lst:∀p xs,H p=some (.lst xs)->∃ys,H' p=some (.lst ys)
 dK:∀p xs,H p=some (.dK xs)->∃ys,H' p=some (.dK ys)
theorem Mono.trans(a:Mono H H1)(b:Mono H1 H2):Mono H H2:=⟨λp xs h=>b.tup p xs (a.tup p xs h),λp xs h=>let ⟨ys,e⟩:=a.lst p xs h;b.lst p ys e,λp xs h=>let ⟨ys,e⟩:=a.dK p xs h;b.dK p ys e⟩
theorem Mono.of(s:Same H H'):Mono H H':=⟨λp xs h=>s _ _ h,λp xs h=>⟨xs,s _ _ h⟩,λp xs h=>⟨xs,s _ _ h⟩⟩
theorem Mono.new{o:HO}(h:H p=none):Mono H (upd H p o):= .of (Same.new h)
theorem Mono.lset(h:H p=some (.lst xs)):Mono H (upd H p (.lst ys)):=by
 refine⟨λq zs e=>?_,λq zs e=>?_,λq zs e=>?_⟩
 ·by_cases hq:q=p
  ·subst hq;rw[h] at e;cases e
  ·rw[zc hq];exact e
 ·by_cases hq:q=p
  ·subst hq;exact⟨ys,zb⟩
  ·rw[zc hq];exact⟨zs,e⟩
 ·by_cases hq:q=p
  ·subst hq;rw[h] at e;cases e
  ·rw[zc hq];exact⟨zs,e⟩
theorem Mono.keep{n m:Int}(k:Keep a H H')(h:Hand H a n)(h':Hand H' a m):Mono H H':=by
 obtain⟨x,y,z,h,_⟩:=h
 obtain⟨x',y',z',h',_⟩:=h'
 refine⟨λq zs e=>?_,λq zs e=>?_,λq zs e=>?_⟩
 ·exact k q _ (λhq=>by subst hq;rw[h] at e;cases e) e
 ·by_cases hq:q=a
  ·subst hq;exact⟨_,h'⟩
  ·exact ⟨zs,k q _ hq e⟩
 ·exact ⟨zs,k q _ (λhq=>by subst hq;rw[h] at e;cases e) e⟩
theorem Rep.mono(h:Rep H v d)(m:Mono H H'):Rep H' v d:=by
 induction h with
 |non=>exact .non
 |bl b=>exact .bl b
 |int i=>exact .int i
 |str x h=>exact .str x h
 |tup h l b _ ih=>exact .tup (m.tup _ _ h) l b ih
 |lst h=>obtain ⟨ys,e⟩:=m.lst _ _ h;exact .lst e
 |dK h=>obtain ⟨ys,e⟩:=m.dK _ _ h;exact .dK e
theorem Rep.same(h:Rep H v d)(s:Same H H'):Rep H' v d:=h.mono (.of s)
def RepL(H:Hp)(vs:List V)(ds:List D):Prop:=vs.length=ds.length/\∀(i:Nat) (v:V) (d:D),vs[i]?=some v->ds[i]?=some d->Rep H v d
theorem RepL.nil:RepL H [] []:=⟨rfl,λi v d e=>by simp at e⟩
theorem RepL.cons{H:Hp}{v:V}{d:D}{vs:List V}{ds:List D}(h:Rep H v d)(r:RepL H vs ds):RepL H (v::vs) (d::ds):=by
 refine⟨by simp[r.1],λi w e h1 h2=>?_⟩
 cases i with
 |zero=>simp at h1 h2;subst h1;subst h2;exact h
 |succ i=>exact r.2 i w e (by simpa using h1) (by simpa using h2)
theorem RepL.head(r:RepL H (v::vs) (d::ds)):Rep H v d/\RepL H vs ds:=
 ⟨r.2 0 v d rfl rfl,by have:=r.1;simp at this;exact this,λi w e h1 h2=>r.2 (i+1) w e (by simpa using h1) (by simpa using h2)⟩
theorem RepL.mono(r:RepL H vs ds)(m:Mono H H'):RepL H' vs ds:=⟨r.1,λi v d h1 h2=>(r.2 i v d h1 h2).mono m⟩
theorem RepL.append{us:List V}{es:List D}(r:RepL H vs ds)(q:RepL H us es):RepL H (vs ++us) (ds ++es):=by
 refine⟨by rw[Z0,Z0,r.1,q.1],λi v d h1 h2=>?_⟩
 by_cases hi:i<vs.length
 ·rw[N1 hi] at h1
  rw[N1 (by rw[←r.1];exact hi)] at h2
  exact r.2 i v d h1 h2
 ·rw[L1 ()] at h1
  rw[L1 (by rw[←r.1];lia),←r.1] at h2
  exact q.2 _ v d h1 h2
theorem RepL.take(r:RepL H vs ds)(n:Nat):RepL H (vs.take n) (ds.take n):=by
 refine⟨by rw[C2,C2,r.1],λi v d h1 h2=>?_⟩
 rw[List.getElem?_take] at h1 h2
 split at h1
 ·rename_i h;rw[c0 h] at h2;exact r.2 i v d h1 h2
 ·cases h1
theorem RepL.get(r:RepL H vs ds)(h:vs[i]?=some v):∃d,ds[i]?=some d/\Rep H v d:=by
 have hi:i<vs.length:=by
  rcases D1 i vs.length with q|q
  ·exact q
  ·rw[I0 q] at h;cases h
 have hd:i<ds.length:=by rw[←r.1];exact hi
 exact⟨ds[i],by simp[hd],r.2 i v _ h (by simp[hd])⟩
theorem Rep.mkL(h:H p=some (.tup vs))(b:ds.length<=1000)(r:RepL H vs ds):Rep H (.ref p) (.tup ds):= .tup h r.1 b r.2
theorem Rep.ofT(h:Rep H v (.tup ds)):∃p vs,v= .ref p/\H p=some (.tup vs)/\RepL H vs ds/\ds.length<=1000:=by
 cases h with
 |tup h l b r=>exact ⟨_,_,rfl,h,⟨l,r⟩,b⟩
theorem Rep.of2{e:D}(h:Rep H v (.tup [d,e])):∃p x y,v= .ref p/\H p=some (.tup [x,y])/\Rep H x d/\Rep H y e:=by
 obtain⟨p,vs,rfl,hp,r,_⟩:=h.ofT
 match vs,r with
 |[x,y],r=>exact ⟨p,x,y,rfl,hp,r.head.1,r.head.2.head.1⟩
 |[],r=>exact absurd r.1 `j3
 |[_],r=>exact absurd r.1 `j3
 |_::_::_::_,r=>exact absurd r.1 `j3
theorem Rep.mk2{x y:V}{e:D}(h:H p=some (.tup [x,y]))(a:Rep H x d)(b:Rep H y e):Rep H (.ref p) (.tup [d,e]):= .mkL h `j3 (.cons a (.cons b .nil))
noncomputable def isTupB:D->Bool| .tup _=>true|_=>false
noncomputable def isStrB:D->Bool| .str _=>true|_=>false
noncomputable def isNumB:D->Bool| .int _=>true|_=>false
noncomputable def zfS(d:D)(lo hi:Int):Bool:=match d with| .int i=>decide (lo<=i)&&decide (i<=hi)|_=>false
noncomputable def headStrB:D->Bool| .tup (.str _::_)=>true|_=>false
noncomputable def zdR:D->Bool| .str x=>zf x|_=>false
noncomputable def zbN:List Str:=["by","from","to","mark"]
noncomputable def zG:D->Bool
 | .tup [.str w,x]=>if w="long"then zfS x 0 99 else(zbN.any λy=>decide (y=w))&&zdR x
 |_=>false
noncomputable def zO(d:D):Bool:=match d with
 | .tup [.str w,x]=>if w="not"then zG x else zG d
 |_=>false
noncomputable def zai:D->Bool| .tup ds=>decide (ds.length<=4)&&ds.all zO|_=>false
noncomputable def zs8:D->Bool| .tup [.str w,_]=>decide (w="to")|_=>false
noncomputable def zsX:D->Bool| .tup [.str w,x]=>if w="not"then zs8 x else decide (w="to")|_=>false
noncomputable def zdS:D->Bool| .non=>true|d=>zfS d (-999) 999
noncomputable def zhQ:D->Bool| .tup ds=>ds.any zsX|_=>false
noncomputable def zZ:D->Bool| .tup [c,x]=>zai c&&zdS x&&!zhQ c|_=>false
noncomputable def zeD:D->Bool
 | .tup [.str w]=>decide (w="keep")
 | .tup [.str w,x]=>(decide (w="put")||decide (w="strike"))&&zdR x
 |_=>false
noncomputable def zcj:D->Bool| .tup [c,x]=>zai c&&zeD x|_=>false
theorem zfP{w:Str}{x:D}:zG (.tup [.str w,x])=if w="long"then zfS x 0 99 else(zbN.any λy=>decide (y=w))&&zdR x:=rfl
theorem zkj{w:Str}{x:D}:zO (.tup [.str w,x])=if w="not"then zG x else zG (.tup [.str w,x]):=rfl
theorem zov:zai (.tup ds)=(decide (ds.length<=4)&&ds.all zO):=rfl
theorem zls{c x:D}:zZ (.tup [c,x])=(zai c&&zdS x&&!zhQ c):=rfl
theorem zqe{c x:D}:zcj (.tup [c,x])=(zai c&&zeD x):=rfl
theorem zoi:zdR (.str x)=zf x:=rfl
theorem zbi:decide (V.str x=V.str y)=decide (x=y):=by
 by_cases h:x=y
 ·subst h;rw[U0 rfl,U0 rfl]
 ·rw[A1 h,A1 λz=>h (V.str.inj z)]
theorem zjh(d:D)(h:zG d=true):∃x e,d= .tup [.str x,e]:=by
 unfold zG at h
 split at h
 ·exact ⟨_,_,rfl⟩
 ·cases h
theorem zmd(d:D)(h:zO d=true):∃x e,d= .tup [.str x,e]:=by
 unfold zO at h
 split at h
 ·exact ⟨_,_,rfl⟩
 ·cases h
theorem zgs{e:D}:zG (.tup [.str "not",e])=false:=by
 have h1:¬("not":Str)="long":=`Z3
 have h2:(zbN.any λy=>decide (y=("not":Str)))=false:=`Z3
 rw[zfP,P0 h1,h2];rfl
theorem zfD:zcD xs none (some (n:Int))=xs.take n:=by
 unfold zcD
 have e1:sIx xs.length 0 none=0:=rfl
 have e2:sIx xs.length xs.length (some (n:Int))=min n xs.length:=by
  unfold sIx
  have h:¬(n:Int)<0:=()
  simp only[P0 h,L3]
 rw[e1,e2,List.drop_zero,Nat.sub_zero,List.take_eq_take_iff]
 lia
section
open Sem (wp)
open MeetsSeq MeetsSeq2 MeetsSeq3 Builtin
end
def Dsp(te:TE)(σ:St)(H:Hp)(d:D):Prop:=∀(H1:Hp) (Q:VK),Same H H1->(∀v H2,Same H1 H2->Rep H2 v d->Q v H2)->te σ H1 Q
def zoV(ta:TA)(σ:St)(H:Hp)(ds:List D):Prop:=∀(H1:Hp) (Q:List V->Hp->Prop),Same H H1->(∀vs H2,Same H1 H2->RepL H2 vs ds->Q vs H2)->ta σ H1 Q
section
variable{es:List D}
theorem zp0(h:x.length<=1000):Dsp (tC (.str x)) σ H (.str x):=λH1 Q s q=>q _ H1 (Same.refl _) (.str x h)
theorem zkm(h:σ[i]?=some (some v))(r:Rep H v d):Dsp (zl9 i) σ H d:=λH1 Q s q=>⟨v,h,q v H1 (Same.refl _) (r.same s)⟩
theorem znd:zoV zrW σ H []:=λH1 Q s q=>q [] H1 (Same.refl _) RepL.nil
theorem zlY(h:Dsp te σ H d)(r:zoV ta σ H ds):zoV (zoh te ta) σ H (d::ds):=λH1 Q s q=>
 h H1 _ s λv H2 s2 rv=>r H2 _ (s.trans s2) λvs H3 s3 rs=>q (v::vs) H3 (s2.trans s3) (.cons (rv.same s3) rs)
theorem zp9(h:zoV ta σ H ds)(hl:ds.length<=1000):Dsp (zsj ta) σ H (.tup ds):=λH1 Q s q=>
 h H1 _ s λvs H2 s2 rs=>⟨A3 (zj (by rw[rs.1];exact hl)),λp hp=>q _ _ (s2.trans (Same.new hp)) (.mkL zb hl (rs.mono (.new hp)))⟩
end
section
variable{tr:TA}
end
section
open PySem.W
section
variable{N:Nat}{lt:Nat->Nat->Bool}
def OkT(N:Nat)(lt:Nat->Nat->Bool){α:Type}:KasT α->(α->Prop)->Prop
 | .ret a,P=>P a
 | .ask i j k,P=>i<N/\j<N/\OkT N lt (k (lt i j)) P
theorem OkT.mono{P Q:α->Prop}(h:∀a,P a->Q a):∀{t:KasT α},OkT N lt t P->OkT N lt t Q
 | .ret a,q=>h a q
 | .ask i j k,⟨h1,h2,q⟩=>⟨h1,h2,OkT.mono h q⟩
theorem OkT.bind{f:α->KasT β}{P:β->Prop}:∀{t:KasT α},OkT N lt t (λa=>OkT N lt (f a) P)->OkT N lt (t.bind f) P
 | .ret a,q=>q
 | .ask i j k,⟨h1,h2,q⟩=>⟨h1,h2,OkT.bind q⟩
theorem OkT.wp{cmp:Nat->Nat->(Bool->Shared->Prop)->Shared->Prop}{I:Shared->Prop}(hc:∀i j (C:Bool->Shared->Prop) s,i<N->j<N->I s->(∀s',I s'->C (lt i j) s')->cmp i j C s){P:α->Prop}{Q:α->Shared->Prop}(hq:∀a s,P a->I s->Q a s):
 ∀{t:KasT α} {s:Shared},I s->OkT N lt t P->t.kasWp cmp Q s
 | .ret a,s,hs,q=>hq a s q hs
 | .ask i j k,s,hs,⟨h1,h2,q⟩=>hc i j _ s h1 h2 hs λs' hs'=>OkT.wp hc hq hs' q
noncomputable abbrev gd(p:Array Nat)(i:Nat):Nat:=p.getD i 0
structure Strict(N:Nat)(lt:Nat->Nat->Bool):Prop where
 tot:∀i j,i<N->j<N->i≠j->lt i j=false->lt j i=true
 tr:∀i j k,i<N->j<N->k<N->lt i j=true->lt j k=true->lt i k=true
 asy:∀i j,i<N->j<N->lt i j=true->lt j i=false
def PermN(N:Nat)(p:Array Nat):Prop:=p.toList.Perm (List.range N)
theorem PermN.size{p:Array Nat}(h:PermN N p):p.size=N:=by
 have:=h.length_eq
 simpa using this
theorem gd_get{p:Array Nat}(h:i<p.size):gd p i=p[i]:=by simp[gd,Array.getD,h]
theorem zhJ{p q:Array Nat}(h:p[i]?=q[j]?):gd p i=gd q j:=by
 simp only[gd,Array.getD_eq_getD_getElem?,h]
theorem PermN.bd{p:Array Nat}(h:PermN N p)(hi:i<N):gd p i<N:=by
 have hs:=h.size
 rw[gd_get ()]
 have:p[i]∈p.toList:=`j3
 exact E3.mp (h.mem_iff.mp this)
theorem PermN.inj{p:Array Nat}(h:PermN N p)(hi:i<N)(hj:j<N)(hij:i≠j):gd p i≠gd p j:=by
 have hs:=h.size
 have nd:p.toList.Nodup:=h.nodup_iff.mpr List.nodup_range
 rw[gd_get (),gd_get ()]
 intro z
 exact hij ((List.getElem_inj (i:=i) (j:=j) (h₀:=by simp;lia) (h₁:=by simp;lia) nd).mp (by simpa using z))
def Sor(lt:Nat->Nat->Bool)(p:Array Nat)(m:Nat):Prop:=∀i j,i<j->j<m->lt (gd p i) (gd p j)=true
def Des(lt:Nat->Nat->Bool)(p:Array Nat)(m:Nat):Prop:=∀i j,i<j->j<m->lt (gd p j) (gd p i)=true
theorem Sor.snoc{p:Array Nat}(S:Strict N lt)(hp:PermN N p)(h:Sor lt p n)(h1:1<=n)(hn:n<N)(e:lt (gd p (n -1)) (gd p n)=true):Sor lt p (n+1):=by
 intro i j hij hj
 by_cases hjn:j<n
 ·exact h i j hij hjn
 ·have ej:j=n:=()
  subst ej
  by_cases hi:i=j -1
  ·subst hi;exact e
  ·exact S.tr _ _ _ (hp.bd ()) (hp.bd ()) (hp.bd hn) (h i (j -1) () ()) e
theorem Des.snoc{p:Array Nat}(S:Strict N lt)(hp:PermN N p)(h:Des lt p n)(h1:1<=n)(hn:n<N)(e:lt (gd p n) (gd p (n -1))=true):Des lt p (n+1):=by
 intro i j hij hj
 by_cases hjn:j<n
 ·exact h i j hij hjn
 ·have ej:j=n:=()
  subst ej
  by_cases hi:i=j -1
  ·subst hi;exact e
  ·exact S.tr _ _ _ (hp.bd hn) (hp.bd ()) (hp.bd ()) e (h i (j -1) () ())
theorem zjC{p:Array Nat}(S:Strict N lt)(hp:PermN N p):∀f n,1<=n->n+f<=N->Sor lt p n->OkT N lt (kas_asc p f n) (λm=>n<=m/\m<=n+f/\Sor lt p m/\(m<n+f->lt (gd p m) (gd p (m -1))=true))
 |0,n,_,_,hs=>⟨L0 _,L0 _,hs,λh=>()⟩
 |f+1,n,h1,hn,hs=>by
  refine⟨hp.bd (),hp.bd (),?_⟩
  cases hc:lt (gd p n) (gd p (n -1))with
  |true=>
   show OkT N lt (if true=true then _ else _) _
   rw[c0 rfl]
   exact⟨L0 _,(),hs,λ_=>hc⟩
  |false=>
   show OkT N lt (if false=true then _ else _) _
   rw[P0 ⋯]
   refine OkT.mono (λm hm=>⟨(),(),hm.2.2.1,λh=>hm.2.2.2 ()⟩) (zjC S hp f (n+1) () () (hs.snoc S hp h1 () (S.tot _ _ (hp.bd ()) (hp.bd ()) (hp.inj () () ()) hc)))
theorem zk5{p:Array Nat}(S:Strict N lt)(hp:PermN N p):∀f n,1<=n->n+f<=N->Des lt p n->OkT N lt (kas_desc f p n 0) (λr=>r.1=p/\n<=r.2.1/\r.2.1<=n+f/\Des lt p r.2.1/\r.2.2=0)
 |0,n,_,_,hs=>⟨rfl,L0 _,L0 _,hs,rfl⟩
 |f+1,n,h1,hn,hs=>by
  refine⟨hp.bd (),hp.bd (),?_⟩
  cases hc:lt (gd p n) (gd p (n -1))with
  |true=>
   show OkT N lt (if true=true then(if 0>0 then _ else _)else _) _
   rw[c0 rfl,P0 ⋯]
   exact OkT.mono (λm hm=>⟨hm.1,(),(),hm.2.2.2⟩) (zk5 S hp f (n+1) () () (hs.snoc S hp h1 () hc))
  |false=>
   show OkT N lt (if false=true then _ else _) _
   rw[P0 ⋯]
   refine⟨hp.bd (),hp.bd (),?_⟩
   have hd:lt (gd p (n -1)) (gd p n)=true:=S.tot _ _ (hp.bd ()) (hp.bd ()) (hp.inj () () ()) hc
   show OkT N lt (if lt (gd p (n -1)) (gd p n)=true then _ else _) _
   rw[c0 hd]
   exact⟨rfl,L0 _,by show n<=n+(f+1);lia,hs,rfl⟩
theorem ziX{p:Array Nat}(hp:PermN N p)(n:Nat):PermN N (kas_rev p 0 n):=(Array.perm_iff_toList_perm.mp (mirror_perm p 0 n _)).trans hp
theorem zpB{p:Array Nat}(hp:PermN N p)(hn:n<=N)(h:Des lt p n):Sor lt (kas_rev p 0 n) n:=by
 have hs:=hp.size
 have e:∀k,k<n->gd (kas_rev p 0 n) k=gd p (n -1 -k):=λk hk=>by
  refine zhJ ?_
  show(mirror p 0 n ((n -0)/2))[k]?=_
  rw[getElem?_mirror_all (),c0 ⟨X1 _,hk⟩,Nat.zero_add]
 intro i j hij hj
 rw[e i (),e j hj]
 exact h (n -1 -j) (n -1 -i) () ()
def zmW(N:Nat)(lt:Nat->Nat->Bool)(r:Nat×Array Nat):Prop:=PermN N r.2/\Sor lt r.2 r.1/\1<=r.1/\r.1<=N
theorem zng{p:Array Nat}(S:Strict N lt)(hp:PermN N p)(h1:1<=n)(hn:n<=N)(h:Des lt p n):OkT N lt (kas_tail3 n N p) (zmW N lt):=by
 refine OkT.bind (OkT.mono (λm hm=>?_) (zjC S (ziX hp n) (N -n) n h1 () (zpB hp hn h)))
 exact⟨ziX hp n,hm.2.2.1,by have:=hm.1;lia,by have:=hm.2.1;lia⟩
theorem znE{p:Array Nat}(S:Strict N lt)(hp:PermN N p)(h1:1<=N):OkT N lt (kas_count N p) (zmW N lt):=by
 refine OkT.bind (OkT.mono (λn hn=>?_) (zjC S hp (N -1) 1 (L0 _) () (λi j hij hj=>())))
 obtain⟨n1,n2,hs,hl⟩:=hn
 by_cases hN:(n==N)=true
 ·rw[c0 hN]
  exact⟨hp,hs,n1,()⟩
 ·have hne:n≠N:=by simpa using hN
  rw[P0 hN]
  by_cases h2:n>1
  ·rw[c0 h2]
   refine⟨hp.bd (),hp.bd (),?_⟩
   show OkT N lt (if lt (gd p 0) (gd p (n -1))=true then _ else _) _
   rw[c0 (hs 0 (n -1) () ())]
   exact⟨hp,hs,n1,()⟩
  ·rw[P0 h2]
   have e1:n=1:=()
   subst e1
   have hd:Des lt p 2:=λi j hij hj=>by
    have ei:i=0:=()
    have ej:j=1:=()
    subst ei ej
    exact hl ()
   refine OkT.bind (OkT.mono (λr hr=>?_) (zk5 S hp (N -(1+1)) (1+1) () () hd))
   obtain⟨e1,r1,r2,r3,r4⟩:=hr
   rw[P0 (),e1]
   exact zng S hp () () r3
theorem zf1{p:Array Nat}{k:Nat}(S:Strict N lt)(hp:PermN N p)(hs:Sor lt p k)(hk:k<N):∀f l r,l<=r->r<=k->r -l<=f->(∀i,i<l->lt (gd p i) (gd p k)=true)->(∀i,r<=i->i<k->lt (gd p k) (gd p i)=true)->
 OkT N lt (kas_place p k f l r) (λm=>m<=k/\(∀i,i<m->lt (gd p i) (gd p k)=true)/\∀i,m<=i->i<k->lt (gd p k) (gd p i)=true)
 |0,l,r,h1,h2,h3,ha,hb=>⟨(),ha,λi hi=>hb i ()⟩
 |f+1,l,r,h1,h2,h3,ha,hb=>by
  by_cases hlr:l≥r
  ·show OkT N lt (if l≥r then _ else _) _
   rw[c0 hlr]
   exact⟨(),ha,λi hi=>hb i ()⟩
  ·show OkT N lt (if l≥r then _ else _) _
   rw[P0 hlr]
   refine⟨hp.bd hk,hp.bd (),?_⟩
   cases hc:lt (gd p k) (gd p ((l+r)/2))with
   |true=>
    show OkT N lt (if true=true then _ else _) _
    rw[c0 rfl]
    refine zf1 S hp hs hk f l ((l+r)/2) () () () ha λi hi hik=>?_
    by_cases e:i=(l+r)/2
    ·subst e;exact hc
    ·exact S.tr _ _ _ (hp.bd hk) (hp.bd ()) (hp.bd ()) hc (hs ((l+r)/2) i () hik)
   |false=>
    show OkT N lt (if false=true then _ else _) _
    rw[P0 ⋯]
    have hm:lt (gd p ((l+r)/2)) (gd p k)=true:=S.tot _ _ (hp.bd hk) (hp.bd ()) (hp.inj hk () ()) hc
    refine zf1 S hp hs hk f ((l+r)/2+1) r () h2 () (λi hi=>?_) hb
    by_cases e:i=(l+r)/2
    ·subst e;exact hm
    ·exact S.tr _ _ _ (hp.bd ()) (hp.bd ()) (hp.bd hk) (hs i ((l+r)/2) () ()) hm
theorem zjY{p:Array Nat}{l:Nat}(hp:PermN N p)(hk:k<N)(hl:l<=k)(hs:Sor lt p k)(ha:∀i,i<l->lt (gd p i) (gd p k)=true)(hb:∀i,l<=i->i<k->lt (gd p k) (gd p i)=true):Sor lt (bubble p k (k -l)) (k+1):=by
 have hz:=hp.size
 have g:∀i,(bubble p k (k -l))[i]?=if i=l then p[k]? else if l<i/\i<=k then p[i -1]? else p[i]?:=λi=>by
  rw[getElem?_bubble () (k -l) (),show k -(k -l)=l by lia]
 have g1:gd (bubble p k (k -l)) l=gd p k:=zhJ (by rw[g,c0 rfl])
 have g2:∀i,l<i->i<=k->gd (bubble p k (k -l)) i=gd p (i -1):=λi h1 h2=>zhJ (by rw[g,P0 (),c0 ⟨h1,h2⟩])
 have g3:∀i,i<l->gd (bubble p k (k -l)) i=gd p i:=λi h1=>zhJ (by rw[g,P0 (),P0 ()])
 intro i j hij hj
 rcases Nat.lt_trichotomy i l with hi|hi|hi
 ·rw[g3 i hi]
  rcases Nat.lt_trichotomy j l with h|h|h
  ·rw[g3 j h];exact hs i j hij ()
  ·subst h;rw[g1];exact ha i hi
  ·rw[g2 j h ()];exact hs i (j -1) () ()
 ·subst hi
  rw[g1,g2 j hij ()]
  exact hb (j -1) () ()
 ·rw[g2 i hi (),g2 j () ()]
  exact hs (i -1) (j -1) () ()
theorem znJ(S:Strict N lt):∀f (p:Array Nat) k,PermN N p->Sor lt p k->k+f=N->OkT N lt (kas_bin f p k) (λp'=>PermN N p'/\Sor lt p' N)
 |0,p,k,hp,hs,hk=>⟨hp,by have:k=N:=()
                         rw[←this];exact hs⟩
 |f+1,p,k,hp,hs,hk=>by
  refine OkT.bind (OkT.mono (λl hl=>?_) (zf1 S hp hs () k 0 k (X1 _) (L0 _) () (λi hi=>()) (λi hi hik=>())))
  exact znJ S f _ (k+1) ((Array.perm_iff_toList_perm.mp (bubble_perm p k _)).trans hp) (zjY hp () hl.1 hs hl.2.1 hl.2.2) ()
theorem zpl(S:Strict N lt)(h1:1<=N):OkT N lt (kas_sort N) (λp=>PermN N p/\Sor lt p N):=by
 have h0:PermN N (List.toArray (List.range N)):=by show(List.range N).Perm _;exact List.Perm.refl _
 refine OkT.bind (OkT.mono (λr hr=>?_) (znE S h0 h1))
 obtain⟨c1,c2,c3,c4⟩:=hr
 by_cases h:r.1<N
 ·rw[c0 h]
  have e:max r.1 1=r.1:=()
  rw[e]
  exact znJ S _ _ _ c1 c2 ()
 ·rw[P0 h]
  have e:r.1=N:=()
  rw[e] at c2
  exact⟨c1,c2⟩
end
def RawD(h:Heap)(d:Addr)(ks:List Value)(ep:Nat):Prop:=∃o es,h.get? d=some o/\o.ExactDict/\o.data= .dict es ep/\es.toList.map (·.key)=ks
theorem RawD.at{d:Addr}(x:RawD h d ks ep)(e:∀o,h.get? d=some o->h'.get? d=some o):RawD h' d ks ep:=let⟨o,es,ho,r⟩:=x;⟨o,es,e _ ho,r⟩
theorem RawD.ty{d:Addr}(x:RawD s.heap d ks ep):s.TypeIs (.ref d) "dict":=let⟨o,_,ho,hc,_⟩:=x;⟨o,ho,hc.1⟩
theorem RawD.lt{d:Addr}(x:RawD h d ks ep):d<h.objs.size:=let⟨_,_,ho,_⟩:=x;W0 ho
section
variable{d:Addr}
theorem znB{R:Value->Shared->Prop}(nsys:(d==sysModules)=false)(x:RawD s.heap d ks ep)(q:R (.ref s.heap.objs.size) {s with heap:=s.heap.push {cls:= .type "dict_keyiterator",data:= .fields #[.ref d, .int 0 0, .int ks.length 0, .int ep 0]}}):
 wpAny `Y3 A (pyIter (.ref d)) R E s:=by
 have ty:=x.ty
 obtain⟨o,es,ho,_,hdat,hks⟩:=x
 refine wpAny_pyIter_slot ty F.slot_dict_iter (G2 F.slot_dict_iter ty F.entry_dict_iter ?_ (F.args_dict_iter_1 _))
 unfold Builtin.«dict.__iter__»
 refine A0 (by unfold Builtin.Dict.dictSlotNone;refine A0 (wpAny_notOrdered_dict ty ?_);show wpAny _ _ (pure (Value.ref d)) _ _ s;exact F0 (by
  show wpAny _ _ (Builtin.Dict.showsAll d>>=_) _ _ s
  unfold Builtin.Dict.showsAll
  rw[P0 (λz=>by rw[nsys] at z;cases z)]
  refine A0 (F0 (A0 (wpAny_dictEntries ho hdat (A0 (wpAny_dictEpoch ho hdat ?_)))))
  have sz:es.size=ks.length:=by rw[←hks];simp
  refine A0 (j1 (F0 ⟨_,rfl,"dict_keyiterator",_,⟨_,T0 _ rfl,rfl⟩,F.slot_dict_keyiterator_next.lookup,?_⟩))
  simpa[rawInt,sz] using q))
theorem zmk{R:Option Value->Shared->Prop}(y:s.heap.IsKeyIter it d i ks.length ep)(x:RawD s.heap d ks ep)(hx:ks[i]?=some key)
 (q:∀h',h'.IsKeyIter it d (i+1) ks.length ep->Heap.SameBut it s.heap h'->R (some key) {s with heap:=h'}):wpAny `Y3 A (pyNext (.ref it)) R E s:=by
 obtain⟨o,ho,hc,hd⟩:=id y
 obtain⟨od,es,hod,_,hdd,hks⟩:=x
 have sz:es.size=ks.length:=by rw[←hks];simp
 have li:i<ks.length:=by
  rcases D1 i ks.length with h|h
  ·exact h
  ·rw[I0 h] at hx;cases hx
 have li':i<es.size:=()
 have ek:es[i].key=key:=by
  have e1:ks[i]?=some es[i].key:=by rw[←hks];simp[li']
  rw[e1] at hx;exact o0 hx
 unfold pyNext
 refine A0 (wpAny_attempt (Y2 (name:=Str.ofString "__next__") y.typeIs F.slot_dict_keyiterator_next (G2 F.slot_dict_keyiterator_next y.typeIs F.entry_dict_keyiterator_next ?_ (F.args_dict_keyiterator_next_1 _))))
 refine A0 (F0 (A0 (A0 ?_)))
 first|refine A0 (wpAny_typeNameOfWhole_keyiter y.typeIs (F0 ?_))|refine A0 (wpAny_typeNameOf_keyiter y.typeIs (F0 ?_))
 refine A0 (wpAny_fieldsOf ho hd ?_)
 simp only[(by decide:Builtin.Dict_items.ownsTuple "dict_keyiterator"=false),M3,if_false]
 show wpAny _ _ (if(Value.ref d==Value.none)=true then _ else _) _ _ s
 rw[P0 (λz=>nomatch z)]
 refine A0 (F0 (A0 (wpAny_dictEntries hod hdd ?_)))
 rw[P0 (λz=>by rw[sz] at z;simp at z)]
 refine A0 (F0 (A0 (wpAny_dictEpoch hod hdd ?_)))
 rw[P0 (λz=>by simp at z)]
 refine F0 ?_
 simp only[(by lia:¬((i:Int)<0)),if_false,L3,Z1 li']
 refine A0 ?_
 first|refine A0 (wpAny_typeNameOfWhole_keyiter y.typeIs (F0 ?_))|refine A0 (wpAny_typeNameOf_keyiter y.typeIs (F0 ?_))
 refine A0 (wpAny_isOneOf_keyiter y.typeIs ?_)
 show wpAny _ _ (setField (.ref it) 1 (rawInt ((i:Int)+1))>>=_) _ _ s
 refine A0 (wpAny_setField ho hd `j3 ?_)
 have y':(s.heap.update it (Obj.mapFields (·.setIfInBounds 1 (rawInt ((i:Int)+1))))).IsKeyIter it d (i+1) ks.length ep:=⟨_,Heap.get?_update_self _ ho (Obj.isFreed_of_fields (Obj.data_mapFields hd _)),(Obj.cls_mapFields ..).trans hc,by rw[Obj.data_mapFields hd];simp[rawInt]⟩
 refine A0 (O2 (A0 (wpAny_isOneOf_keyiter (s:={s with heap:=s.heap.update it (Obj.mapFields (·.setIfInBounds 1 (rawInt ((i:Int)+1))))}) y'.typeIs ?_)))
 show wpAny _ _ (pure es[i].key) _ _ _
 rw[ek]
 exact F0 (F0 ⟨_,rfl,F0 (q _ y' (K2 ..))⟩)
theorem zpm{R:Option Value->Shared->Prop}(hh:A.handled=none)(y:s.heap.IsKeyIter it d ks.length ks.length ep)(x:RawD s.heap d ks ep)(q:∀h',Heap.ExtBut it s.heap h'->R none {s with heap:=h'}):wpAny `Y3 A (pyNext (.ref it)) R E s:=by
 obtain⟨o,ho,hc,hd⟩:=id y
 obtain⟨od,es,hod,_,hdd,hks⟩:=x
 have sz:es.size=ks.length:=by rw[←hks];simp
 unfold pyNext
 refine A0 (wpAny_attempt (Y2 (name:=Str.ofString "__next__") y.typeIs F.slot_dict_keyiterator_next (G2 F.slot_dict_keyiterator_next y.typeIs F.entry_dict_keyiterator_next ?_ (F.args_dict_keyiterator_next_1 _))))
 refine A0 (F0 (A0 (A0 ?_)))
 first|refine A0 (wpAny_typeNameOfWhole_keyiter y.typeIs (F0 ?_))|refine A0 (wpAny_typeNameOf_keyiter y.typeIs (F0 ?_))
 refine A0 (wpAny_fieldsOf ho hd ?_)
 simp only[(by decide:Builtin.Dict_items.ownsTuple "dict_keyiterator"=false),M3,if_false]
 show wpAny _ _ (if(Value.ref d==Value.none)=true then _ else _) _ _ s
 rw[P0 (λz=>nomatch z)]
 refine A0 (F0 (A0 (wpAny_dictEntries hod hdd ?_)))
 rw[P0 (λz=>by rw[sz] at z;simp at z)]
 refine A0 (F0 (A0 (wpAny_dictEpoch hod hdd ?_)))
 rw[P0 (λz=>by simp at z)]
 refine F0 ?_
 simp only[(by lia:¬((ks.length:Int)<0)),if_false,L3,Array.getElem?_eq_none (show es.size<=ks.length by lia)]
 refine A0 ?_
 first|refine A0 (wpAny_typeNameOfWhole_keyiter y.typeIs (F0 ?_))|refine A0 (wpAny_typeNameOf_keyiter y.typeIs (F0 ?_))
 show wpAny _ _ (setField (.ref it) 0 .none>>=_) _ _ s
 refine A0 (wpAny_setField ho hd `j3 ?_)
 show wpAny _ _ (newExc (.type "StopIteration") []>>=_) _ _ _
 refine A0 (by
  simp only[newExc,newTuple]
  refine A0 (j1 (A0 (m:=firstArgMember _ _) (wpAny_of_eq (a:=Value.none) (by first|rfl|(simp only[firstArgMember];rfl)) (j1 ?_ (by size_fits)))) (by size_fits))
  simp only[raiseNew]
  refine A0 (wpAny_handled ?_)
  rw[show A.in1.handled=none from hh]
  refine A0 (F0 (wpAny_throw ?_));refine A0 (wpAny_isInstance (T:="StopIteration") (b:=true) ⟨_,T0 _ rfl,rfl⟩ isSubtype_stop ?_)
  exact F0 (q _ (((K2 ..).extBut.push _).push _)))
theorem zlo(hh:A.handled=none)(hne:d≠it):Walks prog w A it [it,d] [it] ks.length (λi v=>ks[i]?=some v) (λi h=>h.IsKeyIter it d i ks.length ep/\RawD h d ks ep) where
 sub:=λb hb=>by simp at hb;simp[hb]
 frame:=λ_ _ _ st hk=>⟨st.1.at λo e=>hk it `j3 o e,st.2.at λo e=>hk d `j3 o e⟩
 item:=λi s Q E hi st hQ=>zmk st.1 st.2 (show ks[i]?=some ks[i] by simp[hi]) λh' y' hs=>hQ _ h' s.toks (by simp[hi]) ⟨y',st.2.at λo e=>hs.extBut d o hne e⟩ λb o hb e=>hs.extBut b o (λh=>hb (by simp[h])) e
 done:=λs Q E st hQ=>zpm hh st.1 st.2 λh' he=>hQ h' s.toks λb o hb e=>he b o (λh=>hb (by simp[h])) e
 self:=λ_ _ _ _ st hQ=>wpAny_pyIter_keyiter st.1 hQ
theorem zoI(nsys:(d==sysModules)=false):KdlSrc prog w "dict" d d ks.length (λi v=>ks[i]?=some v) (λh=>RawD h d ks ep) where
 type:=λ_ hm=>hm.ty
 there:=λ_ hm=>⟨hm.lt,hm.lt⟩
 keep:=λ_ _ hm hk=>hm.at λo e=>hk d (.inl rfl) o e
 notList:=⋯
 notTuple:=⋯
 hint:=λ_ _ _ _ hm hq=>kdl_hint_dict hm.ty hq
 iter:=λ_ _ hh hm=>⟨_,_,(λ_ _ hq=>znB nsys hm hq),zlo hh (P1 hm.lt),⟨⟨_,T0 _ rfl,rfl,rfl⟩,hm.at λo e=>G0 _ e⟩⟩
end
def Kp(a:Addr)(s s1:Shared):Prop:=s1={s with heap:=s1.heap}/\∀b o,b≠a->s.heap.get? b=some o->s1.heap.get? b=some o
theorem zlI{vs:List Value}{R:PySem.Fin->Shared->Prop}{κ:SortKind}(ho:s.heap.get? a=some (seqObj "list" vs.toArray n))(h64:vs.length<64)
 (hk:2<=vs.length->∀s1:Shared,Kp a s s1->(∀C:SortKind->Shared->Prop,C κ s1->wpAny `Y3 A (keyKind' vs.toArray) C E s1)/\(kas_sort vs.length).kasWp (kas_ask prog w A κ vs) (λp s'=>s'=s1/\G p) s1)
 (q:∀(out:List Value) (h':Heap) (c:Nat),(vs.length<2/\out=vs\/∃p:Array Nat,p.size=vs.length/\G p/\out=p.toList.map λi=>vs.getD i Value.none)->(∀b o,b≠a->s.heap.get? b=some o->h'.get? b=some o)->
   h'.get? a=some (seqObj "list" out.toArray c)->R (.done (.ret .none)) {s with heap:=h'}):wpAny `Y3 A (Builtin.«list.sort» ⟨[.ref a],[]⟩) R E s:=by
 have la:a<s.heap.objs.size:=W0 ho
 have lz:vs.toArray.size=vs.length:=G1 ..
 have u1:=K2 s.heap a (Obj.mapSeq λ_=>(#[]:Array Value))
 obtain⟨e1,g1⟩:∃e1,(s.heap.update a (Obj.mapSeq λ_=>(#[]:Array Value))).get? a=some (seqObj "list" #[] e1):=⟨_,get?_update_seq ho λ_=> #[]⟩
 rw[list_sort_plain]
 refine A0 (listItems_at ho rfl (A0 (listUpdate_at ho rfl (A0 (seqEpoch_at g1 rfl (A0 (wpAny_newTuple (A0 (wpAny_newList (O2 ?_) (X1 _))) (by show vs.length<=_;rw[K3];lia))))) (by rw[lz,K3];lia) (X1 _))))
 generalize hs1:({s with heap:=((s.heap.update a (Obj.mapSeq λ_=>(#[]:Array Value))).push (seqObj "tuple" vs.toArray 0)).push (seqObj "list" #[] 0)}:Shared)=s1
 have kp:∀b o,(s.heap.update a (Obj.mapSeq λ_=>(#[]:Array Value))).get? b=some o->s1.heap.get? b=some o:=λb o e=>by rw[←hs1];exact G0 _ (G0 _ e)
 have k1:Kp a s s1:=⟨by rw[←hs1],λb o nb e=>kp b o ((u1.2 b nb).trans e)⟩
 have g2:s1.heap.get? a=some (seqObj "list" #[] e1):=kp a _ g1
 dsimp only
 have fin:∀(st:SortSt) (out:List Value),(arrOf st).map (·.2)=out.toArray->failedOf st=none->out.length<64->(vs.length<2/\out=vs\/∃p:Array Nat,p.size=vs.length/\G p/\out=p.toList.map λi=>vs.getD i Value.none)->
  wpAny `Y3 A (do
   let touched:=(←seqEpoch a) !=e1
   Builtin.List.listUpdate (.ref a) λ_=>(arrOf st).map (·.2)
   if let some e:=failedOf st then rule "list.sort.comparison-raised";throw e
   if touched then rule "list.sort.modified";raiseError "ValueError" "list modified during sort"
   ret .none) R E s1:=by
  intro st out ho hf hl hc
  rw[ho]
  have u2:=K2 s1.heap a (Obj.mapSeq λ_=>out.toArray)
  obtain⟨c2,g3⟩:∃c2,(s1.heap.update a (Obj.mapSeq λ_=>out.toArray)).get? a=some (seqObj "list" out.toArray c2):=⟨_,get?_update_seq g2 λ_=>out.toArray⟩
  refine A0 (seqEpoch_at g2 rfl (A0 (listUpdate_at g2 rfl ?_ (X1 _) (by show out.toArray.size<=_;rw[G1,K3];lia))))
  rw[hf]
  simp only[bne_self_eq_false,M3,if_false]
  have:=q out _ c2 hc (λb o nb e=>(u2.2 b nb).trans (k1.2 b o nb e)) g3
  rw[k1.1]
  exact F0 this
 by_cases h2:vs.toArray.size<2
 ·rw[c0 h2,c0 h2]
  refine A0 (F0 ?_)
  rw[StateT.run_pure]
  refine A0 (F0 ?_)
  refine fin _ vs ?_ rfl h64 (.inl ⟨(),rfl⟩)
  apply Array.toList_inj.mp
  show((vs.toArray.zip vs.toArray).map (·.2)).toList=_
  rw[Array.toList_map,Array.toList_zip]
  exact List.map_snd_zip (L0 _)
 ·rw[P0 h2,P0 h2]
  obtain⟨hkk,hw⟩:=hk () s1 k1
  refine A0 (hkk _ ?_)
  refine A0 (K1 (kat_run (E:=E) (Q:=λst' s'=>s'=s1/\∃p:Array Nat,p.size=vs.length/\arrOf st'=p.map (kas_item (vs.toArray.zip vs.toArray))/\failedOf st'=none/\G p) rfl () h64 (λp st' s' x1 x2 x3 x4=>⟨x4.1,p,x1,x2,x3,x4.2⟩) hw) ?_ λ_ _ e=>e)
  rintro⟨⟨⟩,st'⟩ s' ⟨rfl,p,hp,har,hf,hG⟩
  refine fin st' (p.toList.map λi=>vs.getD i Value.none) (kat_snds rfl har) hf (by rw[C0,C1,hp];exact h64) (.inr ⟨p,hp,hG,rfl⟩)
theorem zjM{r d:Addr}{Pn:Nat->Value->Prop}{R:List Value->Shared->Prop}(K:KdlSrc prog w T r d n Pn OK)(hh:A.handled=none)(hok:OK s.heap)(hn:n<=sizeLine)
 (q:∀(h':Heap) (tk:Nat) (acc:Array Value),(∀b o,s.heap.get? b=some o->h'.get? b=some o)->s.heap.objs.size<h'.objs.size->ItemsOf Pn acc n->R acc.toList {s with heap:=h',toks:=tk}):wpAny `Y3 A (collect (.ref r)) R E s:=by
 have lt:=K.there _ hok
 have g0:(s.heap.push {cls:= .type "list",data:= .seq ([]:List Value).toArray}).get? s.heap.objs.size=some {cls:= .type "list",data:= .seq #[]}:=T0 _ rfl
 have key:=kdl_extend (A:=A) (s:={s with heap:=s.heap.push {cls:= .type "list",data:= .seq ([]:List Value).toArray}}) (R:=λ(f:Result) (s':Shared)=>∃(h':Heap) (tk:Nat) (acc':Array Value) (c':Nat),f= .ok (.ret (.ref s.heap.objs.size))/\s'={s with heap:=h',toks:=tk}/\(∀b o,s.heap.get? b=some o->h'.get? b=some o)/\h'.get? s.heap.objs.size=some {cls:= .type "list",dict:=none,data:= .seq acc' c',slots:= #[]}/\ItemsOf Pn acc' n)
  K hh (K.keep _ _ hok λb _ o e=>G0 _ e) s.heap.objs.size (Nat.ne_of_gt lt.1) (Nat.ne_of_gt lt.2) (.ref s.heap.objs.size) 0 g0 (λh' tk acc' c' kp gS ia=>⟨h',tk,acc',c',rfl,rfl,λb o e=>kp b o (P1 (W0 e)) (G0 _ e),gS,ia⟩) hn
 unfold collect
 refine A0 (wpAny_runValue (codeAny_builtin entry_proto_collect' (by
  rw[Around.under_plainId F.plain_proto_collect _]
  show wpAny _ A.in1 (newList []>>=λl=>again (.builtin "list.__iadd__" ⟨[l, .ref r],[]⟩)) _ _ s
  refine A0 (j1 (F0 ⟨plainId_quiet F.plain_list_iadd _,codeAny_builtin entry_list_iadd' (by
   rw[Around.under_plainId F.plain_list_iadd _]
   show wpAny _ A.in1 (Builtin.List.listExtendWith (.ref s.heap.objs.size) (.ref r) (.ref s.heap.objs.size)) _ _ _
   refine K1 key (λfin s' x=>?_) λe s' x=>?_
   ·cases fin with
    |done f=>
     obtain⟨h',tk,acc',c',e,rfl,kp,gS,ia⟩:=x;cases e
     show wpAny _ A (load s.heap.objs.size>>=_) _ _ _
     exact A0 (wpAny_load gS (F0 (q h' tk acc' kp (W0 gS) ia)))
    |again c₁=>
     refine⟨x.1,codeAny_mono x.2 λf s₂ y=>?_⟩
     obtain⟨h',tk,acc',c',rfl,rfl,kp,gS,ia⟩:=y
     show wpAny _ A (load s.heap.objs.size>>=_) _ _ _
     exact A0 (wpAny_load gS (F0 (q h' tk acc' kp (W0 gS) ia)))
   ·obtain ⟨_,_,_,_,e',_⟩:=x
    cases e')⟩)))))
noncomputable abbrev ltS(x y:Str):Bool:=decide (x.cps.toList<y.cps.toList)
noncomputable def ltP(p q:Str×Str):Bool:=if p.1=q.1 then(if p.2=q.2 then false else ltS p.2 q.2)else ltS p.1 q.1
theorem zkE:∀(a b:List Nat),a≠b->¬a<b->b<a
 |[],[],h,_=>absurd rfl h
 |[],b::bs,_,h=>absurd (List.nil_lt_cons b bs) h
 |a::as,[],_,_=>List.nil_lt_cons a as
 |a::as,b::bs,h,hn=>by
  rw[List.cons_lt_cons_iff] at hn⊢
  rcases Nat.lt_trichotomy a b with q|q|q
  ·exact absurd (.inl q) hn
  ·subst q
   exact .inr ⟨rfl,zkE as bs (λz=>h (by rw[z])) (λz=>hn (.inr ⟨rfl,z⟩))⟩
  ·exact .inl q
theorem zjk:∀{a b c:List Nat},a<b->b<c->a<c
 |_,[],_,h,_=>absurd h `j3
 |_,_::_,[],_,h=>absurd h `j3
 |[],_::_,c::cs,_,_=>List.nil_lt_cons c cs
 |a::as,b::bs,c::cs,h1,h2=>by
  rw[List.cons_lt_cons_iff] at h1 h2⊢
  rcases h1 with h1|⟨rfl,h1⟩
  ·rcases h2 with h2|⟨rfl,h2⟩
   ·exact .inl ()
   ·exact .inl h1
  ·rcases h2 with h2|⟨rfl,h2⟩
   ·exact .inl h2
   ·exact .inr ⟨rfl,zjk h1 h2⟩
theorem zg9:∀(a:List Nat),¬a<a
 |[],h=>absurd h `j3
 |a::as,h=>by
  rw[List.cons_lt_cons_iff] at h
  rcases h with h|⟨_,h⟩
  ·lia
  ·exact zg9 as h
theorem zoK(h:x.cps.toList=y.cps.toList):x=y:=by
 cases x;cases y
 simp only[Str.mk.injEq]
 exact Array.toList_inj.mp h
theorem za6(h:x≠y)(e:ltS x y=false):ltS y x=true:=U0 (zkE _ _ (λz=>h (zoK z)) (of_decide_eq_false e))
theorem zhq(h1:ltS x y=true)(h2:ltS y z=true):ltS x z=true:=U0 (zjk (Y0 h1) (Y0 h2))
theorem zcn(x:Str):ltS x x=false:=A1 (zg9 _)
theorem zaU(h:ltS x y=true):ltS y x=false:=A1 λz=>zg9 _ (zjk (Y0 h) z)
theorem zjj(h:ltS x y=true):x≠y:=λz=>by rw[z,zcn] at h;cases h
theorem zpQ(p:Str×Str):ltP p p=false:=by unfold ltP;rw[c0 rfl,c0 rfl]
theorem zeg:∀(l:List Str),sortedS l=true->l.Nodup->l.Pairwise (λa b=>ltS a b=true)
 |[],_,_=> .nil
 |[x],_,_=>`j3
 |x::y::r,h,hn=>by
  have h':(!ltCps y.cps.toList x.cps.toList&&risingS y r)=true:=h
  rw[E1] at h'
  have hr:sortedS (y::r)=true:=h'.2
  have ih:=zeg (y::r) hr (U1.mp hn).2
  have hxy:ltS x y=true:=by
   have h1:ltS y x=false:=by
    have:=h'.1
    rw[ltCps_eq] at this
    simpa using this
   exact za6 (λz=>(U1.mp hn).1 (by rw[z];exact Q0)) h1
  refine List.pairwise_cons.mpr ⟨λz hz=>?_,ih⟩
  rcases R0.mp hz with rfl|hz
  ·exact hxy
  ·exact zhq hxy ((List.pairwise_cons.mp ih).1 z hz)
theorem zfh{α β:Type}{R:α->β->Prop}:∀{as:List α} {bs:List β},Paired R as bs->as.length=bs.length/\∀(i:Nat) (a:α) (b:β),as[i]?=some a->bs[i]?=some b->R a b
 |_,_, .nil=>⟨rfl,λi a b e=>by simp at e⟩
 |_,_, .cons h t=>by
  obtain⟨h1,h2⟩:=zfh t
  refine⟨by simp[h1],λi a b e1 e2=>?_⟩
  cases i with
  |zero=>simp at e1 e2;subst e1;subst e2;exact h
  |succ i=>exact h2 i a b (by simpa using e1) (by simpa using e2)
noncomputable def ziw(a c:Str)(t u:Tok)(i:Nat):Value:=if i=0 then .str a t else .str c u
theorem zh2{a c:Str}{t u:Tok}{v:Value}(h:(#[Value.str a t,Value.str c u])[i]?=some v):(i=0/\v= .str a t)\/(i=1/\v= .str c u):=by
 match i,h with
 |0,h=>exact .inl ⟨rfl,by simpa using h.symm⟩
 |1,h=>exact .inr ⟨rfl,by simpa using h.symm⟩
 |i+2,h=>simp at h
theorem zhD{a c:Str}{t u:Tok}{R:Value->Shared->Prop}(hh:A.handled=none)(q:∀h' tk,(∀b o,s.heap.get? b=some o->h'.get? b=some o)->R (if ltS a c=true then .str c u else .str a t) {s with heap:=h',toks:=tk}):
 wpAny `Y3 A (call (.builtin "max") [.str a t, .str c u]) R E s:=by
 have hT:(s.heap.push {cls:= .type "tuple",data:= .seq #[.str a t, .str c u]}).IsTuple s.heap.objs.size #[.str a t, .str c u]:=⟨_,T0 _ rfl,rfl,0,rfl⟩
 have z:(s.heap.push {cls:= .type "tuple",data:= .seq #[.str a t, .str c u]}).objs.size=s.heap.objs.size+1:=Heap.size_push ..
 refine call_max_two (wpAny_pyIter_tuple hT ?_)
 refine⟨_,[_,s.heap.objs.size],[_],_,_,_,λi j=>ltS (strOf (ziw a c t u j)) (strOf (ziw a c t u i)),rfl,Walks.tuple (A:=A.in1) hh _ s.heap.objs.size (by rw[z];exact P1 (Nat.lt_succ_self _)) #[.str a t, .str c u],⟨⟨_,T0 _ rfl,rfl,rfl⟩,hT.push _⟩,λb hb=>?_,(by decide:0<2),?_,λv h' tk hP hk=>?_⟩
 ·show b<((s.heap.push _).push _).objs.size
  rw[Heap.size_push,z]
  rcases R0.mp hb with rfl|hb
  ·rw[z];exact Nat.lt_succ_self _
  ·rcases R0.mp hb with rfl|hb
   ·exact Nat.lt_succ_of_lt (Nat.lt_succ_self _)
   ·cases hb
 ·intro i j vi vj s' R' E' hi hj hq
  rcases zh2 hi with⟨rfl,rfl⟩|⟨rfl,rfl⟩<;>rcases zh2 hj with⟨rfl,rfl⟩|⟨rfl,rfl⟩<;>exact (P.gt_str hq:wpAny `Y3 A.in1 (compareOp .Gt _ _) R' E' s')
 ·have keep:∀b o,s.heap.get? b=some o->h'.get? b=some o:=λb o e=>hk b o (λhm=>by
   rcases R0.mp hm with e1|hm
   ·have lb:=W0 e
    rw[e1,z] at lb
    exact absurd lb (Nat.not_lt.mpr (Nat.le_succ _))
   ·cases hm) (G0 _ (G0 _ e))
  have fin:=q h' tk keep
  have eb:argBest (λi j=>ltS (strOf (ziw a c t u j)) (strOf (ziw a c t u i))) (2 -1)=if ltS a c=true then 1 else 0:=rfl
  have hP':(#[Value.str a t,Value.str c u])[if ltS a c=true then 1 else 0]?=some v:=hP
  by_cases hc:ltS a c=true
  ·rw[c0 hc] at hP' fin
   have ev:Value.str c u=v:=by simpa using hP'
   rw[←ev];exact fin
  ·rw[P0 hc] at hP' fin
   have ev:Value.str a t=v:=by simpa using hP'
   rw[←ev];exact fin
theorem zhY{a c:Str}{t u:Tok}{R:Value->Shared->Prop}(hh:A.handled=none)(q:∀h' tk,(∀b o,s.heap.get? b=some o->h'.get? b=some o)->R (if ltS c a=true then .str c u else .str a t) {s with heap:=h',toks:=tk}):
 wpAny `Y3 A (call (.builtin "min") [.str a t, .str c u]) R E s:=by
 have hT:(s.heap.push {cls:= .type "tuple",data:= .seq #[.str a t, .str c u]}).IsTuple s.heap.objs.size #[.str a t, .str c u]:=⟨_,T0 _ rfl,rfl,0,rfl⟩
 have z:(s.heap.push {cls:= .type "tuple",data:= .seq #[.str a t, .str c u]}).objs.size=s.heap.objs.size+1:=Heap.size_push ..
 refine call_min_two (wpAny_pyIter_tuple hT ?_)
 refine⟨_,[_,s.heap.objs.size],[_],_,_,_,λi j=>ltS (strOf (ziw a c t u i)) (strOf (ziw a c t u j)),rfl,Walks.tuple (A:=A.in1) hh _ s.heap.objs.size (by rw[z];exact P1 (Nat.lt_succ_self _)) #[.str a t, .str c u],⟨⟨_,T0 _ rfl,rfl,rfl⟩,hT.push _⟩,λb hb=>?_,(by decide:0<2),?_,λv h' tk hP hk=>?_⟩
 ·show b<((s.heap.push _).push _).objs.size
  rw[Heap.size_push,z]
  rcases R0.mp hb with rfl|hb
  ·rw[z];exact Nat.lt_succ_self _
  ·rcases R0.mp hb with rfl|hb
   ·exact Nat.lt_succ_of_lt (Nat.lt_succ_self _)
   ·cases hb
 ·intro i j vi vj s' R' E' hi hj hq
  rcases zh2 hi with⟨rfl,rfl⟩|⟨rfl,rfl⟩<;>rcases zh2 hj with⟨rfl,rfl⟩|⟨rfl,rfl⟩<;>exact (lt_str hq:wpAny `Y3 A.in1 (compareOp .Lt _ _) R' E' s')
 ·have keep:∀b o,s.heap.get? b=some o->h'.get? b=some o:=λb o e=>hk b o (λhm=>by
   rcases R0.mp hm with e1|hm
   ·have lb:=W0 e
    rw[e1,z] at lb
    exact absurd lb (Nat.not_lt.mpr (Nat.le_succ _))
   ·cases hm) (G0 _ (G0 _ e))
  have fin:=q h' tk keep
  have eb:argBest (λi j=>ltS (strOf (ziw a c t u i)) (strOf (ziw a c t u j))) (2 -1)=if ltS c a=true then 1 else 0:=rfl
  have hP':(#[Value.str a t,Value.str c u])[if ltS c a=true then 1 else 0]?=some v:=hP
  by_cases hc:ltS c a=true
  ·rw[c0 hc] at hP' fin
   have ev:Value.str c u=v:=by simpa using hP'
   rw[←ev];exact fin
  ·rw[P0 hc] at hP' fin
   have ev:Value.str a t=v:=by simpa using hP'
   rw[←ev];exact fin
theorem zjr(hc:X.calm=true):CallR X (.builtin "max") (λxs H Q=>∃a c,xs=[.str a, .str c]/\Q (.str (if ltS a c=true then c else a)) H):=by
 intro pins s σ H xs us Q I r h
 obtain⟨i,j,rfl,q⟩:=h
 obtain⟨u,w',rfl,⟨t,rfl⟩,⟨t',rfl⟩⟩:=ze8 r
 refine zhD (I.ok.hd hc) λh' tk k=>⟨_,H,I.kept k,?_,q⟩
 by_cases hj:ltS i j=true
 ·rw[c0 hj,c0 hj];exact⟨_,rfl⟩
 ·rw[P0 hj,P0 hj];exact⟨_,rfl⟩
theorem zjA(hc:X.calm=true):CallR X (.builtin "min") (λxs H Q=>∃a c,xs=[.str a, .str c]/\Q (.str (if ltS c a=true then c else a)) H):=by
 intro pins s σ H xs us Q I r h
 obtain⟨i,j,rfl,q⟩:=h
 obtain⟨u,w',rfl,⟨t,rfl⟩,⟨t',rfl⟩⟩:=ze8 r
 refine zhY (I.ok.hd hc) λh' tk k=>⟨_,H,I.kept k,?_,q⟩
 by_cases hj:ltS j i=true
 ·rw[c0 hj,c0 hj];exact⟨_,rfl⟩
 ·rw[P0 hj,P0 hj];exact⟨_,rfl⟩
section
open PySem.SeqAt
open PySem.AutoSeq1 (wpAny_loadPart')
open PySem.MeetsSeq PySem.MeetsSeq2 PySem.MeetsSeq3
end
noncomputable def zqY(K:W.Frag):R2:=λx y H Q=>∃a b xs ys,x= .ref a/\y= .ref b/\SqT K H a xs/\SqT K H b ys/\xs.length+ys.length<=sizeLine/\
 (xs=[]->Q (.ref b) H)/\(xs≠ []->ys=[]->Q (.ref a) H)/\(xs≠ []->ys≠ []->∀p,H p=none->Q (.ref p) (upd H p (.tup (xs ++ys))))
theorem zdV:OpR X (binaryOp .Add) (zqY X.K):=by
 intro pins s σ H x y v u Q I rx ry h
 obtain⟨a,b,xs,ys,rfl,rfl,ha,hb,hz,q0,q1,q2⟩:=h
 by_cases hx:xs=[]
 ·cases rx
  cases ry
  obtain⟨its,r1,p1,_⟩:=I.tuple ha
  obtain⟨its2,r2,p2,_⟩:=I.tuple hb
  have e1:its=[]:=r1.nil_iff.mpr hx
  obtain⟨⟨cls,dd,data,sl⟩,ho,hc,n,hd⟩:=id p1
  obtain⟨⟨cls2,dd2,data2,sl2⟩,ho2,hc2,n2,hd2⟩:=id p2
  simp only at hc hd hc2 hd2
  subst hc hd hc2 hd2
  exact concat_meets ⟨_,ho,rfl⟩ ⟨_,ho2,rfl⟩ noFill_tuple_add seq_tuple_add F.slot_tuple_add F.entry_tuple_add (F.args_tuple_add_2 _ _) (tuple_addW0 a b its.toArray its2.toArray n n2 dd dd2 sl sl2 (by simp[e1])) ⟨ho,ho2,⟨.ref b,H,I,rfl,q0 hx⟩⟩
 ·exact zqh pins s σ H _ _ v u Q I rx ry ⟨a,b,xs,ys,rfl,rfl,ha,hb,hx,hz,q1 hx,q2 hx⟩
section
open PySem.AutoSeq1 (wpAny_loadPart')
end
theorem hu1(r:Room k A):A.units+1<cLine:=by have:=r.units;lia
section
variable{a b o i:Expr}{pt2:Pos}{kt k2:Nat}{ty:TE}
theorem zqx(m n:Nat)(hN:X.N.Nodup)(ha:QA X [a,b] ta)(hc:autoParam (X.calm=true) y3)(hi:autoParam (X.N[m]?=some x) y3)(hj:autoParam (X.N[n]?=some y) y3)(hij:autoParam (m≠n) v4)
 (hx:autoParam (X.env.scope.names.lookup x=some .local) y3) (hy:autoParam (X.env.scope.names.lookup y=some .local) y3)
 (hw:autoParam (swappedStores [.Tuple [.Name x px, .Name y py] kt pt] (.Tuple [a,b] k2 pt2) X.env=pure (some [x,y])) y3)
 (hs:autoParam (swapsWithSole [.Tuple [.Name x px, .Name y py] kt pt] (.Tuple [a,b] k2 pt2) pos.line X.env=pure false) y3):
 QS X (.Assign [.Tuple [.Name x px, .Name y py] kt pt] (.Tuple [a,b] k2 pt2) pos) (ztc m n ta):=⟨zrv hc hN hi hj hij hx hy ha.o hw hs⟩
theorem zoz(hu:X.A.units+1<cLine)(ho:QE X o td)(hi:QE X i ty)(hv:QE X value tv)(hs:autoParam (swapsWith value (some (.Subscript o i pos')) pos.line X.env=pure false) y3):
 QS X (.Assign [.Subscript o i pos'] value pos) (zqB td ty tv):=⟨zqd hu ho.o hi.o hv.o hs⟩
theorem zp2:QE X (.Dict [] [] pos) zmL:=⟨znS⟩
end
end
noncomputable def ltD:D->D->Bool
 | .str x, .str y=>ltS x y
 | .tup [.str a, .str b], .tup [.str c, .str d]=>ltP (a,b) (c,d)
 |_,_=>false
noncomputable def zpv(ds:List D):Bool:=(List.range (ds.length -1)).all λk=>ltD (ds.getD k .non) (ds.getD (k+1) .non)
noncomputable def areHousesB:D->Bool| .tup ds=>decide (1<=ds.length)&&decide (ds.length<=10)&&ds.all zdR&&zpv ds|_=>false
noncomputable def zeP:D->Bool| .tup ds=>decide (ds.length<=90)&&ds.all zZ|_=>false
noncomputable def zet:D->Bool| .tup ds=>decide (ds.length<=90)&&ds.all zcj|_=>false
theorem zlt(z:Str)(n:Nat):(zfZ z n).cps.toList=(List.replicate n z.cps.toList).flatten:=by
 unfold zfZ
 have key:∀(k:Nat) (acc:Array Nat),((List.replicate k z.cps).foldl (·++·) acc).toList=acc.toList ++(List.replicate k z.cps.toList).flatten:=by
  intro k
  induction k with
  |zero=>intro acc;simp
  |succ k ih=>intro acc;rw[List.replicate_succ,List.foldl_cons,ih,List.replicate_succ,List.flatten_cons,Array.toList_append,List.append_assoc]
 have:=key n #[]
 simpa using this
theorem zb5(c n:Nat):(zfZ (one c) n).cps.toList=List.replicate n c:=by
 rw[zlt]
 show(List.replicate n [c]).flatten=_
 induction n with
 |zero=>rfl
 |succ n ih=>rw[List.replicate_succ,List.flatten_cons,ih,List.replicate_succ];rfl
noncomputable def zkM(x:Str):Bool:=x.cps.toList.all λc=>some c==x.cps.toList.head?
theorem ziJ(c n:Nat):zkM (zfZ (one c) n)=true:=by
 unfold zkM
 rw[zb5]
 cases n with
 |zero=>rfl
 |succ n=>
  rw[C3]
  intro d hd
  rw[List.eq_of_mem_replicate hd]
  simp[List.replicate_succ]
noncomputable def zdq:List Str:=["goal","to","by","houses","tie","like","hand","keep","put","mark","long","from","strike"]
theorem zo0:∀x∈zdq,zf x=true:=`Z3
theorem zmf:∀x∈zdq,zkM x=false:=`Z3
theorem zpY:∀c∈za7.cps.toList,∀k∈List.range 8,zf (zfZ (one c) (k+1))=true:=`Z3
theorem zih:za7.length=26:=`Z3
theorem zfk:∀k∈List.range 26,za7.cps.toList[k]?=some (97+k):=`Z3
theorem zkJ(c:Nat):(one c).length=1:=rfl
noncomputable def zmn:List Nat:=[1,3,5,7,9,11]
theorem znk:∀f∈List.range 26,∀st∈zmn,((List.range 13).map λk=>(f+st*k)%26).Nodup:=`Z3
noncomputable def nmS(f st k:Nat):Str:=zfZ (one (97+(f+st*k)%26)) (1+(k*k+f)%8)
noncomputable def kwS(sp k:Nat):Str:=zdq.getD ((sp+3*k)%13) ""
noncomputable def zaL(f st sp j k:Nat):Str:=if k<j then kwS sp k else nmS f st k
theorem zr3:∀sp∈List.range 13,((List.range 4).map λk=>kwS sp k).Nodup:=`Z3
theorem zjP(sp k:Nat):kwS sp k∈zdq:=by
 unfold kwS
 have h:(sp+3*k)%13<zdq.length:=Nat.mod_lt _ ⋯
 simp[List.getD,h]
theorem zqA{l:List α}(h:l.Nodup)(hi:i<l.length)(hj:j<l.length)(hij:i≠j):l[i]≠l[j]:=λz=>hij ((List.getElem_inj h).mp z)
theorem ziF{f st sp m:Nat}(hf:f<26)(hst:st∈zmn)(hsp:sp<13)(hj:j<=4)(hm:m<=13):((List.range m).map (zaL f st sp j)).Nodup:=by
 have key:∀a b,a<b->b<13->zaL f st sp j a≠zaL f st sp j b:=by
  intro a b hab hb
  unfold zaL
  by_cases h1:a<j
  ·rw[c0 h1]
   by_cases h2:b<j
   ·rw[c0 h2]
    have:=zqA (zr3 sp (E3.mpr hsp)) (i:=a) (j:=b) (by simp;lia) (by simp;lia) ()
    simpa using this
   ·rw[P0 h2]
    intro z
    have e1:=zmf _ (zjP sp a)
    rw[z] at e1
    unfold nmS at e1
    rw[ziJ] at e1
    cases e1
  ·rw[P0 h1,P0 ()]
   intro z
   have hh:(nmS f st a).cps.toList.head?=(nmS f st b).cps.toList.head?:=by rw[z]
   unfold nmS at hh
   rw[zb5,zb5,Nat.add_comm 1,Nat.add_comm 1,List.replicate_succ,List.replicate_succ] at hh
   simp only[List.head?_cons,Option.some.injEq] at hh
   have:=zqA (znk f (E3.mpr hf) st hst) (i:=a) (j:=b) (by simp;lia) (by simp;lia) ()
   simp at this
   lia
 rw[List.nodup_iff_pairwise_ne,V2]
 refine List.Pairwise.imp_of_mem (λ{a b} ha hb hab=>?_) (List.pairwise_lt_range (n:=m))
 exact key a b hab (by have:=E3.mp hb;lia)
theorem zs5(f st k:Nat):zf (nmS f st k)=true:=by
 unfold nmS
 rw[Nat.add_comm 1]
 have hr:(f+st*k)%26<26:=Nat.mod_lt _ ⋯
 exact zpY _ (B1 (zfk _ (E3.mpr hr))) _ (E3.mpr (Nat.mod_lt _ ⋯))
theorem zp4(f st sp j k:Nat):zf (zaL f st sp j k)=true:=by
 unfold zaL
 split
 ·exact zo0 _ (zjP sp k)
 ·exact zs5 f st k
theorem zol{f st sp m:Nat}(hj:j<m):((List.range m).map (zaL f st sp j)).set j (kwS sp j)=(List.range m).map (zaL f st sp (j+1)):=by
 apply List.ext_getElem?
 intro i
 rw[List.getElem?_set]
 by_cases e:j=i
 ·subst e
  rw[c0 rfl,c0 (by simp;exact hj)]
  simp[hj,zaL]
 ·rw[P0 e]
  rcases D1 i m with h|h
  ·rw[N0,N0,List.getElem?_range h]
   show some _=some _
   congr 1
   unfold zaL
   by_cases h1:i<j
   ·rw[c0 h1,c0 ()]
   ·rw[P0 h1,P0 ()]
  ·rw[I0 (by simpa using h),I0 (by simpa using h)]
theorem zpN{sp:Nat}:zdq[(sp+3*k)%13]?=some (kwS sp k):=by
 unfold kwS
 have h:(sp+3*k)%13<zdq.length:=Nat.mod_lt _ ⋯
 simp[List.getD,h]
theorem znj{m:Nat}:zcD xs (some (m:Int)) none=xs.drop m:=by
 unfold zcD
 have e1:sIx xs.length xs.length none=xs.length:=rfl
 have e2:sIx xs.length 0 (some (m:Int))=min m xs.length:=by
  unfold sIx
  have h:¬(m:Int)<0:=()
  simp only[P0 h,L3]
 rw[e1,e2]
 rcases D1 m xs.length with h|h
 ·rw[Nat.min_eq_left (),List.take_of_length_le (by rw[List.length_drop];lia)]
 ·rw[Nat.min_eq_right h,List.drop_of_length_le (L0 _),List.drop_of_length_le h];simp
noncomputable def pairD(p:Str×Str):D:= .tup [.str p.1, .str p.2]
structure TownOk(g:Str)(hs:List Str)(ps:List (Str×Str))(lks hds:List D):Prop where
 rise:hs.Pairwise (λa b=>ltS a b=true)
 one:1<=hs.length
 ten:hs.length<=10
 names:∀x∈hs,zf x=true
 goal:g∈hs
 riseP:ps.Pairwise (λa b=>ltP a b=true)
 ties:∀p∈ps,p.1∈hs/\p.2∈hs/\ltS p.1 p.2=true
 ll:lks.length=hs.length
 lh:hds.length=hs.length
 likes:∀d∈lks,zeP d=true
 hands:∀d∈hds,zet d=true
noncomputable def zbR(g:Str)(hs:List Str)(ps:List (Str×Str))(lks hds:List D):D:= .tup [.str g, .tup (hs.map D.str), .tup (ps.map pairD), .tup lks, .tup hds]
section
variable{es:List D}
end
section
variable{es:List D}
theorem ze7{f:D->D}{g:D->Bool}{ok:Hp->Prop}{src:List (Option Nat)}{Q:VK}(wk:Wk J vs.length (λi x=>vs[i]?=some x) ok)(hok:∀H',Same H H'->ok H')(r:RepL H vs ds)(hl:ds.length<=900)(e:zdk src σ=none::σr)
 (hc:∀(x:V) (d:D) (H1:Hp) (Q1:Bool->Hp->Prop),Same H H1->Rep H1 x d->d∈ds->(∀H2,Same H1 H2->Q1 (g d) H2)->tc (some x::σr) H1 Q1)
 (he:∀(x:V) (d:D) (H1:Hp),Same H H1->Rep H1 x d->d∈ds->Dsp te (some x::σr) H1 (f d))
 (q:∀l us H',Same H H'->H l=none->H' l=some (.lst us)->RepL H' us ((ds.filter g).map f)->Q (.ref l) H'):zfE (zay 0) tc te src σ Q J H:=by
 refine za3 wk (λl i ys σ' H'=>(∃o,σ'=o::σr)/\RepL H' ys (((ds.take i).filter g).map f)/\Same H H') ?_ ?_ ?_ ?_
 ·exact λl h'=>⟨⟨none,e⟩,RepL.nil,Same.new h'⟩
 ·exact λl i ys σ' H' _ p=>hok H' p.2.2
 ·rintro l i y ys σ' H1 h' hi hy ⟨⟨o,rfl⟩,ry,s1⟩ hl'
  obtain⟨d,hd,rd⟩:=r.get hy
  refine hc y d H1 _ s1 (rd.same s1) (B1 hd) λH2 s2=>?_
  have tk:((ds.take (i+1)).filter g).map f=((ds.take i).filter g).map f ++([d].filter g).map f:=by
   rw[D2,hd,List.filter_append,F2];rfl
  rw[tk]
  cases hg:g d with
  |false=>
   have e0:([d].filter g).map f=[]:=by simp[hg]
   rw[e0,List.append_nil]
   exact⟨s2 _ _ hl',⟨_,rfl⟩,ry.mono (.of s2),s1.trans s2⟩
  |true=>
   have e0:([d].filter g).map f=[f d]:=by simp[hg]
   rw[e0]
   refine he y d H2 (s1.trans s2) ((rd.same s1).same s2) (B1 hd) H2 _ (Same.refl _) λv H3 s3 rv=>?_
   refine⟨s3 _ _ (s2 _ _ hl'),?_,⟨_,rfl⟩,?_,?_⟩
   ·have h1:=ry.1
    have h2:=List.length_filter_le g (ds.take i)
    rw[C0] at h1
    rw[C2] at h2
    exact zj ()
   ·exact ((ry.mono (.of (s2.trans s3))).append (.cons rv .nil)).mono (.lset (s3 _ _ (s2 _ _ hl')))
   ·exact λc o e=>by
     rw[zc (zi e h')]
     exact s3 _ _ (s2 _ _ (s1 _ _ e))
 ·rintro l ys σ' H1 h' ⟨⟨o,rfl⟩,ry,s1⟩ hl'
  rw[r.1,P2] at ry
  exact q l ys H1 s1 h' hl' ry
end
theorem za9{hs:List Str}(h:∀x∈hs,x.length<=1000):RepL H (hs.map V.str) (hs.map D.str):=by
 refine⟨by rw[C0,C0],λi v d hv hd=>?_⟩
 rw[N0] at hv hd
 cases e:hs[i]? with
 |none=>rw[e] at hv;cases hv
 |some x=>
  rw[e] at hv hd
  cases hv
  cases hd
  exact .str x (h x (B1 e))
inductive Tr(H:Hp):V->PyData->Prop
 |non:Tr H .non .none
 |bl (b:Bool):Tr H (.bl b) (.bool b)
 |int (i:Int):Tr H (.int i) (.int i)
 |str (x:Str) (h:PyData.strOk x=true):Tr H (.str x) (.str x)
 |tup {p:Addr} {vs:List V} {ds:List PyData} (e:H p=some (.tup vs)) (hl:vs.length=ds.length) (h:∀(i:Nat) (v:V) (d:PyData),vs[i]?=some v->ds[i]?=some d->Tr H v d):Tr H (.ref p) (.tuple ds)
 |lst {p:Addr} {vs:List V} {ds:List PyData} (e:H p=some (.lst vs)) (hl:vs.length=ds.length) (h:∀(i:Nat) (v:V) (d:PyData),vs[i]?=some v->ds[i]?=some d->Tr H v d):Tr H (.ref p) (.list ds)
theorem zcL{h:Heap}:∀{vs:List V} {us:List Value} {ds:List PyData},Vals vs us->vs.length=ds.length->(∀(i:Nat) (v:V) (d:PyData),vs[i]?=some v->ds[i]?=some d->∀u,RelV v u->∃as,Reads h u d as)->∃bs,ReadsAll h us ds bs
 |_,_,[], .nil,_,_=>⟨_, .nil⟩
 |v::vs,u::us,d::ds, .cons r t,hl,hh=>by
  obtain⟨as,ha⟩:=hh 0 v d rfl rfl u r
  obtain⟨bs,hb⟩:=zcL t (by simpa using hl) λi v' d' h1 h2=>hh (i+1) v' d' h1 h2
  exact⟨_, .cons ha hb⟩
 |[],_,d::ds, .nil,hl,_=>by simp at hl
 |v::vs,u::us,[], .cons r t,hl,_=>by simp at hl
theorem Tr.reads(I:Inv X pins σ H s){x:V}{d:PyData}(t:Tr H x d):∀v,RelV x v->∃as,Reads s.heap v d as:=by
 induction t with
 |non=>intro v r;cases r;exact⟨_, .none⟩
 |bl b=>intro v r;cases r;exact⟨_, .bool b⟩
 |int i=>intro v r;obtain⟨t,rfl⟩:=r;exact⟨_, .int i t⟩
 |str x h=>intro v r;obtain⟨t,rfl⟩:=r;exact⟨_, .str x t⟩
 |tup e hl h ih=>
  intro v r
  cases r
  obtain⟨its,rv,⟨o,ho,hc,n,hd⟩,_⟩:=I.tuple (SqT.of e)
  obtain⟨bs,hb⟩:=zcL (h:=s.heap) rv hl ih
  exact⟨_, .tuple ho hc hd (by simpa using hb)⟩
 |lst e hl h ih=>
  intro v r
  cases r
  obtain⟨its,n,rv,ho,_⟩:=I.lst e
  obtain⟨bs,hb⟩:=zcL (h:=s.heap) rv hl ih
  exact⟨_, .list ho rfl rfl (by simpa using hb)⟩
theorem zes:∀{vs:List V} {ds:List PyData},vs.length=ds.length->(∀(i:Nat) (v:V) (d:PyData),vs[i]?=some v->ds[i]?=some d->d.canLay0=true)->PyData.canLayAll0 ds=true
 |_,[],_,_=>rfl
 |v::vs,d::ds,hl,hh=>by
  rw[PyData.canLayAll0,hh 0 v d rfl rfl,zes (vs:=vs) (ds:=ds) (by simpa using hl) λi v' d' h1 h2=>hh (i+1) v' d' h1 h2];rfl
 |[],d::ds,hl,_=>by simp at hl
theorem Tr.can{x:V}{d:PyData}(t:Tr H x d):d.canLay0=true:=by
 induction t with
 |non=>rfl
 |bl b=>rfl
 |int i=>rfl
 |str x h=>simp only[PyData.canLay0];exact h
 |tup e hl h ih=>rw[PyData.canLay0];exact zes hl ih
 |lst e hl h ih=>rw[PyData.canLay0];exact zes hl ih
noncomputable def ztv:R2:=λx y H Q=>∃d e,Tr H x d/\Tr H y e/\min d.depth e.depth<=60/\Q (.bl (d.eqv e)) H
noncomputable def ztI:R2:=λx y H Q=>∃d e,Tr H x d/\Tr H y e/\min d.depth e.depth<=60/\Q (.bl (!d.eqv e)) H
theorem zrz(hu:X.A.units+64<cLine):OpR X (compareOp .Eq) ztv:=by
 intro pins s σ H x y v u Q I rx ry h
 obtain⟨d,e,t1,t2,hd,q⟩:=h
 obtain⟨as,r1⟩:=t1.reads I v rx
 obtain⟨bs,r2⟩:=t2.reads I u ry
 exact SeqAt.compareEq_reads r1 r2 t1.can t2.can () ⟨.bl _,H,I,rfl,q⟩
theorem zq3(hu:X.A.units+64<cLine):OpR X (compareOp .NotEq) ztI:=by
 intro pins s σ H x y v u Q I rx ry h
 obtain⟨d,e,t1,t2,hd,q⟩:=h
 obtain⟨as,r1⟩:=t1.reads I v rx
 obtain⟨bs,r2⟩:=t2.reads I u ry
 exact SeqAt.compareNe_reads r1 r2 t1.can t2.can () ⟨.bl _,H,I,rfl,q⟩
noncomputable def ztx:R2:=λx y H Q=>∃d es,Tr H x d/\(Tr H y (.list es)\/Tr H y (.tuple es))/\d.depth<=60/\Q (.bl (es.any λy=>y.eqv d)) H
theorem znW(hu:X.A.units+64<cLine):OpR X (compareOp .In) ztx:=by
 intro pins s σ H x y v u Q I rx ry h
 obtain⟨d,es,t1,t2,hd,q⟩:=h
 obtain⟨as,r1⟩:=t1.reads I v rx
 rcases t2 with t2|t2
 ·obtain ⟨bs,r2⟩:=t2.reads I u ry
  have c:=t2.can
  rw[PyData.canLay0] at c
  exact SeqAt.in_list_reads r2 r1 c t1.can () ⟨.bl _,H,I,rfl,q⟩
 ·obtain ⟨bs,r2⟩:=t2.reads I u ry
  have c:=t2.can
  rw[PyData.canLay0] at c
  exact SeqAt.in_tuple_reads r2 r1 c t1.can () ⟨.bl _,H,I,rfl,q⟩
noncomputable def ztO:R2:=λx y H Q=>∃d es,Tr H x d/\(Tr H y (.list es)\/Tr H y (.tuple es))/\d.depth<=60/\Q (.bl (!es.any λy=>y.eqv d)) H
theorem zrf(hu:X.A.units+64<cLine):OpR X (compareOp .NotIn) ztO:=by
 intro pins s σ H x y v u Q I rx ry h
 obtain⟨d,es,t1,t2,hd,q⟩:=h
 obtain⟨as,r1⟩:=t1.reads I v rx
 rcases t2 with t2|t2
 ·obtain ⟨bs,r2⟩:=t2.reads I u ry
  have c:=t2.can
  rw[PyData.canLay0] at c
  exact SeqAt.notIn_list_reads r2 r1 c t1.can () ⟨.bl _,H,I,rfl,q⟩
 ·obtain ⟨bs,r2⟩:=t2.reads I u ry
  have c:=t2.can
  rw[PyData.canLay0] at c
  exact SeqAt.notIn_tuple_reads r2 r1 c t1.can () ⟨.bl _,H,I,rfl,q⟩
theorem zjR(r:Room k A):A.units+64<cLine:=by have:=r.un;lia
theorem znC{α β:Type}{f:α->Option β}{g:α->β}:∀{l:List α},(∀a∈l,f a=some (g a))->l.filterMap f=l.map g
 |[],_=>rfl
 |a::l,h=>by rw[List.filterMap_cons,h a Q0,znC λb hb=>h b (V0 _ hb)];rfl
theorem znU(xs:Array Value):((List.range xs.size).filterMap λ(m:Nat)=>xs[((xs.size:Int) -1+(m:Int)* -1).toNat]?).toArray=xs.toList.reverse.toArray:=by
 congr 1
 refine List.ext_getElem? λi=>?_
 have e:((List.range xs.size).filterMap λ(m:Nat)=>xs[((xs.size:Int) -1+(m:Int)* -1).toNat]?)=(List.range xs.size).map λm=>xs[xs.size -1 -m]?.getD .none:=by
  refine znC λm hm=>?_
  have hm':=E3.mp hm
  rw[show((xs.size:Int) -1+(m:Int)* -1).toNat=xs.size -1 -m by lia]
  have:xs.size -1 -m<xs.size:=()
  simp[this]
 rw[e,N0]
 rcases D1 i xs.size with h|h
 ·rw[List.getElem?_range h,List.getElem?_reverse (by simpa using h)]
  have:xs.size -1 -i<xs.size:=()
  simp[this]
 ·rw[I0 (by simpa using h),I0 (by simpa using h)];rfl
theorem getItem_tuple_rev{t:Addr}(ht:IsTup s.heap t items)(hs:s.heap.IsSliceOf sl .none .none (.int (-1) tk))
 (h:Q (.ref s.heap.objs.size) {s with heap:=s.heap.push {cls:= .type "tuple",data:= .seq items.toList.reverse.toArray}})
 (hsz:items.size<=sizeLine):wpAny `Y3 A (getItem (.ref t) (.ref sl)) Q E s:=by
 have htake:sizeOk (.seq items.toList.reverse.toArray):=by
  show items.toList.reverse.toArray.size<=sizeLine
  rw[G1,List.length_reverse,C1]
  exact hsz
 obtain⟨os,hos,hcs,hds⟩:=id hs
 have hTs:s.TypeIs (.ref sl) "slice":=⟨os,hos,hcs⟩
 unfold getItem
 try with_reducible refine O2 ?_
 first|refine A0 (F0 ?_)|skip
 refine A0 (wpAny_sequenceKey ht.typeIs ⋯ ?_)
 refine A0 (Y2 (name:=Str.ofString "__getitem__") ht.typeIs PyProof.Rows.slot_tuple_getitem
  (G2 PyProof.Rows.slot_tuple_getitem ht.typeIs entry_tuple_getitem ?_ (args_tuple_getitem _ _)))
 show wpAny _ _ (Builtin.Tuple.tupleItemsOf (.ref t)>>=_) _ _ s
 refine A0 (tupleItemsOf_ ht ?_)
 refine A0 (wpAny_typeOf hTs ?_)
 rw[c0 ⋯]
 have happ:∀{A:Around} {R:Int×Int×Nat->Shared->Prop},R ((items.size:Int) -1,-1,items.size) s->wpAny `Y3 A (Builtin.Slice.sliceApplied (.ref sl) (pure (items.size:Int))) R E s:=by
  intro A R hR
  unfold Builtin.Slice.sliceApplied Builtin.Slice.sliceFields
  refine A0 (A0 (wpAny_field hos hds (x:= .none) rfl (A0 (wpAny_field hos hds (x:= .none) rfl (A0 (wpAny_field hos hds (x:= .int (-1) tk) rfl (F0 ?_)))))))
  refine A0 (zbA (.int (-1) tk) ?_)
  show wpAny _ _ (if((-1:Int)==0)=true then _ else _) _ _ s
  rw[P0 ⋯]
  refine A0 (zbA .none (A0 (zbA .none (A0 (F0 ?_)))))
  show wpAny _ _ (pure ((items.size:Int) -1,(-1:Int),Builtin.Slice.slicePlaces ((items.size:Int) -1) (-1) (-1))) _ _ s
  have hp:Builtin.Slice.slicePlaces ((items.size:Int) -1) (-1) (-1)=items.size:=by
   unfold Builtin.Slice.slicePlaces
   rw[P0 ⋯,show(- -1:Int)=1 by decide,Int.ediv_one]
   split<;>lia
  rw[hp]
  exact F0 hR
 refine A0 (happ ?_)
 have hno:¬(((items.size:Int) -1==0&&(-1:Int)==1&&items.size==items.size)=true):=by
  intro q
  rw[E1,E1] at q
  exact absurd q.1.2 ⋯
 show wpAny _ _ (if((items.size:Int) -1==0&&(-1:Int)==1&&items.size==items.size)=true then _ else _) _ _ s
 rw[P0 hno,znU]
 first
  |exact A0 (m:=Builtin.Tuple.tupleExact _) (j1 (F0 ⟨_,rfl,F0 h⟩) htake)
  |exact A0 (m:=Builtin.Tuple.tupleExact _) (j1 (A0 (F0 (F0 ⟨_,rfl,F0 h⟩))) htake)
  |exact A0 (A0 (m:=Builtin.Tuple.tupleExact _) (j1 (F0 (F0 ⟨_,rfl,F0 h⟩)) htake))
  |exact A0 (A0 (m:=Builtin.Tuple.tupleExact _) (j1 (F0 ⟨_,rfl,F0 h⟩) htake))
section
variable{p1 p2:Pos}
noncomputable def ztj(K:W.Frag)(te:TE):TE:=λσ H Q=>te σ H λx H1=>∃a xs,x= .ref a/\SqT K H1 a xs/\∀p,H1 p=none->Q (.ref p) (upd H1 p (.tup xs.reverse))
theorem Vals.rev:∀{xs:List V} {us:List Value},Vals xs us->Vals xs.reverse us.reverse
 |_,_, .nil=> .nil
 |x::xs,u::us, .cons r t=>by
  rw[List.reverse_cons,List.reverse_cons]
  exact(Vals.rev t).append (.cons r .nil)
theorem zrl{st:Expr}(he:PE X e te)(hst:PE X st (tUn (rU λi=> .int (-i)) (tC (.int 1)))):PE X (.Subscript e (.Slice none none (some st) p2) pos) (ztj X.K te):=by
 intro pins s σ H Q I h
 refine Subscript_ (thn (he pins s σ H _ I h) λv s1 zq=>?_)
 obtain⟨x,H1,I1,r1,q1⟩:=zq
 refine wpAny_Slice ?_
 rw[evalPart_none,evalPart_some]
 refine F0 (F0 ?_)
 refine thn (hst pins s1 σ H1 (λy H2=>y= .int (-1)/\H2=H1) I1 ⟨1,rfl,rfl,rfl⟩) λvst s3 ⟨y,H3,I3,r3,ey,eh⟩=>?_
 subst ey eh
 obtain⟨tk,rfl⟩:=r3
 obtain⟨a,xs,rfl,hx,q⟩:=q1
 cases r1
 have I4:Inv X pins σ _ {s3 with heap:=s3.heap.push {cls:= .type "slice",data:= .fields #[.none, .none, .int (-1) tk]}}:=I3.kept (t':=s3.toks) λb ob q=>G0 _ q
 obtain⟨its,r,ht,hz⟩:=I4.tuple hx
 have hlen:its.toArray.size=xs.length:=by rw[G1];exact r.length.symm
 show wpAny `W3 X.A (subscriptTail e (.Slice none none (some st) p2) (.ref a) (.ref s3.heap.objs.size)) (EP X pins σ Q) X.xe {s3 with heap:=s3.heap.push {cls:= .type "slice",data:= .fields #[.none, .none, .int (-1) tk]}}
 refine tail_any (ops:=[.ref a, .ref s3.heap.objs.size]) ht.typeIs PyProof.Rows.slot_tuple_getitem.lookup ?_ (by with_unfolding_all rfl)
 refine getItem_tuple_rev (tk:=tk) ht (Heap.IsSliceOf.new ..) ?_ (by rw[hlen];exact hz)
 refine⟨.ref _,_,I4.laid (t':=s3.toks) (o:= .tup xs.reverse) (λb ob q=>G0 _ q) (L0 _) ?_,rfl,q _ (I4.hok.fresh (L0 _))⟩
 exact⟨by rw[List.length_reverse];exact hz,_,r.rev,IsTup.new _ _,NoDict.new rfl (T0 _ rfl)⟩
theorem zsz{st:Expr}(he:QE X e te)(hst:QE X st (tUn (rU λi=> .int (-i)) (tC (.int 1)))):QE X (.Subscript e (.Slice none none (some st) p2) pos) (ztj X.K te):=⟨zrl he.o hst.o⟩
end
theorem getItem_tuple_whole{t:Addr}(ht:IsTup s.heap t items)(hs:s.heap.IsSliceOf sl vl vu .none)(pl:IsPart vl lo)(pu:IsPart vu hi)
 (h1:sIx items.size 0 lo=0) (h2:sIx items.size items.size hi=items.size)
 (h:Q (.ref t) s):wpAny `Y3 A (getItem (.ref t) (.ref sl)) Q E s:=by
 obtain⟨os,hos,hcs,hds⟩:=id hs
 have hTs:s.TypeIs (.ref sl) "slice":=⟨os,hos,hcs⟩
 unfold getItem
 try with_reducible refine O2 ?_
 first|refine A0 (F0 ?_)|skip
 refine A0 (wpAny_sequenceKey ht.typeIs ⋯ ?_)
 refine A0 (Y2 (name:=Str.ofString "__getitem__") ht.typeIs PyProof.Rows.slot_tuple_getitem
  (G2 PyProof.Rows.slot_tuple_getitem ht.typeIs entry_tuple_getitem ?_ (args_tuple_getitem _ _)))
 show wpAny _ _ (Builtin.Tuple.tupleItemsOf (.ref t)>>=_) _ _ s
 refine A0 (tupleItemsOf_ ht ?_)
 refine A0 (wpAny_typeOf hTs ?_)
 rw[c0 ⋯]
 refine A0 (zb9 hs pl pu ?_)
 rw[h1,h2]
 show wpAny _ _ (if(((0:Nat):Int)==0&&(1:Int)==1&&(items.size -0)==items.size)=true then _ else _) _ _ s
 rw[c0 `j3]
 unfold Builtin.Tuple.tupleIsExact
 refine A0 (A0 (wpAny_typeOf ht.typeIs (F0 ?_)))
 rw[c0 ⋯]
 refine A0 (wpAny_rule ?_)
 exact F0 ⟨_,rfl,F0 h⟩
def zss(K:W.Frag):V->Option Int->Option Int->Hp->VK->Prop:=λx lo hi H Q=>∃a xs,x= .ref a/\SqT K H a xs/\
 (zcD xs lo hi=xs->Q (.ref a) H)/\∀p,H p=none->Q (.ref p) (upd H p (.tup (zcD xs lo hi)))
theorem zce:SlR X (zss X.K):=by
 intro pins s σ H x v vl vu lo hi sl Q I rx hs pl pu h
 obtain⟨a,xs,rfl,hx,q1,q2⟩:=h
 by_cases hw:sIx xs.length 0 lo=0/\sIx xs.length xs.length hi=xs.length
 ·have rx':v= .ref a:=rx
  subst rx'
  obtain⟨its,r,ht,hz⟩:=I.tuple hx
  have hlen:its.toArray.size=xs.length:=by rw[G1];exact r.length.symm
  refine⟨"tuple",_,PyProof.Rows.slot_tuple_getitem.lookup,ht.typeIs,?_⟩
  refine getItem_tuple_whole ht hs pl pu (by rw[hlen];exact hw.1) (by rw[hlen];exact hw.2) ⟨.ref a,H,I,rfl,q1 ?_⟩
  unfold zcD
  rw[hw.1,hw.2];simp
 ·exact zrT pins s σ H (.ref a) v vl vu lo hi sl Q I rx hs pl pu ⟨a,xs,rfl,hx,hw,q2⟩
theorem ziR(h:X.K=K):SlR X (zss K):=by subst h;exact zce
section
variable{es:List D}
end
theorem zlJ:∀x∈zdq,x≠"nowhere":=`Z3
theorem zma:zkM "nowhere"=false:=`Z3
theorem zmh(f st sp j k:Nat):zaL f st sp j k≠"nowhere":=by
 unfold zaL
 split
 ·exact zlJ _ (zjP sp k)
 ·intro z
  have e:=zma
  rw[←z] at e
  unfold nmS at e
  rw[ziJ] at e
  cases e
section
variable{es:List D}{g:D->Bool}{m:Nat}
end
section
variable{x h t l a:D}
end
section
variable{es:List D}{g:D->Bool}{m:Nat}
theorem zar(s:Same H H')(h:H' p=none):H p=none:=by
 cases e:H p with
 |none=>rfl
 |some o=>have:=s _ _ e;rw[h] at this;cases this
end
theorem zaa(h:zf x=true):PyData.strOk x=true:=by
 unfold zf at h
 simp only[E1] at h
 have h2:=h.1.2
 unfold PyData.strOk
 rw[Array.all_eq_true']
 intro c hc
 have:=C3.mp h2 c (by simpa using hc)
 unfold zlk at this
 simp only[E1,decide_eq_true_eq] at this
 exact U0 ()
theorem zD{α:Type}[DecidableEq α]:∀{l m:List α},l.Nodup->(∀x∈l,x∈m)->l.length<=m.length
 |[],m,_,_=>X1 _
 |a::l,m,hn,hs=>by
  have ha:=hs a Q0
  have:=zD (l:=l) (m:=m.erase a) (U1.mp hn).2 λx hx=>(List.mem_erase_of_ne (λz:x=a=>(U1.mp hn).1 (by rw[←z];exact hx))).mpr (hs x (V0 _ hx))
  rw[List.length_erase_of_mem ha] at this
  have:1<=m.length:=List.length_pos_of_mem ha
  rw[Y1]
  lia
theorem zbe{b:Bool}{X:Prop}(h:b=true)(x:X):if b=true then X else Y:=by rw[c0 h];exact x
theorem zaI{b:Bool}{X:Prop}(h:b=false)(y:Y):if b=true then X else Y:=by rw[P0 (by rw[h];decide)];exact y
section
open PySem.W
theorem zeJ{r:Addr}{o:Obj}{vs:List Value}{R:List Value->Shared->Prop}(hT:T="list"\/T="tuple")(ho:s.heap.get? r=some o)(hc:o.cls= .type T)(hd:o.data= .seq vs.toArray n)(hz:vs.length<=sizeLine)
 (q:∀(h':Heap),(∀b o,s.heap.get? b=some o->h'.get? b=some o)->s.heap.objs.size<h'.objs.size->R vs {s with heap:=h'}):wpAny `Y3 A (collect (.ref r)) R E s:=by
 have lt:=W0 ho
 have hne:r≠s.heap.objs.size:=P1 lt
 have g0:(s.heap.push {cls:= .type "list",data:= .seq ([]:List Value).toArray}).get? s.heap.objs.size=some (seqObj "list" #[] 0):=T0 _ rfl
 have gr:(s.heap.push {cls:= .type "list",data:= .seq ([]:List Value).toArray}).get? r=some o:=G0 _ ho
 obtain⟨e1,g1⟩:∃e1,((s.heap.push {cls:= .type "list",data:= .seq ([]:List Value).toArray}).update s.heap.objs.size (Obj.mapSeq λx=>x ++vs.toArray)).get? s.heap.objs.size=some (seqObj "list" ((#[]:Array Value)++vs.toArray) e1):=⟨_,get?_update_seq g0 λx=>x ++vs.toArray⟩
 have u1:=K2 (s.heap.push {cls:= .type "list",data:= .seq ([]:List Value).toArray}) s.heap.objs.size (Obj.mapSeq λx=>x ++vs.toArray)
 unfold collect
 refine A0 (wpAny_runValue (codeAny_builtin entry_proto_collect' (by
  rw[Around.under_plainId F.plain_proto_collect _]
  show wpAny _ A.in1 (newList []>>=λl=>again (.builtin "list.__iadd__" ⟨[l, .ref r],[]⟩)) _ _ s
  refine A0 (j1 (F0 ⟨plainId_quiet F.plain_list_iadd _,codeAny_builtin entry_list_iadd' (by
   rw[Around.under_plainId F.plain_list_iadd _]
   show wpAny _ A.in1 (Builtin.List.listExtendWith (.ref s.heap.objs.size) (.ref r) (.ref s.heap.objs.size)) _ _ _
   unfold Builtin.List.listExtendWith
   have hty:({s with heap:=s.heap.push {cls:= .type "list",data:= .seq ([]:List Value).toArray}}:Shared).TypeIs (.ref r) T:=⟨o,gr,hc⟩
   refine A0 (wpAny_typeOf hty ?_)
   rw[c0 (by rcases hT with rfl|rfl<;>simp)]
   refine A0 (listItems_at gr hd (A0 (listItems_at g0 rfl ?_)))
   rw[P0 `j3]
   refine A0 (listUpdate_at g0 rfl ?_ (X1 _) (by show((#[]:Array Value)++vs.toArray).size<=_;simp;lia))
   refine F0 ?_
   show wpAny _ A (load s.heap.objs.size>>=_) _ _ _
   refine A0 (wpAny_load g1 (F0 ?_))
   have ev:((#[]:Array Value)++vs.toArray).toList=vs:=`j3
   show R ((#[]:Array Value)++vs.toArray).toList _
   rw[ev]
   exact q _ (λb o e=>(u1.2 b (P1 (W0 e))).trans (G0 _ e)) (W0 g1))⟩)))))
theorem zeY{o:Obj}{vs:List Value}(hT:T="list"\/T="tuple")(ho:s.heap.get? l=some o)(hc:o.cls= .type T)(hd:o.data= .seq vs.toArray n)(hS:StrsAre vs ss)(h64:vs.length<64)
 (q:∀(D:Addr) (out:Array Value) (ss':List Str) (h':Heap) (e:Nat),StrsAre out.toList ss'->ss'.Perm ss->sortedS ss'=true->(∀b o,s.heap.get? b=some o->h'.get? b=some o)->s.heap.objs.size<=D->h'.get? D=some (seqObj "list" out e)->Q (.ref D) {s with heap:=h'}):
 wpAny `Y3 A (call (.builtin "sorted") [.ref l]) Q E s:=by
 refine Calls.call_function_entry kind_sorted plain_sorted entry_sorted (args_sorted1 _) ?_
 unfold Builtin.«sorted»
 refine A0 (m:=checkCount "sorted" 1 1 _) (F0 (A0 (zeJ hT ho hc hd (by rw[K3];lia) λh1 kp gr0=>?_)))
 refine A0 (wpAny_newList ?_ (by show vs.length<=_;rw[K3];lia))
 have hD:(h1.push (seqObj "list" vs.toArray 0)).get? h1.objs.size=some (seqObj "list" vs.toArray 0):=T0 _ rfl
 have k2:∀b o,s.heap.get? b=some o->(h1.push (seqObj "list" vs.toArray 0)).get? b=some o:=λb o e=>G0 _ (kp b o e)
 have gr:s.heap.objs.size<=h1.objs.size:=A3 gr0
 show wpAny _ _ _ _ _ {s with heap:=h1.push (seqObj "list" vs.toArray 0)}
 refine A0 (O2 (G2 slot_list_sort ⟨_,hD,rfl⟩ entry_list_sort (list_sort_treeK strKind_oneLt (s:={s with heap:=h1.push (seqObj "list" vs.toArray 0)}) hD hS.keysOf (λv1 v2 rest e=>?_) h64 λst' hp hs=>?_) (args_list_sort _)))
 ·subst e
  exact keyKind_strs hS
 ·obtain ⟨ss',a1,a2,a3⟩:=sorted_out_str hS hp hs
  obtain⟨e,he⟩:=sortedHeap_at (h:=h1.push (seqObj "list" vs.toArray 0)) (vs:=vs) (out:=Array.map (λx=>x.snd) (arrOf st')) hD
  refine⟨_,rfl,F0 ⟨_,rfl,q h1.objs.size _ ss' _ e a1 a2 a3 (λb o hb=>?_) gr he⟩⟩
  have lb:=W0 hb
  rw[sortedHeap_old (P1 (A2 lb gr)) (W0 (k2 b o hb))]
  exact k2 b o hb
def zky(K:W.Frag):List V->Hp->VK->Prop:=λxs H Q=>∃(p:Addr) (ss:List Str),xs=[.ref p]/\(SqL K H p (ss.map V.str)\/SqT K H p (ss.map V.str))/\ss.length<64/\∀(ss':List Str) l,ss'.Perm ss->sortedS ss'=true->H l=none->Q (.ref l) (upd H l (.lst (ss'.map V.str)))
theorem zbu:CallR X (.builtin "sorted") (zky X.K):=by
 intro pins s σ H xs us Q I r h
 obtain⟨p,ss,rfl,hq,h64,q⟩:=h
 obtain⟨u,rfl,ru⟩:=za8 r
 cases ru
 have key:∀{its:List Value} {T:String} {o:Obj} {n:Nat},T="list"\/T="tuple"->s.heap.get? p=some o->o.cls= .type T->o.data= .seq its.toArray n->Vals (ss.map V.str) its->wpAny `W3 X.A (call (.builtin "sorted") [.ref p]) (EP X pins σ Q) X.xe s:=by
  intro its T o n hT ho hc hd rv
  have hS:=za1 rv
  have hl:=rv.length
  rw[C0] at hl
  refine zeY hT ho hc hd hS () λD out ss' h' e a1 a2 a3 kp hD he=>?_
  refine⟨.ref D,_,I.laid (a:=D) (o:= .lst (ss'.map V.str)) (t':=s.toks) kp hD ⟨?_,out.toList,e,?_,?_⟩,rfl,q ss' D a2 a3 (I.hok.fresh hD)⟩
  ·rw[C0,a2.length_eq];exact A3 (zj ())
  ·have mk:∀{vs:List Value} {zs:List Str},StrsAre vs zs->Vals (zs.map V.str) vs:=by
    intro vs zs h
    induction h with
    |nil=>exact .nil
    |cons x t _ ih=>exact .cons ⟨t,rfl⟩ ih
   exact mk a1
  ·rw[Array.toArray_toList];exact he
 rcases hq with hq|hq
 ·obtain ⟨its,rv,pl,hz⟩:=I.list hq
  obtain⟨o,ho,hc,n,hd⟩:=pl.isList
  exact key (.inl rfl) ho hc hd rv
 ·obtain ⟨its,rv,pl,hz⟩:=I.tuple hq
  obtain⟨o,ho,hc,n,hd⟩:=pl
  exact key (.inr rfl) ho hc hd rv
theorem zgj(h:X.K=K):CallR X (.builtin "sorted") (zky K):=by subst h;exact zbu
end
theorem zdc{hs:List Str}:inV (.str x) (hs.map V.str)=hs.any λy=>decide (y=x):=by
 unfold inV
 rw[List.any_map]
 congr 1
theorem zda{hs:List Str}:(hs.map V.str).all zdW=true:=by
 rw[List.all_map,C3]
 exact λ_ _=>rfl
theorem zmJ{xs:List Str}(h:Rep H v (.tup (xs.map D.str))):∃p,v= .ref p/\H p=some (.tup (xs.map V.str)):=by
 obtain⟨p,vs,rfl,hp,r,_⟩:=h.ofT
 refine⟨p,rfl,?_⟩
 have e:vs=xs.map V.str:=by
  apply List.ext_getElem?
  intro i
  rcases D1 i xs.length with hi|hi
  ·have hv:i<vs.length:=by rw[r.1,C0];exact hi
   have:=r.2 i vs[i] (.str xs[i]) (by simp[hv]) (by simp[hi])
   rw[D0 hv,N0,D0 hi]
   generalize vs[i]=z at this
   cases this
   rfl
  ·rw[I0 (by rw[r.1,C0];exact hi),I0 (by rw[C0];exact hi)]
 rw[←e];exact hp
theorem ztK{d1 d2 d3 d4 d5:D}(h:Rep H v (.tup [d1,d2,d3,d4,d5])):∃p x1 x2 x3 x4 x5,v= .ref p/\H p=some (.tup [x1,x2,x3,x4,x5])/\Rep H x1 d1/\Rep H x2 d2/\Rep H x3 d3/\Rep H x4 d4/\Rep H x5 d5:=by
 obtain⟨p,vs,rfl,hp,r,_⟩:=h.ofT
 match vs,r with
 |[x1,x2,x3,x4,x5],r=>exact ⟨p,x1,x2,x3,x4,x5,rfl,hp,r.head.1,r.head.2.head.1,r.head.2.head.2.head.1,r.head.2.head.2.head.2.head.1,r.head.2.head.2.head.2.head.2.head.1⟩
 |[],r=>exact absurd r.1 `j3
 |[_],r=>exact absurd r.1 `j3
 |[_,_],r=>exact absurd r.1 `j3
 |[_,_,_],r=>exact absurd r.1 `j3
 |[_,_,_,_],r=>exact absurd r.1 `j3
 |_::_::_::_::_::_::_,r=>exact absurd r.1 `j3
def zrE(H:Hp)(v:V)(g:Str)(hs:List Str)(ps:List (Str×Str))(lks hds:List D):Prop:=∃p pr pt pl pa vt vl va,v= .ref p/\H p=some (.tup [.str g, .ref pr, .ref pt, .ref pl, .ref pa])/\H pr=some (.tup (hs.map V.str))/\H pt=some (.tup vt)/\RepL H vt (ps.map pairD)/\H pl=some (.tup vl)/\RepL H vl lks/\H pa=some (.tup va)/\RepL H va hds
theorem zea{hs:List Str}(h:Rep H v (zbR g hs ps lks hds)):zrE H v g hs ps lks hds:=by
 obtain⟨p,x1,x2,x3,x4,x5,rfl,hp,r1,r2,r3,r4,r5⟩:=ztK h
 cases r1 with|str _ _=>
 obtain⟨pr,rfl,hpr⟩:=zmJ r2
 obtain⟨pt,vt,rfl,hpt,rt,_⟩:=r3.ofT
 obtain⟨pl,vl,rfl,hpl,rl,_⟩:=r4.ofT
 obtain⟨pa,va,rfl,hpa,ra,_⟩:=r5.ofT
 exact⟨p,pr,pt,pl,pa,vt,vl,va,rfl,hp,hpr,hpt,rt,hpl,rl,hpa,ra⟩
noncomputable def zb2(ps:List (Str×Str))(x:Str):List Str:=(ps.filter λp=>decide (p.2=x)).map (·.1)++(ps.filter λp=>decide (p.1=x)).map (·.2)
theorem zbH:y∈zb2 ps x↔(y,x)∈ps\/(x,y)∈ps:=by
 unfold zb2
 rw[F1,X0,X0]
 constructor
 ·rintro (⟨⟨a,b⟩,h,rfl⟩|⟨⟨a,b⟩,h,rfl⟩)
  ·obtain ⟨h1,h2⟩:=J1.mp h
   have h2:b=x:=Y0 h2
   subst h2
   exact .inl h1
  ·obtain ⟨h1,h2⟩:=J1.mp h
   have h2:a=x:=Y0 h2
   subst h2
   exact .inr h1
 ·rintro (h|h)
  ·exact .inl ⟨(y,x),J1.mpr ⟨h,U0 rfl⟩,rfl⟩
  ·exact .inr ⟨(x,y),J1.mpr ⟨h,U0 rfl⟩,rfl⟩
theorem TownOk.ps_nd{hs:List Str}(T:TownOk g hs ps lks hds):ps.Nodup:=T.riseP.imp λ{a b} h z=>by rw[z,zpQ] at h;cases h
theorem TownOk.hs_nd{hs:List Str}(T:TownOk g hs ps lks hds):hs.Nodup:=T.rise.imp λ{a b} h z=>by rw[z,zcn] at h;cases h
theorem zhg{hs:List Str}(T:TownOk g hs ps lks hds)(x:Str):(zb2 ps x).Nodup:=by
 have nd:=T.ps_nd
 unfold zb2
 rw[X2]
 refine⟨?_,?_,?_⟩
 ·rw[List.nodup_iff_pairwise_ne,V2]
  refine List.Pairwise.imp_of_mem (λ{a b} ha hb hab z=>?_) (nd.filter _)
  have h1:a.2=x:=Y0 (J1.mp ha).2
  have h2:b.2=x:=Y0 (J1.mp hb).2
  exact hab (Prod.ext z (h1.trans h2.symm))
 ·rw[List.nodup_iff_pairwise_ne,V2]
  refine List.Pairwise.imp_of_mem (λ{a b} ha hb hab z=>?_) (nd.filter _)
  have h1:a.1=x:=Y0 (J1.mp ha).2
  have h2:b.1=x:=Y0 (J1.mp hb).2
  exact hab (Prod.ext (h1.trans h2.symm) z)
 ·intro y hy z hz e
  subst e
  obtain⟨a,ha,rfl⟩:=X0.mp hy
  obtain⟨b,hb,eb⟩:=X0.mp hz
  obtain⟨ha1,ha2⟩:=J1.mp ha
  obtain⟨hb1,hb2⟩:=J1.mp hb
  have h1:a.2=x:=Y0 ha2
  have h2:b.1=x:=Y0 hb2
  have l1:=(T.ties a ha1).2.2
  have l2:=(T.ties b hb1).2.2
  rw[h1] at l1
  rw[h2,eb] at l2
  have:=zaU l1
  rw[l2] at this
  cases this
theorem zqo{hs:List Str}(T:TownOk g hs ps lks hds)(h:y∈zb2 ps x):y∈hs:=by
 rcases zbH.mp h with h|h
 ·exact (T.ties _ h).1
 ·exact (T.ties _ h).2.1
theorem znD{hs:List Str}(T:TownOk g hs ps lks hds)(x:Str):(zb2 ps x).length<=10:=B2 (zD (zhg T x) λy hy=>zqo T hy) T.ten
structure WayOk(g:Str)(hs:List Str)(ps:List (Str×Str))(ws:List Str):Prop where
 nd:ws.Nodup
 mem:∀x∈ws,x∈hs
 last:∃w0,ws=w0 ++ [g]
 tied:∀(i:Nat) (a b:Str),ws[i]?=some a->ws[i+1]?=some b->b∈zb2 ps a
theorem zib{sel:Str×Str->Bool}{f:Str×Str->Str}{ok:Hp->Prop}{g:TG}{src:List (Option Nat)}{Q:VK}(Iv:St->Prop)(wk:Wk J vs.length (λi x=>vs[i]?=some x) ok)(hok:∀H',Same H H'->ok H')(r:RepL H vs (ps.map pairD))(hl:ps.length<=900)(h0:Iv (zdk src σ))
 (hs:∀(q:Addr) (p:Str×Str) (σ':St) (H1:Hp) (A:V->Hp->St->Prop) (B:St->Hp->Prop),Iv σ'->Same H H1->H1 q=some (.tup [.str p.1, .str p.2])->p∈ps->(∀σ2,Iv σ2->if sel p=true then A (.str (f p)) H1 σ2 else B σ2 H1)->g (.ref q) σ' H1 λσ2 H3=>tc σ2 H3 λb H4=>if b=true then te σ2 H4 (λy H5=>A y H5 σ2)else B σ2 H4)
 (q:∀l H',Same H H'->H l=none->H' l=some (.lst (((ps.filter sel).map f).map V.str))->Q (.ref l) H'):zfE g tc te src σ Q J H:=by
 refine za3 wk (λl i ys σ' H'=>Iv σ'/\ys=(((ps.take i).filter sel).map f).map V.str/\Same H H') ?_ ?_ ?_ ?_
 ·exact λl h'=>⟨h0,rfl,Same.new h'⟩
 ·exact λl i ys σ' H' _ p=>hok H' p.2.2
 ·rintro l i y ys σ' H1 h' hi hy ⟨iv,rfl,s1⟩ hl'
  obtain⟨d,hd,rd⟩:=r.get hy
  rw[N0] at hd
  cases hp:ps[i]? with
  |none=>rw[hp] at hd;cases hd
  |some p=>
   rw[hp] at hd
   cases hd
   obtain⟨q,x,y,rfl,hq,r1,r2⟩:=(rd.same s1).of2
   cases r1 with|str _ _=>
   cases r2 with|str _ _=>
   refine hs q p σ' H1 (λy H5 σ2=>H5 l=some (.lst ((((ps.take i).filter sel).map f).map V.str))/\((((ps.take i).filter sel).map f).map V.str).length<sizeLine/\Iv σ2/\(((ps.take i).filter sel).map f).map V.str ++ [y]=(((ps.take (i+1)).filter sel).map f).map V.str/\Same H (upd H5 l (.lst ((((ps.take i).filter sel).map f).map V.str ++ [y])))) (λσ2 H4=>H4 l=some (.lst ((((ps.take i).filter sel).map f).map V.str))/\Iv σ2/\(((ps.take i).filter sel).map f).map V.str=(((ps.take (i+1)).filter sel).map f).map V.str/\Same H H4) iv s1 hq (B1 hp) λσ2 iv2=>?_
   have tk:((ps.take (i+1)).filter sel)=((ps.take i).filter sel)++ [p].filter sel:=by rw[D2,hp,List.filter_append];rfl
   cases hsel:sel p with
   |false=>
    refine zaI rfl ⟨hl',iv2,?_,s1⟩
    rw[tk]
    simp[hsel]
   |true=>
    refine zbe rfl ⟨hl',?_,iv2,?_,?_⟩
    ·rw[C0,C0]
     have h2:=List.length_filter_le sel (ps.take i)
     rw[C2] at h2
     exact zj ()
    ·rw[tk]
     simp[hsel]
    ·exact λc o e=>by
      rw[zc (zi e h')]
      exact s1 _ _ e
 ·rintro l ys σ' H1 h' ⟨iv,rfl,s1⟩ hl'
  have e:ps.length=vs.length:=by rw[r.1,C0]
  rw[←e,P2] at hl'
  exact q l H1 s1 h' hl'
theorem zgE{us:List V}{xs:List Str}(r:RepL H us (xs.map D.str)):us=xs.map V.str:=by
 apply List.ext_getElem?
 intro i
 rcases D1 i xs.length with hi|hi
 ·have hv:i<us.length:=by rw[r.1,C0];exact hi
  have:=r.2 i us[i] (.str xs[i]) (by simp[hv]) (by simp[hi])
  rw[D0 hv,N0,D0 hi]
  generalize us[i]=z at this
  cases this
  rfl
 ·rw[I0 (by rw[r.1,C0];exact hi),I0 (by rw[C0];exact hi)]
noncomputable def zt(xs:List Str):List PyData:=xs.map PyData.str
theorem zkk{xs:List Str}(e:H l=some (.lst (xs.map V.str)))(h:∀x∈xs,PyData.strOk x=true):Tr H (.ref l) (.list (zt xs)):=by
 refine .lst e (by unfold zt;rw[C0,C0]) λi v d e1 e2=>?_
 unfold zt at e2
 rw[N0] at e1 e2
 cases e3:xs[i]? with
 |none=>rw[e3] at e1;cases e1
 |some x=>
  rw[e3] at e1 e2
  cases e1
  cases e2
  exact .str x (h x (B1 e3))
section
variable{es:List D}
end
section
variable{es:List D}
end
theorem zff:∀{l m:List Str},l.Pairwise (λa b=>ltS a b=true)->m.Pairwise (λa b=>ltS a b=true)->(∀x,x∈l↔x∈m)->l=m
 |[],[],_,_,_=>rfl
 |[],b::m,_,_,h=>absurd ((h b).mpr Q0) List.not_mem_nil
 |a::l,[],_,_,h=>absurd ((h a).mp Q0) List.not_mem_nil
 |a::l,b::m,p,q,h=>by
  obtain⟨p1,p2⟩:=List.pairwise_cons.mp p
  obtain⟨q1,q2⟩:=List.pairwise_cons.mp q
  have e:a=b:=by
   rcases R0.mp ((h a).mp Q0)with z|z
   ·exact z
   rcases R0.mp ((h b).mpr Q0)with y|y
   ·exact y.symm
   have:=zaU (q1 a z)
   rw[p1 b y] at this;cases this
  subst e
  rw[zff p2 q2 λx=>⟨λhx=>?_,λhx=>?_⟩]
  ·rcases R0.mp ((h x).mp (V0 _ hx))with rfl|z
   ·have:=p1 x hx;rw[zcn] at this;cases this
   ·exact z
  ·rcases R0.mp ((h x).mpr (V0 _ hx))with rfl|z
   ·have:=q1 x hx;rw[zcn] at this;cases this
   ·exact z
theorem zcF:∀{xs ys:List Str},PyData.eqvAll (zt xs) (zt ys)=decide (xs=ys)
 |[],[]=>by unfold zt;rw[List.map_nil,PyData.eqvAll];rfl
 |[],y::ys=>by unfold zt;rw[List.map_nil,V1,PyData.eqvAll];rfl
 |x::xs,[]=>by unfold zt;rw[List.map_nil,V1,PyData.eqvAll];rfl
 |x::xs,y::ys=>by
  have ih:=zcF (xs:=xs) (ys:=ys)
  unfold zt at ih⊢
  rw[V1,V1,PyData.eqvAll,PyData.eqv,ih,Bool.eq_iff_iff,B3,List.cons.injEq]
  simp
theorem zmP{xs ys:List Str}:(PyData.list (zt xs)).eqv (.list (zt ys))=decide (xs=ys):=by
 rw[PyData.eqv,zcF]
theorem zbZ:∀{xs:List Str},PyData.depthAll (zt xs)<=1
 |[]=>by unfold zt;rw[List.map_nil,PyData.depthAll];decide
 |x::xs=>by
  have ih:=zbZ (xs:=xs)
  unfold zt at ih⊢
  rw[V1,PyData.depthAll,PyData.depth]
  lia
theorem zjz{xs:List Str}:(PyData.list (zt xs)).depth<=60:=by
 have:=zbZ (xs:=xs)
 rw[PyData.depth]
 lia
structure FunD(K:W.Frag)(x qual:Str)(st:Stmt)(f:Addr)(fd:FuncData):Prop where
 ex:∃(oc:Value) (od:Option Addr) (dt:Addr) (kV doc pm:Value) (an:Option Addr) (cdv ct:Value) (osl:Array (Option Value)) (od2:Option Addr) (n2:Nat) (sl2:Array (Option Value)),
  fd=W.fnOf x qual (zY st) (zL st) (ze st) (.ref dt) kV doc pm an cdv ct/\K.lookup f=some ⟨oc,od, .func fd,osl⟩/\W.codeIn K cdv qual=true/\K.lookup dt=some ⟨.type "tuple",od2, .seq #[.none] n2,sl2⟩
 kp:W.keepIn K (.ref f)=true
section
variable{mg:Str->Option Value}
theorem FunD.okQ{st:Stmt}{ps:List Str}(F:FunD K x qual st f fd)(S:FnScope N ps (ze st))(len:∀vs H Q E,sp vs H Q E->vs.length=ps.length)
 (hbody:∀(cdv:Value) (A:Around) (outer:List Env) (s:Shared) (H:Hp) (vs:List V) (Q:VK) (E:XK),Room k (A.deeper (envOfC qual (ze st) s.heap.objs.size f cdv))->sp vs H Q E->
   ∃t,QB (zgg CX0 P w K mg base N qual (ze st) f cdv A outer s H E).nox (zL st) t/\t {nx:=λ_ H'=>Q .non H',rt:=Q} (start N vs) H):FnOk P w K mg base CX0 (k+1) f fd ps sp:=by
 obtain⟨oc,od,dt,kV,doc,pm,an,cdv,ct,osl,od2,n2,sl2,rfl,lk,hcd,ld⟩:=F.ex
 refine znH lk hcd S len λA outer s H vs Q E hr hsp=>?_
 obtain⟨t,h,q⟩:=hbody cdv A outer s H vs Q E hr hsp
 exact⟨t,h.o.nox,q⟩
theorem zhr{st:Stmt}{dt:Addr}{od2:Option Addr}{sl2:Array (Option Value)}{n2:Nat}{kV:Value}(l:K.lookup f=some ⟨oc,od, .func (W.fnOf x qual (zY st) (zL st) (ze st) (.ref dt) kV doc pm an cdv ct),osl⟩)
 (ld:K.lookup dt=some ⟨.type "tuple",od2, .seq #[.none] n2,sl2⟩) (c:W.codeIn K cdv qual=true) (k:W.keepIn K (.ref f)=true):FunD K x qual st f (W.fnOf x qual (zY st) (zL st) (ze st) (.ref dt) kV doc pm an cdv ct):=⟨⟨oc,od,dt,kV,doc,pm,an,cdv,ct,osl,od2,n2,sl2,rfl,l,c,ld⟩,k⟩
theorem FunD.binds{st:Stmt}{ps:List Str}{ds:List Value}(F:FunD K x qual st f fd)(m:Nat)(hm:ps.length=m+ds.length)
 (h:∀(dt:Addr) (kV doc pm:Value) (an:Option Addr) (cdv ct:Value) (us:List Value),us.length=m->∃k:Option (Array Value)->Sem (List (Str×Value)),bindArgs (W.fnOf x qual (zY st) (zL st) (ze st) (.ref dt) kV doc pm an cdv ct) ⟨us,[]⟩=seqItems? (.ref dt)>>=k/\k (some #[.none])=pure (ps.zip (us ++ds))):Binds K fd ps ds:=by
 obtain⟨oc,od,dt,kV,doc,pm,an,cdv,ct,osl,od2,n2,sl2,rfl,lk,hcd,ld⟩:=F.ex
 intro s us kin hl
 obtain⟨k,e1,e2⟩:=h dt kV doc pm an cdv ct us (by rw[Z0] at hl;lia)
 exact BindsTo.of_defaults (T:=dt) rfl (kin _ _ ld) rfl e1 e2
end
structure AtD(K:W.Frag)(mg:Str->Option Value)(x:Str)(st:Stmt)(ps:List Str)(f:Addr)(fd:FuncData):Prop where
 fn:FunD K x x st f fd
 b:Binds K fd ps []
 bd:Binds K fd ps [.none]
 mg:mg x=some (.ref f)
 kp:W.keepIn K (.ref f)=true
variable{mg:Str->Option Value}
noncomputable def zbt(O:List Str):D->Bool| .tup [_, .str x]=>decide (x∈O)|_=>true
noncomputable def zeB(O:List Str):D->Bool| .tup [.str w,e]=>if w="not"then zbt O e else zbt O (.tup [.str w,e])|_=>true
noncomputable def zpT(O:List Str):D->Bool| .tup ds=>ds.all (zeB O)|_=>true
noncomputable def zfy(O:List Str):D->Bool| .tup [c,t]=>zpT O c&&zbt O t|_=>true
noncomputable def zhR(O:List Str):D->Bool| .tup ds=>ds.all (zfy O)|_=>true
structure Pool(hs:List Str)(lks hds:List D)(O:List Str):Prop where
 few:O.length<=14
 nm:∀x∈O,zf x=true
 hs:∀x∈hs,x∈O
 lk:∀d∈lks,zhR O d=true
 hd:∀d∈hds,zhR O d=true
variable{hs:List Str}
theorem zcG{y:D}(h:x∈O):zbt O (.tup [y, .str x])=true:=U0 h
theorem zcv{w:Str}{e:D}(h:zG (.tup [.str w,e])=true)(hp:zbt O (.tup [.str w,e])=true):zeB O (.tup [.str w,e])=true:=by
 show(if w="not"then _ else _)=true
 by_cases z:w="not"
 ·subst z;rw[zgs] at h;cases h
 ·rw[P0 z];exact hp
theorem zgS{t:D}(h:∀d∈ds,zeB O d=true)(ht:zbt O t=true):zfy O (.tup [.tup ds,t])=true:=by
 show(ds.all (zeB O)&&zbt O t)=true
 rw[C3.mpr h,ht];rfl
theorem zfO{P:Program}{w:World}:∀{es:List DictEntry} {kvs:List (Key×Value)},Pairs (zU P w) es kvs->Vals (kvs.map λkv=>kV kv.1) (es.map (·.key))
 |_,_, .nil=> .nil
 |_,_, .cons (e:=e) (kv:=kv) h1 h2 h3=>by
  refine .cons ?_ (zfO h3)
  have h1:zfG kv.1 e.key=true:=h1
  rcases zP h1 with⟨i,t,a,b⟩|⟨x,t,a,b⟩
  ·show RelV (kV kv.1) e.key
   rw[a,b];exact⟨t,rfl⟩
  ·show RelV (kV kv.1) e.key
   rw[a,b];exact⟨t,rfl⟩
theorem zhd:∀{kvs:List (Key×V)} {vs:List (Key×Value)},KV kvs vs->kvs.map (·.1)=vs.map (·.1)
 |_,_, .nil=>rfl
 |_,_, .cons h t=>by rw[V1,V1,h.1,zhd t]
noncomputable def phB(ws ms:List Str)(to:Option Str)(w:Str)(x:D):Bool:=
 if w="by"then (match x with| .str y=>ws.any λz=>decide (z=y)|_=>false)
 else if w="from"then (match x with| .str y=>decide (ws[1]?=some y)|_=>false)
 else if w="to"then (match x with| .str y=>decide (to=some y)|_=>false)
 else if w="mark"then (match x with| .str y=>ms.any λz=>decide (z=y)|_=>false)
 else(match x with| .int i=>decide (i<(ws.length:Int))|_=>false)
noncomputable def zem(ws ms:List Str)(to:Option Str):D->Bool| .tup [.str w,x]=>phB ws ms to w x|_=>false
noncomputable def zbj(ws ms:List Str)(to:Option Str):D->Bool| .tup [.str w,x]=>if w="not"then !zem ws ms to x else phB ws ms to w x|_=>false
def TO0(v:V)(to:Option Str):Prop:=(v= .non/\to=none)\/∃x,v= .str x/\to=some x/\zf x=true
theorem zbf{e:D}(h:zG (.tup [.str x,e])=true):(x="long"/\∃i:Int,e= .int i/\0<=i/\i<=99)\/(x∈zbN/\∃y,e= .str y/\zf y=true):=by
 rw[zfP] at h
 by_cases z:x="long"
 ·rw[c0 z] at h
  cases e with
  |int i=>
   have h:(decide (0<=i)&&decide (i<=99))=true:=h
   rw[E1,B3,B3] at h
   exact .inl ⟨z,i,rfl,h.1,h.2⟩
  |_=>cases h
 ·rw[P0 z,E1] at h
  obtain⟨h1,h2⟩:=h
  obtain⟨y,hy,ey⟩:=List.any_eq_true.mp h1
  have ey:y=x:=Y0 ey
  subst ey
  cases e with
  |str y'=>exact .inr ⟨hy,y',rfl,h2⟩
  |_=>cases h2
theorem zh3(h:x∈zbN):x="by"\/x="from"\/x="to"\/x="mark":=by
 unfold zbN at h
 simpa using h
theorem zts{to:Option Str}:phB ws ms to "by" (.str y)=ws.any λz=>decide (z=y):=by
 unfold phB;rw[c0 rfl]
theorem zp7{to:Option Str}:phB ws ms to "from" (.str y)=decide (ws[1]?=some y):=by
 unfold phB;rw[P0 `Z3,c0 rfl]
theorem zsV{to:Option Str}:phB ws ms to "to" (.str y)=decide (to=some y):=by
 unfold phB;rw[P0 `Z3,P0 `Z3,c0 rfl]
theorem zpM{to:Option Str}:phB ws ms to "mark" (.str y)=ms.any λz=>decide (z=y):=by
 unfold phB;rw[P0 `Z3,P0 `Z3,P0 `Z3,c0 rfl]
theorem zp3{to:Option Str}{i:Int}:phB ws ms to "long" (.int i)=decide (i<(ws.length:Int)):=by
 unfold phB;rw[P0 `Z3,P0 `Z3,P0 `Z3,P0 `Z3]
theorem TO0.eq{to:Option Str}(h:TO0 v to):zrI v (.str y)=true/\decide (v= .str y)=decide (to=some y):=by
 rcases h with⟨rfl,rfl⟩|⟨x,rfl,rfl,_⟩
 ·exact ⟨rfl,rfl⟩
 ·refine ⟨rfl,?_⟩
  rw[zbi,Bool.eq_iff_iff,B3,B3,Option.some.injEq]
theorem zbX{xs:List Str}(e:H p=some (.tup (xs.map V.str)))(h:∀x∈xs,PyData.strOk x=true):Tr H (.ref p) (.tuple (zt xs)):=by
 refine .tup e (by unfold zt;rw[C0,C0]) λi v d e1 e2=>?_
 unfold zt at e2
 rw[N0] at e1 e2
 cases e3:xs[i]? with
 |none=>rw[e3] at e1;cases e1
 |some x=>
  rw[e3] at e1 e2
  cases e1
  cases e2
  exact .str x (h x (B1 e3))
theorem zbw{xs ys:List Str}:(PyData.tuple (zt xs)).eqv (.tuple (zt ys))=decide (xs=ys):=by
 rw[PyData.eqv,zcF]
theorem zbh{xs:List Str}:(PyData.tuple (zt xs)).depth<=60:=by
 have:=zbZ (xs:=xs)
 rw[PyData.depth]
 lia
noncomputable def zel(c:D->Bool)(g:List Str->List Str->Option Str->D->Bool):Sp:=λvs H Q _=>∃(v:V) (d:D) (pw pm:Addr) (vt:V) (ws ms:List Str) (to:Option Str),vs=[v, .ref pw, .ref pm,vt]/\Rep H v d/\c d=true/\H pw=some (.tup (ws.map V.str))/\H pm=some (.tup (ms.map V.str))/\TO0 vt to/\(∀x∈ws,zf x=true)/\(∀x∈ms,zf x=true)/\1<=ws.length/\ws.length<=100/\ms.length<=100/\∀H',Same H H'->Q (.bl (g ws ms to d)) H'
theorem zi8{c:D}(h:zai c=true):∃cs,c= .tup cs/\cs.length<=4/\∀d∈cs,zO d=true:=by
 cases c with
 |tup cs=>
  rw[zov,E1] at h
  exact⟨cs,rfl,Y0 h.1,C3.mp h.2⟩
 |_=>cases h
theorem zmy{f:D->D->Bool}(h:(match d with| .tup [c,x]=>f c x|_=>false)=true):∃c x,d= .tup [c,x]/\f c x=true:=by
 split at h
 ·exact ⟨_,_,rfl,h⟩
 ·cases h
theorem zgT(h:zZ d=true):∃cs x,d= .tup [.tup cs,x]/\cs.length<=4/\(∀c∈cs,zO c=true)/\(x= .non\/∃i,x= .int i):=by
 unfold zZ at h
 obtain⟨c,x,rfl,h⟩:=zmy (f:=λc x=>zai c&&zdS x&&!zhQ c) h
 rw[E1,E1] at h
 obtain⟨cs,rfl,h4,hc⟩:=zi8 h.1.1
 refine⟨cs,x,rfl,h4,hc,?_⟩
 have hx:=h.1.2
 cases x with
 |non=>exact .inl rfl
 |int i=>exact .inr ⟨i,rfl⟩
 |_=>cases hx
theorem zsl{x:D}(h:zeD x=true):(x= .tup [.str "keep"])\/∃w y,x= .tup [.str w, .str y]/\(w="put"\/w="strike")/\zf y=true:=by
 unfold zeD at h
 split at h
 ·rename_i w
  exact .inl (by rw[Y0 h])
 ·rename_i w y
  rw[E1,Bool.or_eq_true] at h
  have h2:=h.2
  cases y with
  |str y=>exact .inr ⟨w,y,rfl,h.1.imp Y0 Y0,h2⟩
  |_=>cases h2
 ·cases h
theorem zpj(h:zcj d=true):∃cs x,d= .tup [.tup cs,x]/\cs.length<=4/\(∀c∈cs,zO c=true)/\zeD x=true:=by
 unfold zcj at h
 obtain⟨c,x,rfl,h⟩:=zmy (f:=λc x=>zai c&&zeD x) h
 rw[E1] at h
 obtain⟨cs,rfl,h4,hc⟩:=zi8 h.1
 exact⟨cs,x,rfl,h4,hc,h.2⟩
theorem zlV{cs:List D}{t:D}(h:zfy O (.tup [.tup cs,t])=true):(∀c∈cs,zeB O c=true)/\zbt O t=true:=by
 have h:(cs.all (zeB O)&&zbt O t)=true:=h
 rw[E1] at h
 exact⟨C3.mp h.1,h.2⟩
section
variable{es:List D}
end
theorem zdP(hy:y∈zbN)(nx:zf x=true):zG (.tup [.str y, .str x])=true:=by
 have h1:¬y="long":=by
  intro z
  subst z
  revert hy
  decide +kernel
 have h2:(zbN.any λz=>decide (z=y))=true:=List.any_eq_true.mpr ⟨y,hy,U0 rfl⟩
 rw[zfP,P0 h1,h2,zoi,nx];rfl
theorem zeM:∀{vs:List Value} {ys:List Str},StrsAre vs ys->vs.length=ys.length/\∀(i:Nat) (y:Str),ys[i]?=some y->∃t,vs[i]?=some (.str y t)
 |_,_, .nil=>⟨rfl,λi y h=>by simp at h⟩
 |_,_, .cons y t r=>by
  obtain⟨h1,h2⟩:=zeM r
  refine⟨by simp[h1],λi z h=>?_⟩
  cases i with
  |zero=>cases h;exact⟨t,rfl⟩
  |succ i=>exact h2 i z h
theorem index_tup{t:Addr}{ys:List Str}(ht:IsTup s.heap t items)(hS:StrsAre items.toList ys)(hj:ys[j]?=some x)(hb:∀i<j,ys[i]?≠some x)
 (h:∀(t':Tok) (k:Nat),Q (.int j t') {s with toks:=k}):wpAny `Y3 A (call (.builtin "tuple.index") [.ref t, .str x tk]) Q E s:=by
 refine G2 F.slot_tuple_index ht.typeIs F.entry_tuple_index ?_ (F.args_tuple_index_2 _ _)
 unfold Builtin.«tuple.index»
 refine A0 (m:=selfAndSome "tuple.index" "index" 1 3 _) (F0 ?_)
 dsimp only
 refine A0 (tupleItemsOf_ ht ?_)
 refine A0 (F0 ?_)
 refine A0 (F0 ?_)
 obtain⟨hl,hg⟩:=zeM hS
 have hjn:j<items.size:=by
  rw[←C1,hl]
  rcases D1 j ys.length with z|z
  ·exact z
  ·rw[I0 z] at hj;cases hj
 rw[Std.Legacy.Range.forIn_eq_forIn_range']
 refine A0 (wpAny_forIn_list _ (λl b s'=>∃i,l=List.range' i (items.size -i) 1/\i<=j/\b=(none,Unit.unit)/\s'=s) _ ?_ ?_ _ _ ?_)
 ·rintro a rest b s' ⟨i,el,hij,rfl,rfl⟩
  obtain⟨m,em⟩:∃m,items.size -i=m+1:=⟨items.size -i -1,()⟩
  rw[em,List.range'_succ] at el
  have ea:=(List.cons.inj el).1
  have er:=(List.cons.inj el).2
  subst er
  rw[ea]
  have hiy:i<ys.length:=by rw[←hl,C1];lia
  obtain⟨t1,e1⟩:=hg i ys[i] (by simp[hiy])
  have e2:items[i]?=some (.str ys[i] t1):=by rw[←Array.getElem?_toList];exact e1
  rw[e2]
  dsimp only
  refine A0 (wpAny_eqBool_str ?_)
  rcases D1 i j with z|z
  ·have ne:¬ys[i]=x:=λy=>hb i z (by rw[←y];simp[hiy])
   rw[A1 ne]
   exact F0 ⟨i+1,by rw[show items.size -(i+1)=m by lia],(),rfl,rfl⟩
  ·have ei:i=j:=()
   subst ei
   have ey:ys[i]=x:=by
    have:ys[i]?=some ys[i]:=by simp[hiy]
    rw[this] at hj;exact o0 hj
   rw[U0 ey]
   refine A0 (m:=retInt _) (A0 (wpAny_mkInt (F0 (F0 ?_))))
   exact F0 ⟨_,rfl,h _ _⟩
 ·rintro b s' ⟨i,el,hij,rfl,rfl⟩
  have:=congrArg List.length el
  rw[List.length_range',List.length_nil] at this
  lia
 ·exact ⟨0,by simp[Std.Legacy.Range.size],X1 _,rfl,rfl⟩
def zpJ(K:W.Frag):V->List V->Hp->VK->Prop:=λx vs H Q=>∃(p:Addr) (ys:List Str) (y:Str) (j:Nat),x= .ref p/\vs=[.str y]/\SqT K H p (ys.map V.str)/\ys[j]?=some y/\(∀i<j,ys[i]?≠some y)/\Q (.int (j:Int)) H
theorem zgU:MtR X "tuple.index" (zpJ X.K):=by
 intro pins s σ H x xs v us Q I rx rs h
 obtain⟨p,ys,y,j,rfl,rfl,hq,hj,hb,q⟩:=h
 cases rx
 obtain⟨u,rfl,ru⟩:=za8 rs
 obtain⟨t,rfl⟩:=ru
 obtain⟨its,rv,pl,hz⟩:=I.tuple hq
 exact index_tup pl (by simpa using za1 rv) hj hb λt' k=>⟨.int _,H,I.tok _,⟨_,rfl⟩,q⟩
theorem zmS(nd:hs.Nodup)(h1:hs[i]?=some x)(h2:hs[j]?=some x):i=j:=by
 have lt:∀{k:Nat},hs[k]?=some x->k<hs.length:=λ{k} z=>by
  rcases D1 k hs.length with y|y
  ·exact y
  ·rw[I0 y] at z;cases z
 have l1:=lt h1
 have l2:=lt h2
 rw[D0 l1] at h1
 rw[D0 l2] at h2
 have e:hs[i]=hs[j]:=(o0 h1).trans (o0 h2).symm
 have pw:=List.pairwise_iff_getElem.mp nd
 rcases Nat.lt_trichotomy i j with z|z|z
 ·exact absurd e (pw i j l1 l2 z)
 ·exact z
 ·exact absurd e.symm (pw j i l2 l1 z)
theorem ziW(nd:hs.Nodup)(h:hs[j]?=some x):∀i<j,hs[i]?≠some x:=λi hi z=>by
 have:=zmS nd z h
 lia
noncomputable def zcN(ws ms:List Str)(to:Option Str)(cs:List D):Bool:=cs.all (zbj ws ms to)
noncomputable def zdn:D->List D| .tup [.tup cs,_]=>cs|_=> []
noncomputable def zms:D->D| .tup [_,t]=>t|_=> .non
noncomputable def zI(ws ms:List Str):List D->D
 |[]=> .int 0
 |r::rs=>if zcN ws ms none (zdn r)=true then zms r else zI ws ms rs
noncomputable def zke:Sp:=λvs H Q _=>∃(v:V) (cs:List D) (pw pm:Addr) (vt:V) (ws ms:List Str) (to:Option Str),vs=[v, .ref pw, .ref pm,vt]/\Rep H v (.tup cs)/\(∀c∈cs,zO c=true)/\H pw=some (.tup (ws.map V.str))/\H pm=some (.tup (ms.map V.str))/\TO0 vt to/\(∀x∈ws,zf x=true)/\(∀x∈ms,zf x=true)/\1<=ws.length/\ws.length<=100/\ms.length<=100/\∀H',Same H H'->Q (.bl (zcN ws ms to cs)) H'
noncomputable def ztp:Sp:=λvs H Q _=>∃(v:V) (x:Str) (g:Str) (hs:List Str) (ps:List (Str×Str)) (lks hds:List D) (j:Nat),vs=[v, .str x]/\Rep H v (zbR g hs ps lks hds)/\TownOk g hs ps lks hds/\hs[j]?=some x/\∀(vr:V) (d:D),lks[j]?=some d->Rep H vr d->Q vr H
noncomputable def zg1:Sp:=λvs H Q _=>∃(v:V) (pw pm:Addr) (x:Str) (ws ms:List Str) (g:Str) (hs:List Str) (ps:List (Str×Str)) (lks hds:List D) (j:Nat) (rs:List D),vs=[v, .ref pw, .ref pm]/\Rep H v (zbR g hs ps lks hds)/\TownOk g hs ps lks hds/\hs[j]?=some x/\lks[j]?=some (.tup rs)/\H pw=some (.tup ((x::ws).map V.str))/\H pm=some (.tup (ms.map V.str))/\(∀y∈x::ws,zf y=true)/\(∀y∈ms,zf y=true)/\ws.length<=90/\ms.length<=100/\∀(u:V) (H':Hp),Rep H' u (zI (x::ws) ms rs)->Same H H'->Q u H'
theorem zk3{rs:List α}{d:α}(h:rs[i]?=some d):rs.drop i=d::rs.drop (i+1):=by
 have hi:i<rs.length:=by
  rcases D1 i rs.length with y|y
  ·exact y
  ·rw[I0 y] at h;cases h
 rw[List.drop_eq_getElem_cons hi]
 rw[D0 hi] at h
 rw[o0 h]
mutual
noncomputable def okD:D->Bool
 | .str x=>PyData.strOk x
 | .tup ds=>okL ds
 | .oth=>false
 | .non=>true
 | .bl _=>true
 | .int _=>true
noncomputable def okL:List D->Bool
 |[]=>true
 |d::ds=>okD d&&okL ds
end
mutual
noncomputable def pyD:D->PyData
 | .non=> .none
 | .bl b=> .bool b
 | .int i=> .int i
 | .str x=> .str x
 | .tup ds=> .tuple (pyL ds)
 | .oth=> .none
noncomputable def pyL:List D->List PyData
 |[]=> []
 |d::ds=>pyD d::pyL ds
end
theorem zdb:∀{ds:List D},pyL ds=ds.map pyD
 |[]=>by rw[pyL];rfl
 |d::ds=>by rw[pyL,V1,zdb]
theorem zku:∀{ds:List D},okL ds=true->∀d∈ds,okD d=true
 |[],_,_,z=>nomatch z
 |d::ds,h,e,he=>by
  rw[okL,E1] at h
  rcases R0.mp he with rfl|he
  ·exact h.1
  ·exact zku h.2 e he
theorem zjW:∀{ds:List D},(∀d∈ds,okD d=true)->okL ds=true
 |[],_=>by rw[okL]
 |d::ds,h=>by rw[okL,h d Q0,zjW λe he=>h e (V0 _ he)];rfl
theorem zkF(r:Rep H v d):okD d=true->Tr H v (pyD d):=by
 induction r with
 |non=>intro _;rw[pyD];exact .non
 |bl b=>intro _;rw[pyD];exact .bl b
 |int i=>intro _;rw[pyD];exact .int i
 |str x _=>intro h;rw[okD] at h;rw[pyD];exact .str x h
 | @tup p vs ds hp l b r ih=>
   intro h
   rw[okD] at h
   rw[pyD,zdb]
   refine .tup hp (by rw[l,C0]) λi v d e1 e2=>?_
   rw[N0] at e2
   cases e:ds[i]? with
   |none=>rw[e] at e2;cases e2
   |some d'=>
    rw[e] at e2
    cases e2
    exact ih i v d' e1 e (zku h d' (B1 e))
 |lst _=>intro h;rw[okD] at h;cases h
 |dK _=>intro h;rw[okD] at h;cases h
noncomputable def leS(a b:Str):Bool:=!ltS b a
noncomputable def srt(l:List Str):List Str:=l.mergeSort leS
theorem zjH(a b c:Str)(h1:leS a b=true)(h2:leS b c=true):leS a c=true:=by
 unfold leS at *
 rw[Bool.not_eq_true'] at *
 cases h:ltS c a with
 |false=>rfl
 |true=>
  by_cases e:a=b
  ·subst e;rw[h] at h2;cases h2
  ·have ab:ltS a b=true:=za6 (λz=>e z.symm) h1
   have:=zhq h ab
   rw[this] at h2;cases h2
theorem zk6(a b:Str):(leS a b||leS b a)=true:=by
 unfold leS
 cases h:ltS b a with
 |false=>rfl
 |true=>rw[zaU h];rfl
theorem zz(l:List Str):(srt l).Perm l:=List.mergeSort_perm l leS
theorem zc3{l:List Str}(nd:l.Nodup):(srt l).Pairwise (λa b=>ltS a b=true):=by
 have h1:(srt l).Pairwise (λa b=>leS a b=true):=List.pairwise_mergeSort zjH zk6 l
 have h2:(srt l).Nodup:=(zz l).nodup_iff.mpr nd
 refine(h1.and h2).imp λ{a b} h=>?_
 obtain⟨ha,hn⟩:=h
 unfold leS at ha
 rw[Bool.not_eq_true'] at ha
 exact za6 (λz=>hn z.symm) ha
theorem znm{l:List Str}(hp:ts.Perm l)(hs:sortedS ts=true)(nd:l.Nodup):ts=srt l:=
 zff (zeg ts hs (hp.nodup_iff.mpr nd)) (zc3 nd) λx=>by rw[hp.mem_iff,(zz l).mem_iff]
noncomputable def zaC(t:List Str)(w m:Str):List Str:=t.filter (λx=>!decide (x=m))++(if w="put"then [m] else [])
theorem zey{t:List Str}{w m:Str}(nd:t.Nodup):(zaC t w m).Nodup:=by
 unfold zaC
 rw[X2]
 refine⟨nd.filter _,?_,?_⟩
 ·split<;>simp
 ·intro a ha b hb e
  split at hb
  ·rw[K0.mp hb] at e
   have:=(J1.mp ha).2
   rw[e] at this
   simp at this
  ·cases hb
theorem zly{t:List Str}{w m:Str}(h:∀x∈t,x∈O)(hm:m∈O):∀x∈zaC t w m,x∈O:=by
 unfold zaC
 refine List.forall_mem_append.mpr ⟨λx hx=>h x (J1.mp hx).1,λx hx=>?_⟩
 split at hx
 ·rw[K0.mp hx];exact hm
 ·cases hx
noncomputable def zjb(t:List Str)(w m:Str):List Str:=srt (zaC t w m)
structure Mk0(O t:List Str):Prop where
 nd:t.Nodup
 mem:∀x∈t,x∈O
theorem Mk0.next{t:List Str}{w m:Str}(h:Mk0 O t)(hm:m∈O):Mk0 O (zjb t w m) where
 nd:=(zz _).nodup_iff.mpr (zey h.nd)
 mem:=λx hx=>zly h.mem hm x ((zz _).mem_iff.mp hx)
theorem Mk0.len{t:List Str}(h:Mk0 O t)(hO:O.length<=14):t.length<=14:=B2 (zD h.nd h.mem) hO
noncomputable def zC(ws:List Str)(to:Option Str):List D->List Str->Option (List Str)
 |[],t=>some t
 |r::rs,t=>if zcN ws t to (zdn r)=true then(match zms r with| .tup [.str w, .str m]=>zC ws to rs (zjb t w m)|_=>none)else zC ws to rs t
def zd7(O:List Str)(rs:List D):Prop:=rs.length<=90/\∀r∈rs,∃cs x,r= .tup [.tup cs,x]/\(∀c∈cs,zO c=true)/\(x= .tup [.str "keep"]\/∃w m,x= .tup [.str w, .str m]/\(w="put"\/w="strike")/\m∈O)
theorem zl4(h:zet d=true)(hi:zhR O d=true):∃rs,d= .tup rs/\zd7 O rs:=by
 cases d with
 |tup rs=>
  have h:(decide (rs.length<=90)&&rs.all zcj)=true:=h
  rw[E1] at h
  refine⟨rs,rfl,Y0 h.1,λr hr=>?_⟩
  obtain⟨cs,x,rfl,h4,hc,hx⟩:=zpj (C3.mp h.2 r hr)
  obtain⟨h1,h2⟩:=zlV (C3.mp hi _ hr)
  refine⟨cs,x,rfl,hc,?_⟩
  rcases zsl hx with rfl|⟨w,y,rfl,hw,_⟩
  ·exact .inl rfl
  ·exact .inr ⟨w,y,rfl,hw,Y0 h2⟩
 |_=>cases h
def zo2(H:Hp)(u:V):Option (List Str)->Prop
 |none=>u= .non
 |some t=>∃p,u= .ref p/\H p=some (.tup (t.map V.str))
noncomputable def zs0:Sp:=λvs H Q _=>∃(v:V) (x:Str) (g:Str) (hs:List Str) (ps:List (Str×Str)) (lks hds:List D) (j:Nat),vs=[v, .str x]/\Rep H v (zbR g hs ps lks hds)/\TownOk g hs ps lks hds/\hs[j]?=some x/\∀(vr:V) (d:D),hds[j]?=some d->Rep H vr d->Q vr H
noncomputable def zi0:Sp:=λvs H Q _=>∃(pm:Addr) (v:V) (t:List Str) (w m:Str),vs=[.ref pm,v]/\H pm=some (.tup (t.map V.str))/\Rep H v (.tup [.str w, .str m])/\(∀x∈t,zf x=true)/\zf m=true/\t.Nodup/\t.length<=14/\∀(p:Addr) (H':Hp),H' p=some (.tup ((zjb t w m).map V.str))->Same H H'->Q (.ref p) H'
noncomputable def ziK:Sp:=λvs H Q _=>∃(v:V) (pw pm:Addr) (vt:V) (x:Str) (ws ms:List Str) (to:Option Str) (g:Str) (hs:List Str) (ps:List (Str×Str)) (lks hds:List D) (j:Nat) (rs:List D) (O:List Str),vs=[v, .ref pw, .ref pm,vt]/\Rep H v (zbR g hs ps lks hds)/\TownOk g hs ps lks hds/\hs[j]?=some x/\hds[j]?=some (.tup rs)/\zd7 O rs/\O.length<=14/\(∀y∈O,zf y=true)/\Mk0 O ms/\H pw=some (.tup ((x::ws).map V.str))/\H pm=some (.tup (ms.map V.str))/\TO0 vt to/\(∀y∈x::ws,zf y=true)/\ws.length<=90/\∀(u:V) (H':Hp),zo2 H' u (zC (x::ws) to rs ms)->Same H H'->Q u H'
theorem zrm(T:TownOk g hs ps lks hds)(h:x∈hs):∃(j:Nat) (d:D),hs[j]?=some x/\hds[j]?=some d/\d∈hds:=by
 obtain⟨j,hj,e⟩:=E2 h
 have hl:j<hds.length:=by rw[T.lh];exact hj
 exact⟨j,hds[j],by rw[D0 hj,e],D0 hl,Z2 hl⟩
noncomputable def neD(m:Str):D->Bool| .str z=>!decide (z=m)|_=>false
theorem zrC{t:List Str}{m:Str}:((t.map D.str).filter (neD m)).map (λd=>d)=(t.filter λx=>!decide (x=m)).map D.str:=by
 rw[List.map_id',List.filter_map];rfl
section
open PySem.W
section
open PySem.SeqAt
open PySem.AutoSeq1 (wpAny_loadPart')
open PySem.MeetsSeq PySem.MeetsSeq2 PySem.MeetsSeq3
theorem zd6(l b:Addr)(n n2:Nat)(dd dd2:Option Addr)(sl sl2:Array (Option Value))(xs ys:List Value)(k:Nat)(res:Bool):
 Meets (Builtin.«tuple.__lt__» ⟨[.ref l, .ref b],[]⟩) (λA R s=>s.heap.get? l=some {cls:= .type "tuple",dict:=dd,data:= .seq xs.toArray n,slots:=sl}/\s.heap.get? b=some {cls:= .type "tuple",dict:=dd2,data:= .seq ys.toArray n2,slots:=sl2}/\
  (∀prog w i x y,i<k->xs[i]?=some x->ys[i]?=some y->∀(E:Value->Shared->Prop) (Q:Bool->Shared->Prop),Q true s->wpAny `Y3 A.in1 (eqBool x y) Q E s)/\k<=xs.length/\k<=ys.length/\
  ((k=min xs.length ys.length/\res=decide (xs.length<ys.length))\/∃x y,xs[k]?=some x/\ys[k]?=some y/\(∀prog w (E:Value->Shared->Prop) (Q:Bool->Shared->Prop),Q false s->wpAny `Y3 A.in1 (eqBool x y) Q E s)/\∀prog w (E:Value->Shared->Prop) (Q:Value->Shared->Prop),Q (.bool res) s->wpAny `Y3 A.in1 (richCompare .Lt x y) Q E s)/\
  R (.ok (.ret (.bool res))) s):=
 .of_wp λprog w A R s h=>by
  obtain⟨hp,g,d,tk,os⟩:=s
  obtain⟨hl,hb,he,k1,k2,hk,h⟩:=h
  have f2:=AutoSeq1.sub_tuple_tuple
  wp_walk using wpAny_loadPart' hl,wpAny_loadPart' hb,wpAny_forIn_list _ (λrest b s'=>b.1=none/\s'=⟨hp,g,d,tk,os⟩/\∃i,i<=k/\rest=(xs.zip ys).drop i) _
  case turn=>
   rintro⟨p,q⟩ rest b s' ⟨hb',rfl,i,hi,hr⟩
   have hx:(xs.zip ys)[i]?=some (p,q):=by
    have:=congrArg (λl=>l[0]?) hr
    simpa[List.getElem?_drop] using this.symm
   rw[List.getElem?_zip_eq_some] at hx
   have hr2:rest=(xs.zip ys).drop (i+1):=by
    have:=congrArg List.tail hr
    simpa using this
   rcases D1 i k with z|z
   ·refine A0 (he prog w i p q z hx.1 hx.2 _ _ ?_)
    wp_walk
    exact⟨rfl,rfl,i+1,z,hr2⟩
   ·have ei:i=k:=()
    subst ei
    rcases hk with⟨hm,_⟩|⟨x,y,ex,ey,f1,f3⟩
    ·have h1:i<xs.length:=by
      rcases D1 i xs.length with y|y
      ·exact y
      ·rw[I0 y] at hx;cases hx.1
     have h2:i<ys.length:=by
      rcases D1 i ys.length with y|y
      ·exact y
      ·rw[I0 y] at hx;cases hx.2
     lia
    ·rw[hx.1] at ex
     rw[hx.2] at ey
     cases ex
     cases ey
     refine A0 (f1 prog w _ _ ?_)
     have c1:=f3 prog w
     wp_walk using c1
     exact⟨_,rfl,h⟩
  case fin=>
   rintro⟨b1,b2⟩ s' ⟨hb',rfl,i,hi,hr⟩
   simp only at hb'
   subst hb'
   have hlen:(xs.zip ys).length<=i:=by
    have:=congrArg List.length hr
    rw[List.length_nil,List.length_drop] at this
    lia
   rw[List.length_zip] at hlen
   rcases hk with⟨hm,hres⟩|⟨x,y,ex,ey,_⟩
   ·wp_walk
    rw[hres] at h
    exact⟨_,rfl,h⟩
   ·have h1:k<xs.length:=by
     rcases D1 k xs.length with y|y
     ·exact y
     ·rw[I0 y] at ex;cases ex
    have h2:k<ys.length:=by
     rcases D1 k ys.length with z|z
     ·exact z
     ·rw[I0 z] at ey;cases ey
    lia
  case h=>
   exact⟨rfl,rfl,0,X1 _,`j3⟩
end
noncomputable def ltL:List Str->List Str->Bool
 |[],[]=>false
 |[],_::_=>true
 |_::_,[]=>false
 |x::xs,y::ys=>if x=y then ltL xs ys else ltS x y
theorem zmr:∀(ps qs:List Str),∃k,k<=ps.length/\k<=qs.length/\(∀i<k,ps[i]?=qs[i]?)/\((k=min ps.length qs.length/\ltL ps qs=decide (ps.length<qs.length))\/∃x y,ps[k]?=some x/\qs[k]?=some y/\x≠y/\ltL ps qs=ltS x y)
 |[],[]=>⟨0,L0 _,L0 _,λi z=>absurd z (Nat.not_lt_zero _), .inl ⟨rfl,rfl⟩⟩
 |[],q::qs=>⟨0,L0 _,X1 _,λi z=>absurd z (Nat.not_lt_zero _), .inl ⟨`j3,by rw[ltL];simp⟩⟩
 |p::ps,[]=>⟨0,X1 _,L0 _,λi z=>absurd z (Nat.not_lt_zero _), .inl ⟨`j3,by rw[ltL];simp⟩⟩
 |p::ps,q::qs=>by
  by_cases e:p=q
  ·subst e
   obtain⟨k,k1,k2,he,hk⟩:=zmr ps qs
   refine⟨k+1,by simp;lia,by simp;lia,λi hi=>?_,?_⟩
   ·cases i with
    |zero=>rfl
    |succ i=>exact he i ()
   ·rw[ltL,c0 rfl]
    rcases hk with⟨h1,h2⟩|⟨x,y,h1,h2,h3,h4⟩
    ·exact .inl ⟨by simp;lia,by rw[h2];simp⟩
    ·exact .inr ⟨x,y,by simpa using h1,by simpa using h2,h3,h4⟩
  ·exact ⟨0,X1 _,X1 _,λi z=>absurd z (Nat.not_lt_zero _), .inr ⟨p,q,rfl,rfl,e,by rw[ltL,P0 e]⟩⟩
theorem zei{ps:List Str}(r:Vals (ps.map V.str) its){v:Value}(h:its[i]?=some v):∃p t,ps[i]?=some p/\v= .str p t:=by
 have hi:i<its.length:=by
  rcases D1 i its.length with z|z
  ·exact z
  ·rw[I0 z] at h;cases h
 have hp:i<ps.length:=by have:=r.length;rw[C0] at this;lia
 obtain⟨u,hu,ru⟩:=r.get (i:=i) (x:= .str ps[i]) (by rw[N0,D0 hp];rfl)
 rw[hu] at h
 cases h
 obtain⟨t,rfl⟩:=ru
 exact⟨ps[i],t,D0 hp,rfl⟩
theorem zjc{ps:List Str}(r:Vals (ps.map V.str) its):its.length=ps.length:=by have:=r.length;rw[C0] at this;exact this.symm
theorem ziL{b:Addr}{ps qs:List Str}{its2:List Value}(ra:Vals (ps.map V.str) its)(rb:Vals (qs.map V.str) its2)(ha:IsTup s.heap a its.toArray)(hb:IsTup s.heap b its2.toArray)(hu:A.units<cLine)
 (q:Q (.bool (ltL ps qs)) s):wpAny `Y3 A (richCompare .Lt (.ref a) (.ref b)) Q E s:=by
 obtain⟨⟨c1,d1,e1,f1⟩,ho,hc,n,hd⟩:=id ha
 obtain⟨⟨c2,d2,e2,f2⟩,ho2,hc2,n2,hd2⟩:=id hb
 simp only at hc hd hc2 hd2
 subst hc hd hc2 hd2
 obtain⟨k,k1,k2,he,hk⟩:=zmr ps qs
 have l1:=zjc ra
 have l2:=zjc rb
 refine richCompare_meets_room (op:= .Lt) ⟨_,ho,rfl⟩ ⟨_,ho2,rfl⟩ F.slot_tuple_lt F.entry_tuple_lt (F.args_tuple_lt_2 _ _) (zd6 a b n n2 d1 d2 f1 f2 its its2 k (ltL ps qs)) ⟨ho,ho2,?_,(),(),?_,?_⟩ hu
 ·intro prog w i x y hi hx hy E Q hq
  obtain⟨p,t,hp,rfl⟩:=zei ra hx
  obtain⟨q',t',hp',rfl⟩:=zei rb hy
  have e:p=q':=by
   have:=he i hi
   rw[hp,hp'] at this;exact o0 this
  refine wpAny_eqBool_str ?_
  rw[U0 e];exact hq
 ·rcases hk with⟨h1,h2⟩|⟨x,y,h1,h2,h3,h4⟩
  ·exact .inl ⟨(),by rw[h2,l1,l2]⟩
  ·have hx:k<its.length:=by
    rw[l1]
    rcases D1 k ps.length with z|z
    ·exact z
    ·rw[I0 z] at h1;cases h1
   have hy:k<its2.length:=by
    rw[l2]
    rcases D1 k qs.length with z|z
    ·exact z
    ·rw[I0 z] at h2;cases h2
   obtain⟨p,t,hp,e1⟩:=zei ra (D0 hx)
   obtain⟨q',t',hp',e2⟩:=zei rb (D0 hy)
   rw[h1] at hp
   rw[h2] at hp'
   cases hp
   cases hp'
   refine .inr ⟨_,_,D0 hx,D0 hy,λprog w E Q hq=>?_,λprog w E Q hq=>?_⟩
   ·rw[e1,e2]
    refine wpAny_eqBool_str ?_
    rw[A1 h3];exact hq
   ·rw[e1,e2]
    rw[h4] at hq
    exact(PyProof.Rows.lt_str hq:wpAny `Y3 A.in1 (compareOp .Lt (.str x t) (.str y t')) Q E s)
 ·exact ⟨(λx=>nomatch x),q⟩
noncomputable def ltK(k1 k2:Int×Int×List Str):Bool:=if k1.1=k2.1 then(if k1.2.1=k2.2.1 then ltL k1.2.2 k2.2.2 else decide (k1.2.1<k2.2.1))else decide (k1.1<k2.1)
def zsL(H:Hp)(x:V)(k:Int×Int×List Str):Prop:=∃a p,x= .ref a/\H a=some (.tup [.int k.1, .int k.2.1, .ref p])/\H p=some (.tup (k.2.2.map V.str))/\∀y∈k.2.2,PyData.strOk y=true
theorem ze4:∀(ps:List Str),ltL ps ps=false
 |[]=>rfl
 |p::ps=>by rw[ltL,c0 rfl];exact ze4 ps
theorem zr7{x y z:V}(r:Vals [x,y,z] us):∃a b c,us=[a,b,c]/\RelV x a/\RelV y b/\RelV z c:=by
 cases r with
 |cons h1 r=>cases r with
  |cons h2 r=>cases r with
   |cons h3 r=>
    cases r
    exact⟨_,_,_,rfl,h1,h2,h3⟩
end
noncomputable def zqI:Sp:=λvs H Q _=>∃(v:V) (pw pm:Addr) (x:Str) (ws ms:List Str) (g:Str) (hs:List Str) (ps:List (Str×Str)) (lks hds:List D) (j:Nat) (rs:List D) (i:Int),vs=[v, .ref pw, .ref pm]/\Rep H v (zbR g hs ps lks hds)/\TownOk g hs ps lks hds/\hs[j]?=some x/\lks[j]?=some (.tup rs)/\H pw=some (.tup ((x::ws).map V.str))/\H pm=some (.tup (ms.map V.str))/\(∀y∈x::ws,zf y=true)/\(∀y∈ms,zf y=true)/\ws.length<=90/\ms.length<=100/\zI (x::ws) ms rs= .int i/\∀(u:V) (H':Hp),zsL H' u (-i,((x::ws).length:Int),x::ws)->Same H H'->Q u H'
section
variable{st:Expr}{ts:TE}{p1 p2:Pos}
end
section
variable{es:List D}
end
theorem Inv.frz{d:Addr}{o:Obj}(I:Inv X pins σ H s)(e:H d=some (.dT kvs))(g:s.heap.get? d=some o):Inv X pins σ (upd H d (.frz o (.dT kvs))) s where
 ok:=I.ok
 os:=I.os
 bare:=I.bare
 base:={
  keep:=I.base.keep
  slot:=I.base.slot
  free:=λb o h1 h2 h3=>by
   have:=I.base.free b o h1 h2 h3
   rw[zc λz=>by rw[z,e] at this;cases this];exact this
  there:=I.base.there
  tups:=λb xs h=>by
   have:=I.base.tups b xs h
   rw[zc λz=>by rw[z,e] at this;cases this];exact this
  frzs:=λb o u h=>by
   have:=I.base.frzs b o u h
   rw[zc λz=>by rw[z,e] at this;cases this];exact this
  tbls:=λb ps h=>by
   obtain⟨more,this⟩:=I.base.tbls b ps h
   exact⟨more,by rw[zc λz=>by rw[z,e] at this;cases this];exact this⟩}
 loc:=I.loc
 cell:=I.cell
 free:=by
  have:=I.free
  rw[zc λz=>by rw[z,e] at this;cases this];exact this
 freeC:=λx c h=>by
  have:=I.freeC x c h
  rw[zc λz=>by rw[z,e] at this;cases this];exact this
 pin:=λp hp=>by
  obtain⟨h1,h2,h3⟩:=I.pin p hp
  exact⟨h1,by rw[zc λz=>by rw[z,e] at h2;cases h2];exact h2,h3⟩
 hok:=λa o' h=>by
  have st:∀{u:HO},ObjOk X.prog X.w H s.heap a u->ObjOk X.prog X.w (upd H d (.frz o (.dT kvs))) s.heap a u:=λx=>x.stay (λ_ _ _ q=>q) (λb q=>by rw[zc λz=>by rw[z,e] at q;cases q];exact q) (λb xs q=>by rw[zc λz=>by rw[z,e] at q;cases q];exact q)
  by_cases z:a=d
  ·subst z
   rw[zb] at h
   cases h
   exact⟨g,st (I.hok a _ e)⟩
  ·rw[zc z] at h
   exact st (I.hok a _ h)
 len:=I.len
def zrc(H:Hp)(bs:List Addr)(kvs:List (List Key×V)):Prop:=bs.length=kvs.length/\∀(i:Nat) (b:Addr) (kv:List Key×V),bs[i]?=some b->kvs[i]?=some kv->H b=some (.tup (kv.1.map kV))
noncomputable def ItL(K:W.Frag)(a:Addr)(n:Nat):It:=
 ⟨λi H=>∃xs x,SqL K H a xs/\xs.length=n/\xs[i]?=some x,λi H x H'=>∃T y,x= .ref T/\H T=none/\(∀xs,SqL K H a xs->xs[i]?=some y)/\H'=upd H T (.tup [.int (i:Int),y]),λi H=>∃xs,SqL K H a xs/\xs.length=n/\n<=i⟩
theorem zfp(a e it:Addr)(n:Nat)(hne:e≠it):
 Turn P w K (.Tuple elts k pos) (ItL K a n) [e,it] e (λi h=>i<=n/\(∃old,IsEnum h e it (i:Int) old)/\h.IsListIter it a i) where
 mem:=`j3
 obj:=λi h st b hb=>by
  obtain⟨_,⟨old,he⟩,o,e',c,d⟩:=st
  rcases R0.mp hb with rfl|hb
  ·exact ⟨_,he,λv z=>by cases z⟩
  ·have:b=it:=by simpa using hb
   subst this
   exact⟨o,e',λv z=>by rw[d] at z;cases z⟩
 keep:=λi h h' st kk=>⟨st.1,let⟨old,he⟩:=st.2.1;⟨old,kk e `j3 _ he⟩,st.2.2.at λo e'=>kk it `j3 o e'⟩
 item:=by
  intro X hP hw hK hc i pins s σ H E I hf st hg
  subst hP hw hK
  obtain⟨xs,x,hq,hn,hx⟩:=hg
  obtain⟨its,rv,p,hz⟩:=I.list hq
  obtain⟨u,hu,ru⟩:=rv.get hx
  have pT:s.heap.IsList a its.toArray:=p.isList
  have hil:i<its.length:=by
   rcases D1 i its.length with z|z
   ·exact z
   ·rw[I0 z] at hu;cases hu
  have hlen:its.length=n:=by rw[←rv.length];exact hn
  obtain⟨o1,ho1,hc1,_⟩:=id pT
  have na1:a≠it:=λz=>by
   obtain⟨o2,ho2,hc2,_⟩:=st.2.2
   rw[z,ho2] at ho1;cases ho1;rw[hc2] at hc1;injection hc1 with hc1;exact absurd hc1 ⋯
  have na2:a≠e:=λz=>by
   obtain⟨old,he⟩:=st.2.1
   rw[z,he] at ho1;cases ho1;injection hc1 with hc1;exact absurd hc1 ⋯
  obtain⟨f0,f1,f2,f3,f4,f5⟩:=hf e `j3
  obtain⟨g0,g1,g2,g3,g4,g5⟩:=hf it `j3
  have W:=WalksT.enumerateD (Draws.list (prog:=X.prog) (w:=X.w) (A:=X.A.in1) (I.ok.hd hc) it a na1 its.toArray) e hne (by simp[hne,Ne.symm na2]) `j3
  obtain⟨old,he⟩:=st.2.1
  unfold pyNext
  refine A0 (wpAny_attempt (Y2 (name:=Str.ofString "__next__") ⟨_,he,rfl⟩ F.slot_enumerate_next (G2 F.slot_enumerate_next ⟨_,he,rfl⟩ F.entry_enumerate_next (enumerate_next_itemD (Draws.list (prog:=X.prog) (w:=X.w) (A:=X.A.in1) (I.ok.hd hc) it a na1 its.toArray) he ⟨st.2.2,pT⟩ (by simpa using hil) hne (by simp[hne,Ne.symm na2]) λx' h' t hx' hOut hSt hTo hsz hk0=>?_) (F.args_enumerate_next_1 _))))
  refine F0 ?_
  obtain⟨tk,htk⟩:∃tk,tk=t+1:=⟨_,rfl⟩
  rw[←htk]
  obtain⟨T,hTT⟩:∃T,T=s.heap.objs.size:=⟨_,rfl⟩
  have hk:∀(b:Addr) (o:Obj),b∉ [e,it]->s.heap.get? b=some o->h'.get? b=some o:=λb o hb q=>hk0 b o (λz=>hb (by simp[z])) (λz=>hb (by simp[z])) q
  rw[←hTT] at hOut hTo⊢
  have hT:s.heap.objs.size<=T:=Nat.le_of_eq hTT.symm
  have hTup:h'.IsTuple T #[Value.int (i:Int) t,x']:=⟨_,hTo,rfl,_,rfl⟩
  have nTe:T≠e:=λz=>by have:=W0 he;rw[←z,hTT] at this;exact absurd this (Nat.lt_irrefl _)
  have nTi:T≠it:=λz=>by obtain⟨o2,ho2,_⟩:=st.2.2;have:=W0 ho2;rw[←z,hTT] at this;exact absurd this (Nat.lt_irrefl _)
  have hMid:(∃x,IsEnumOut h' e it ((i:Int)+1) x T)/\(h'.IsListIter it a (i+1)/\h'.IsList a its.toArray)/\T≠e/\T≠it:=⟨⟨_,hOut⟩,hSt,nTe,nTi⟩
  have ex:x'=u:=by
   have:its.toArray[i]?=some u:=by simpa using hu
   rw[this] at hx';exact(o0 hx').symm
  subst ex
  refine⟨_,rfl,W.go elts k pos i T {s with heap:=h',toks:=tk} _ _ hMid λh2 st2 hk2=>?_⟩
  have nT:T∉ [e,it]:=W.apart i T h' hMid
  have fT:H T=none:=I.hok.fresh hT
  have ltT:∀{b o},s.heap.get? b=some o->b≠T:=λq z=>by
   have:=W0 q
   rw[z] at this
   exact absurd (A2 this hT) (Nat.lt_irrefl _)
  have hTup2:h2.IsTuple T #[Value.int (i:Int) t,x']:=by
   obtain⟨o,ho,r⟩:=hTup
   exact⟨o,hk2 T o nT ho,r⟩
  have hND:NoDict h2 T:=λo q=>by rw[hk2 T _ nT hTo] at q;cases q;rfl
  have kk:∀b o,b∉ [e,it]->s.heap.get? b=some o->h2.get? b=some o:=λb o hb q=>hk2 b o hb (hk b o hb q)
  have neT:∀{b u'},H b=some u'->b≠T:=λq z=>by rw[z,fT] at q;cases q
  refine⟨.ref T,upd H T (.tup [.int (i:Int),x]),?_,rfl,⟨T,x,rfl,fT,λys hy=>by rw[I.list_inj hy hq];exact hx,rfl⟩,⟨(),st2.1,st2.2.1⟩,λb hb=>?_⟩
  ·show Inv X pins σ _ {s with heap:=h2,gens:=s.gens,drawn:=s.drawn,toks:=tk}
   refine Inv.step (s:=s) (h':=h2) (t':=tk) (g':=s.gens) (d':=s.drawn) (ch:=[e,it]) I (λb hb=>?_) (λb o _ _ hc e' _=>kk b o hc e') (λb o _ _ hc e' _=>⟨o.slots,kk b o hc e'⟩) (λb o _ e' z=>by rw[zc (ltT e')];exact z) (λb o hc e'=>⟨o,kk b o hc e'⟩) (λb xs z=>by rw[zc (neT z)];exact z) (λb o u' z=>by rw[zc (neT z)];exact z) (λb ps z=>⟨#[],by rw[zc (neT z),z];simp⟩) (λm hm=>?_) (λb u' z=>?_) I.bare
   ·rcases R0.mp hb with rfl|hb
    ·exact ⟨f3,f1,f4,f5⟩
    ·have:b=it:=by simpa using hb
     subst this
     exact⟨g3,g1,g4,g5⟩
   ·obtain ⟨o,es,ep,ho,r⟩:=hm
    refine⟨o,es,ep,kk _ o (λz=>?_) ho,r⟩
    rcases R0.mp z with z|z
    ·exact f1 z.symm
    ·exact g1 ((by simpa using z:X.env.locals=it).symm)
   ·by_cases hb:b=T
    ·subst hb
     rw[zb] at z
     cases z
     exact⟨few rfl,[Value.int (i:Int) t,x'], .cons ⟨t,rfl⟩ (.cons ru .nil),hTup2,hND⟩
    ·rw[zc hb] at z
     refine(I.hok b u' z).stay (λc v hc q=>kk c v (λy=>?_) q) (λc q=>by rw[zc (neT q)];exact q) λc xs q=>by rw[zc (neT q)];exact q
     have:∃u2,H c=some u2:=by
      rcases hc with rfl|hc
      ·exact ⟨_,z⟩
      ·exact ⟨_,hc⟩
     obtain⟨u2,hu2⟩:=this
     rcases R0.mp y with rfl|y
     ·rw[f0] at hu2;cases hu2
     ·have:c=it:=by simpa using y
      subst this
      rw[g0] at hu2;cases hu2
  ·have:b≠T:=λz=>nT (by rw[←z];exact hb)
   rw[zc this]
   exact(hf b hb).1
 done:=by
   intro X hP hw hK hc i pins s σ H E I hf st hg
   subst hP hw hK
   obtain⟨xs,hq,hn,hx⟩:=hg
   obtain⟨its,rv,p,hz⟩:=I.list hq
   have pT:s.heap.IsList a its.toArray:=p.isList
   have hlen:its.length=n:=by rw[←rv.length];exact hn
   have ei:i=its.toArray.size:=by have:=st.1;simp;lia
   obtain⟨o1,ho1,hc1,_⟩:=id pT
   have na1:a≠it:=λz=>by
    obtain⟨o2,ho2,hc2,_⟩:=st.2.2
    rw[z,ho2] at ho1;cases ho1;rw[hc2] at hc1;injection hc1 with hc1;exact absurd hc1 ⋯
   have na2:a≠e:=λz=>by
    obtain⟨old,he⟩:=st.2.1
    rw[z,he] at ho1;cases ho1;injection hc1 with hc1;exact absurd hc1 ⋯
   obtain⟨f0,f1,f2,f3,f4,f5⟩:=hf e `j3
   obtain⟨g0,g1,g2,g3,g4,g5⟩:=hf it `j3
   have W:=WalksT.enumerateD (Draws.list (prog:=X.prog) (w:=X.w) (A:=X.A.in1) (I.ok.hd hc) it a na1 its.toArray) e hne (by simp[hne,Ne.symm na2]) `j3
   subst ei
   refine W.done s _ _ ⟨st.2.1,st.2.2,pT⟩ λh' tk kk=>⟨rfl,?_⟩
   refine I.step (g':=s.gens) (d':=s.drawn) (ch:=[e,it]) (λb hb=>?_) (λb o _ _ hc e' _=>kk b o hc e') (λb o _ _ hc e' _=>⟨o.slots,kk b o hc e'⟩) (λ_ _ _ _ z=>z) (λb o hc e'=>⟨o,kk b o hc e'⟩) (λ_ _ z=>z) (λ_ _ _ z=>z) (λb ps z=>⟨#[],by rw[z];simp⟩) (λm hm=>?_) (λb u' z=>?_) I.bare
   ·rcases R0.mp hb with rfl|hb
    ·exact ⟨f3,f1,f4,f5⟩
    ·have:b=it:=by simpa using hb
     subst this
     exact⟨g3,g1,g4,g5⟩
   ·obtain ⟨o,es,ep,ho,r⟩:=hm
    refine⟨o,es,ep,kk _ o (λz=>?_) ho,r⟩
    rcases R0.mp z with z|z
    ·exact f1 z.symm
    ·exact g1 ((by simpa using z:X.env.locals=it).symm)
   ·refine (I.hok b u' z).stay (λc v hc q=>kk c v (λy=>?_) q) (λc q=>q) λc xs q=>q
    have:∃u2,H c=some u2:=by
     rcases hc with rfl|hc
     ·exact ⟨_,z⟩
     ·exact ⟨_,hc⟩
    obtain⟨u2,hu2⟩:=this
    rcases R0.mp y with rfl|y
    ·rw[f0] at hu2;cases hu2
    ·have:c=it:=by simpa using y
     subst this
     rw[g0] at hu2;cases hu2
 self:=λA i s Q E st h=>by
  obtain⟨_,⟨old,he⟩,_⟩:=st
  refine wpAny_pyIter_slot (T:="enumerate") ⟨_,he,rfl⟩ F.slot_enumerate_iter (G2 F.slot_enumerate_iter ⟨_,he,rfl⟩ F.entry_enumerate_iter ?_ (F.args_enumerate_iter_1 _))
  unfold Builtin.«dict_keyiterator.__iter__»
  refine A0 (F0 (F0 ⟨_,rfl,"enumerate",_,⟨_,he,rfl⟩,F.slot_enumerate_next.lookup,h⟩))
noncomputable def zsg(K:W.Frag)(ta:TA):TI:=λσ H R=>ta σ H λvs H1=>∃a xs,vs=[.ref a]/\SqL K H1 a xs/\R (ItL K a xs.length) H1
theorem zpe{a:Expr}{p:Pos}(hm:X.mg "enumerate"=none)(ha:QA X [a] ta)(hg:autoParam (Gl X "enumerate") y3)(hs:autoParam (starEach [a] X.env=[(false,eval a X.env)]) y3):QI X (.Tuple elts k pos2) (.Call (.Name "enumerate" p) [a] [] pos) (zsg X.K ta):=⟨by
 intro pins s σ H R I h
 refine Call_ (zdD I hg hm boot_enumerate (PyProof.Rows.callWith_type1 (thn (ha.o pos pins s σ H _ I h) λus s1 zq=>?_) hs rfl))
 obtain⟨vs,H1,I1,r1,q1⟩:=zq
 obtain⟨l,xs,rfl,hq,q⟩:=q1
 obtain⟨u,rfl,ru⟩:=za8 r1
 cases ru
 obtain⟨its,rv,pl,hz⟩:=I1.list hq
 refine call_enumerate_list pl.isList λh' he hit hsz kk=>?_
 have ne1:s1.heap.objs.size+1≠s1.heap.objs.size:=()
 refine(zfp (P:=X.prog) (w:=X.w) (K:=X.K) (elts:=elts) (k:=k) (pos:=pos2) l (s1.heap.objs.size+1) s1.heap.objs.size xs.length ne1).self X.A 0 _ _ _ ⟨X1 _,⟨_,he⟩,hit⟩ ?_
 refine⟨s1.heap.objs.size+1,[s1.heap.objs.size+1,s1.heap.objs.size],_,_,H1,rfl,I1.kept (t':=s1.toks) kk,zfp l _ _ xs.length ne1,⟨X1 _,⟨_,he⟩,hit⟩,λb hb=>?_,q⟩
 have hb':s1.heap.objs.size<=b:=by
  rcases R0.mp hb with z|z
  ·rw[z];exact Nat.le_succ _
  ·have z:b=s1.heap.objs.size:=by simpa using z
   rw[z];exact L0 _
 exact I1.fpOk hb' (I1.hok.fresh hb')⟩
noncomputable def zsb(tk tv:TE):TE:=λσ H Q=>∀p,H p=none->zj7 [(tk,tv)] σ (upd H p (.dT [])) λps H2=>H2 p=some (.dT [])/\∃(b:Addr) (k:List Key) (v:V),ps=[(.ref b,v)]/\H2 b=some (.tup (k.map kV))/\Q (.ref p) (upd H2 p (.dT [(k,v)]))
theorem zqb{k v:Expr}{tk:TE}(hu:X.A.units+1<cLine)(hk:QE X k tk)(hv:QE X v tv):QE X (.Dict [some k] [v] pos) (zsb tk tv):=⟨by
 intro pins s σ H Q I q
 have hn:=I.hok.fresh (L0 s.heap.objs.size)
 have I1:=I.laid (a:=s.heap.objs.size) (o:= .dT []) (h':=s.heap.push {cls:= .type "dict",data:= .dict #[]}) (t':=s.toks) (λ_ _ q=>G0 _ q) (L0 _) (ziu s.heap I.big)
 have h:=(zsS (pos:=pos) hk hv zra).o pins {s with heap:=s.heap.push {cls:= .type "dict",data:= .dict #[]}} σ _ _ I1 (q _ hn)
 rw[arm_eval_Dict,zip_pairTrees [some k] [v] X.env pos rfl rfl,dictDisplay_pairs (pairTrees [some k] [v] X.env pos) (by intro z;have:=congrArg List.length z;rw[pairTrees_length [some k] [v] X.env pos rfl rfl] at this;exact nomatch this) (by rw[pairTrees_length [some k] [v] X.env pos rfl rfl];exact Nat.le_of_ble_eq_true rfl)]
 refine A0 (J3 (A0 ?_))
 unfold subDict
 refine A0 (wpAny_alloc ?_)
 refine A0 (O2 ?_)
 rw[c0 (by rw[pairTrees_length [some k] [v] X.env pos rfl rfl];exact Nat.le_of_ble_eq_true rfl)]
 refine A0 (thn h λws s2 zq=>?_)
 obtain⟨ps,H2,I2,rel,e,b,kk,v2,ep,eb,q2⟩:=zq
 subst ep
 cases rel with
 | @cons a' b' as bs hab t=>
   cases t
   obtain⟨b1,b2⟩:=b'
   obtain⟨r1,r2⟩:=hab
   cases(show b1=Value.ref b from r1)
   obtain⟨z,hd,xs,rl,dd⟩:=zqK I2.hok e
   cases rl
   refine O2 (A0 ?_)
   rw[List.forIn_cons]
   refine A0 (A0 (wpAny_dictSet_heap (hsz:=X1 _) (show(tupleKind (zU X.prog X.w)).room X.A from Nat.lt_of_le_of_lt (Nat.le_succ _) hu) (zfm I2.hok eb) dd λh' dd' hs=>F0 ?_))
   show wpAny _ _ (forIn [] _ _) _ _ _
   rw[List.forIn_nil]
   refine F0 (F0 (F0 (F0 ⟨.ref s.heap.objs.size,_,?_,rfl,q2⟩)))
   obtain⟨q,es,ep,hq,h2,h3,h4,_,h5⟩:=dd'
   refine ze6 I2 (by rw[e];exact True.intro) hs ⟨q,hq⟩ ⟨A3 (zj (show 1<=1000 by lia)),hd,_, .cons ⟨rfl,?_,r2⟩ .nil,q,es,ep,hq,h2,h3,h4,h5⟩
   rw[zc (zak eb e (λz=>nomatch z))]
   exact eb⟩
theorem zlW:CallR X (.builtin "len") (λxs H Q=>∃(d:Addr) (kvs:List (List Key×V)),xs=[.ref d]/\Rd H d (.dT kvs)/\Q (.int kvs.length) H):=by
 intro pins s σ H xs us Q I r h
 obtain⟨d,kvs,rfl,hd,q⟩:=h
 obtain⟨u,rfl,ru⟩:=za8 r
 cases ru
 obtain⟨z,hs,xs,rel,dd⟩:=zgr I.hok hd
 have hl:kvs.length=xs.length:=Paired.length rel
 have z1:(kvs.length:Int)<2^63:=by rw[K3] at z;lia
 have ty:s.TypeIs (.ref d) "dict":=dd.typeIs
 obtain⟨o,es,ep,ho,hc,hdat,hes,_,_⟩:=dd
 have ez:es.size=kvs.length:=by rw[hl,←C1,hes,C0]
 have mt:MeetsIn X.prog X.w (Builtin.«dict.__len__» ⟨[.ref d],[]⟩) (λ_ R s=>(∃o,s.heap.get? d=some o/\o.data= .dict es ep)/\R (.ok (.ret (.int kvs.length s.toks))) {s with toks:=s.toks+1}):=
  .of_wp λA R s ⟨⟨o,ho,hdat⟩,h⟩=>by
   show wpAny _ _ (dictSize d>>=_) _ _ s
   unfold dictSize
   refine A0 (A0 (wpAny_dictEntries ho hdat (F0 ?_)))
   show wpAny _ _ (Builtin.Dict.pendingCount d>>=_) _ _ s
   refine A0 (wpAny_pendingCount_other hs ?_)
   refine wpAny_ret_mkInt ?_
   rw[Nat.add_zero,ez];exact h
 refine Calls.call_function_entry kind_len plain_len entry_len (args_len1 _) ?_
 unfold Builtin.«len»
 refine A0 (m:=oneArg "len" _) (F0 ?_)
 refine A0 (m:=callSpecial? (.ref d) (Str.ofString "__len__")) (Y2 (name:=Str.ofString "__len__") ty F.slot_dict_len (call_meetsIn F.slot_dict_len ty F.entry_dict_len (F.args_dict_len_1 _) mt ⟨⟨o,ho,hdat⟩,?_⟩))
 show wpAny _ _ _ _ _ {s with toks:=s.toks+1}
 refine A0 (O2 (F0 ?_))
 refine A0 (wpAny_letGo ?_)
 show wpAny _ _ (if((kvs.length:Nat):Int)<0 then _ else _) _ _ _
 rw[P0 ()]
 show wpAny _ _ (if((kvs.length:Nat):Int)≥2^63 then _ else _) _ _ _
 rw[P0 ()]
 exact A0 (wpAny_mkInt (F0 ⟨_,rfl, .int _,H,I.tok _,⟨_,rfl⟩,q⟩))
section
variable{i o:Expr}{ty:TE}{p1 p2:Pos}
theorem zdu(hu:X.A.units+1<cLine)(ho:QE X o td)(hi:QE X i ty)(hs:autoParam (zsc i) y6):QE X (.Subscript o i pos) (zqJ td ty):=⟨zqp hu ho.o hi.o hs⟩
end
theorem znG:∀{ps qs rs:List Str},ltL ps qs=true->ltL qs rs=true->ltL ps rs=true
 |[],[],_,h,_=>by rw[ltL] at h;cases h
 |_::_,[],_,h,_=>by rw[ltL] at h;cases h
 |_,_::_,[],_,h=>by rw[ltL] at h;cases h
 |[],_::_,_::_,_,_=>by rw[ltL]
 |p::ps,q::qs,r::rs,h1,h2=>by
  rw[ltL] at h1 h2⊢
  by_cases z:p=q
  ·subst z
   rw[c0 rfl] at h1
   by_cases y:p=r
   ·subst y
    rw[c0 rfl] at h2⊢
    exact znG h1 h2
   ·rw[P0 y] at h2⊢
    exact h2
  ·rw[P0 z] at h1
   by_cases y:q=r
   ·subst y
    rw[P0 z];exact h1
   ·rw[P0 y] at h2
    have h3:=zhq h1 h2
    rw[P0 (zjj h3)]
    exact h3
theorem zdf(k:Int×Int×List Str):ltK k k=false:=by
 unfold ltK
 rw[c0 rfl,c0 rfl];exact ze4 _
theorem zhS{k1 k2 k3:Int×Int×List Str}(h1:ltK k1 k2=true)(h2:ltK k2 k3=true):ltK k1 k3=true:=by
 unfold ltK at *
 by_cases z:k1.1=k2.1
 ·rw[c0 z] at h1
  by_cases z2:k2.1=k3.1
  ·rw[c0 z2] at h2
   rw[c0 (z.trans z2)]
   by_cases y:k1.2.1=k2.2.1
   ·rw[c0 y] at h1
    by_cases y2:k2.2.1=k3.2.1
    ·rw[c0 y2] at h2
     rw[c0 (y.trans y2)]
     exact znG h1 h2
    ·rw[P0 y2] at h2
     rw[P0 (by rw[y];exact y2)]
     have:=Y0 h2
     exact U0 ()
   ·rw[P0 y] at h1
    have h1:=Y0 h1
    by_cases y2:k2.2.1=k3.2.1
    ·rw[P0 ()]
     exact U0 ()
    ·rw[P0 y2] at h2
     have h2:=Y0 h2
     rw[P0 ()]
     exact U0 ()
  ·rw[P0 z2] at h2
   have h2:=Y0 h2
   rw[P0 ()]
   exact U0 ()
 ·rw[P0 z] at h1
  have h1:=Y0 h1
  by_cases z2:k2.1=k3.1
  ·rw[P0 ()]
   exact U0 ()
  ·rw[P0 z2] at h2
   have h2:=Y0 h2
   rw[P0 ()]
   exact U0 ()
theorem zko{k1 k2:Int×Int×List Str}(h:ltK k1 k2=true):ltK k2 k1=false:=by
 cases e:ltK k2 k1 with
 |false=>rfl
 |true=>have:=zhS h e;rw[zdf] at this;cases this
noncomputable abbrev WM:=List Str×List Str
noncomputable def wI(rs:List D)(e:WM):Int:=match zI e.1 e.2 rs with| .int a=>a|_=>0
noncomputable def kE(rs:List D)(e:WM):Int×Int×List Str:=(-(wI rs e),(e.1.length:Int),e.1)
mutual
theorem zpk:∀d:D,(pyD d).eqv (pyD d)=true
 | .non=>by rw[pyD,PyData.eqv]
 | .bl b=>by rw[pyD,PyData.eqv];simp
 | .int i=>by rw[pyD,PyData.eqv];simp
 | .str x=>by rw[pyD,PyData.eqv];simp
 | .tup ds=>by rw[pyD,PyData.eqv];exact zkO ds
 | .oth=>by rw[pyD,PyData.eqv]
theorem zkO:∀ds:List D,PyData.eqvAll (pyL ds) (pyL ds)=true
 |[]=>by rw[pyL,PyData.eqvAll]
 |d::ds=>by rw[pyL,PyData.eqvAll,zpk d,zkO ds];rfl
end
theorem zcM{n:Nat}:∀{xs:List PyData},(∀x∈xs,x.depth<=n)->PyData.depthAll xs<=n
 |[],_=>by rw[PyData.depthAll];exact X1 _
 |x::xs,h=>by
  rw[PyData.depthAll]
  have h1:=h x Q0
  have h2:=zcM (n:=n) λy hy=>h y (V0 _ hy)
  lia
def SqH(t:Bool)(h:Heap)(a:Addr)(items:Array Value):Prop:=if t then h.IsTuple a items else h.IsList a items
def ItH(t:Bool)(h:Heap)(it a:Addr)(i:Nat):Prop:=if t then h.IsTupleIter it a i else h.IsListIter it a i
structure ZpA(z TI TO i1 i2:Addr):Prop where
 TIz:TI≠z
 TOz:TO≠z
 i1z:i1≠z
 i2z:i2≠z
 TITO:TI≠TO
 TIi1:TI≠i1
 TIi2:TI≠i2
 TOi1:TO≠i1
 TOi2:TO≠i2
 i12:i1≠i2
theorem zkx{g:TG}{D:Ends}(Pv:Nat->St->Hp->Prop)(h0:Pv 0 σ H)(hgo:∀i σ H,i<n->Pv i σ H->J.go i H)(hst:∀σ H,Pv n σ H->J.stop n H)
 (hs:∀i x σ H H1,i<n->Pv i σ H->J.yld i H x H1->g x σ H1 λσ2 H2=>tb {D with nx:=Pv (i+1),ct:=Pv (i+1),bk:=D.nx} σ2 H2) (hd:∀σ H,Pv n σ H->D.nx σ H):zkI g tb D σ J H:=by
 refine⟨λi m σ H=>m=n -i/\i<=n/\Pv i σ H,⟨n,`j3,X1 _,h0⟩,?_⟩
 rintro i m σ H ⟨rfl,hi,p⟩
 by_cases hlt:i<n
 ·exact .inr ⟨hgo i σ H hlt p,Pv (i+1),λσ' H' q=>⟨n -(i+1),(),rfl,hlt,q⟩,λx H' y=>hs i x σ H H' hlt p y⟩
 ·have e:i=n:=()
  subst e
  exact .inl ⟨hst σ H p,hd σ H p⟩
noncomputable abbrev lc2(elt t1 i1 t2 i2:Expr)(f1 f2:List Expr)(scope:Scope)(pos:Pos):Expr:= .ListComp elt [⟨t1,i1,f1,0⟩,⟨t2,i2,f2,0⟩] scope pos
theorem zgh(elt t1 i1 t2 i2:Expr)(f1 f2:List Expr)(scope:Scope)(pos:Pos)(it acc:Value)(env:Env):
 compTurn (lc2 elt t1 i1 t2 i2 f1 f2 scope pos) 0 it acc env=(do
  standAt i1.pos
  match←pyNext it with
  |none=>pure (.done .next)
  |some v=>
   letOwnedTupleGo t1 it v
   assign t1 env v
   let mut ok:=true
   for c in f1 do
    if ok then ok ←isTrue c env (eval c env)
   if ok then
    let x ←eval i2 env
    standAt i2.pos
    let x ←foldedSetIterable i2 env x
    let _ ←runOwn (.compStart (lc2 elt t1 i1 t2 i2 f1 f2 scope pos) 1 (←holding [x] (pyIter x)) acc env) env
   again (.compLoop (lc2 elt t1 i1 t2 i2 f1 f2 scope pos) 0 it acc env)):=by rfl
theorem zf7(elt t1 i1 t2 i2:Expr)(f1 f2:List Expr)(scope:Scope)(pos:Pos)(it acc:Value)(env:Env):
 compTurn (lc2 elt t1 i1 t2 i2 f1 f2 scope pos) 1 it acc env=(do
  standAt i2.pos
  match←pyNext it with
  |none=>pure (.done .next)
  |some v=>
   letOwnedTupleGo t2 it v
   assign t2 env v
   let mut ok:=true
   for c in f2 do
    if ok then ok ←isTrue c env (eval c env)
   if ok then
    (do let _ ←call (.builtin "list.append") [acc,←eval elt env])
   again (.compLoop (lc2 elt t1 i1 t2 i2 f1 f2 scope pos) 1 it acc env)):=by rfl
section
variable{it:Value}
theorem zgk(I:Nat->Shared->Prop)
 (turn:∀n s,I n s->wpAny `Y3 A (pyNext it) (λr s1=>match r with
   |none=>R (.ok .next) s1
   |some v=>wpAny `Y3 A (letOwnedTupleGo t2 it v) (λ_ s1'=>wpAny `Y3 A (assign t2 env v) (λ_ s2=>wpAny `Y3 A (zcg f2 env) (λok s3=>
     if ok=true then wpAny `Y3 A (eval elt env) (λx s4=>wpAny `Y3 A (call (.builtin "list.append") [acc,x]) (λ_ s5=>∃m,m<n/\I m s5) (λ_ _=>False) s4) (λ_ _=>False) s3
     else∃m,m<n/\I m s3) (λ_ _=>False) s2) (λ_ _=>False) s1') (λ_ _=>False) s1) (λ_ _=>False) s)
 (n:Nat) (h:I n s):codeAny `Y3 A (.compLoop (lc2 elt t1 i1 t2 i2 f1 f2 scope pos) 1 it acc env) R s:=by
 have no:∀{E:Value->Shared->Prop} (e:Value) (s:Shared),(λ(_:Value) (_:Shared)=>False) e s->E e s:=λ_ _ z=>False.elim z
 refine codeAny_loop rfl I (λn s hI=>?_) n h
 show wpAny _ A ((compTurn (lc2 elt t1 i1 t2 i2 f1 f2 scope pos) 1 it acc env).onRaise (λx=>do noteFrame x env;theTreesLotGoes x)) _ _ s
 refine wpAny_noted ?_
 rw[zf7]
 refine A0 (J3 (A0 (K1 (turn n s hI) (λr s₁ h₁=>?_) no)))
 cases r with
 |none=>exact F0 h₁
 |some v=>
  refine A0 (K1 h₁ (λ_ s1' h1'=>?_) no)
  refine A0 (K1 h1' (λ_ s₂ h₂=>A0 (K1 h₂ (λok s₃ h₃=>?_) no)) no)
  cases ok with
  |false=>exact F0 ⟨rfl,h₃⟩
  |true=>
   exact A0 (A0 (K1 h₃ (λx s₄ h₄=>A0 (K1 h₄ (λ_ s₅ h₅=>F0 (F0 ⟨rfl,h₅⟩)) no)) no))
theorem zf4(I:Nat->Shared->Prop)(hs2:∀x,foldedSetIterable i2 env x=pure x)
 (turn:∀n s,I n s->wpAny `Y3 A (pyNext it) (λr s1=>match r with
   |none=>R (.ok .next) s1
   |some v=>wpAny `Y3 A (letOwnedTupleGo t1 it v) (λ_ s1'=>wpAny `Y3 A (assign t1 env v) (λ_ s2=>wpAny `Y3 A (zcg f1 env) (λok s3=>
     if ok=true then wpAny `Y3 A (eval i2 env) (λx s4=>wpAny `Y3 A (pyIter x) (λit2 s5=>codeAny `Y3 A (.compStart (lc2 elt t1 i1 t2 i2 f1 f2 scope pos) 1 it2 acc env) (λr s6=>match r with| .ok _=>∃m,m<n/\I m s6| .error _=>False) s5) (λ_ _=>False) s4) (λ_ _=>False) s3
     else∃m,m<n/\I m s3) (λ_ _=>False) s2) (λ_ _=>False) s1') (λ_ _=>False) s1) (λ_ _=>False) s)
 (n:Nat) (h:I n s):codeAny `Y3 A (.compLoop (lc2 elt t1 i1 t2 i2 f1 f2 scope pos) 0 it acc env) R s:=by
 have no:∀{E:Value->Shared->Prop} (e:Value) (s:Shared),(λ(_:Value) (_:Shared)=>False) e s->E e s:=λ_ _ z=>False.elim z
 refine codeAny_loop rfl I (λn s hI=>?_) n h
 show wpAny _ A ((compTurn (lc2 elt t1 i1 t2 i2 f1 f2 scope pos) 0 it acc env).onRaise (λx=>do noteFrame x env;theTreesLotGoes x)) _ _ s
 refine wpAny_noted ?_
 rw[zgh]
 refine A0 (J3 (A0 (K1 (turn n s hI) (λr s₁ h₁=>?_) no)))
 cases r with
 |none=>exact F0 h₁
 |some v=>
  refine A0 (K1 h₁ (λ_ s1' h1'=>?_) no)
  refine A0 (K1 h1' (λ_ s₂ h₂=>A0 (K1 h₂ (λok s₃ h₃=>?_) no)) no)
  cases ok with
  |false=>exact F0 ⟨rfl,h₃⟩
  |true=>
   refine A0 (K1 h₃ (λx s₄ h₄=>A0 (J3 (A0 (wpAny_of_eq (hs2 x) (A0 (O2 (K1 h₄ (λit2 s₅ h₅=>?_) no))))))) no)
   refine A0 (wpAny_runOwn (codeAny_mono h₅ λr s₆ h₆=>?_))
   cases r with
   |error e=>exact False.elim h₆
   |ok f=>exact F0 ⟨rfl,h₆⟩
theorem zfq
 (h0:codeAny `Y3 A (.compLoop (lc2 elt t1 i1 t2 i2 f1 f2 scope pos) 1 it acc env) R s)
 (h:wpAny `Y3 A (pyIter it) (λit' s'=>codeAny `Y3 A (.compLoop (lc2 elt t1 i1 t2 i2 f1 f2 scope pos) 1 it' acc env) R s')
   (notedBy `Y3 A env λx s'=>R (.error x) s') s):
 codeAny `Y3 A (.compStart (lc2 elt t1 i1 t2 i2 f1 f2 scope pos) 1 it acc env) R s:=by
 refine codeAny_of_tree ?_
 show wpAny _ _ ((compStart (lc2 elt t1 i1 t2 i2 f1 f2 scope pos) 1 it acc env).onRaise (λx=>do noteFrame x env;standAt theWindowsPlace)) _ _ s
 refine wpAny_notedAt ?_
 unfold compStart
 show wpAny _ _ (ask>>=_) _ _ s
 refine A0 (wpAny_askSetting (wpAny_ite ?_))
 split
 ·first
   |exact A0 (F0 (F0 (And.intro rfl h0)))
   |exact F0 (And.intro rfl h0)
 ·refine A0 (wpAny_rule ?_)
  show wpAny _ _ (standAt i2.pos>>=_) _ _ s
  refine A0 (J3 ?_)
  exact A0 (K1 h (λit' s' h'=>F0 (And.intro rfl h')) λ_ _ z=>z)
end
def zre(g2:TG)(tc2:TT)(te:TE)(l:Addr)(ys:List V)(N:List V->St->Hp->Prop)(J2:It)(σ2:St)(H5:Hp):Prop:=∃W:Nat->Nat->List V->St->Hp->Prop,(∃m,W 0 m ys σ2 H5)/\∀i m ys σ' H',W i m ys σ' H'->H' l=some (.lst ys)->
 (J2.stop i H'/\N ys σ' H')\/(J2.go i H'/\∃N2:List V->St->Hp->Prop,(∀zs σ2 H2,N2 zs σ2 H2->∃m',m'<m/\W (i+1) m' zs σ2 H2)/\∀x H2,J2.yld i H' x H2->g2 x σ' H2 λσ2 H3=>tc2 σ2 H3 λb H4=>
   if b=true then te σ2 H4 λy H5=>H5 l=some (.lst ys)/\ys.length<sizeLine/\N2 (ys ++ [y]) σ2 (upd H5 l (.lst (ys ++ [y])))
   else H4 l=some (.lst ys)/\N2 ys σ2 H4)
def zkT(g:TG)(tc:TT)(wi2:TI)(g2:TG)(tc2:TT)(te:TE)(src:List (Option Nat))(σ:St)(Q:VK)(J:It)(H1:Hp):Prop:=∀l,H1 l=none->
 ∃W:Nat->Nat->List V->St->Hp->Prop,(∃m,W 0 m [] (zdk src σ) (upd H1 l (.lst [])))/\∀i m ys σ' H',W i m ys σ' H'->H' l=some (.lst ys)->
  (J.stop i H'/\Q (.ref l) H')\/(J.go i H'/\∃N:List V->St->Hp->Prop,(∀zs σ2 H2,N zs σ2 H2->∃m',m'<m/\W (i+1) m' zs σ2 H2)/\∀x H2,J.yld i H' x H2->g x σ' H2 λσ2 H3=>tc σ2 H3 λb H4=>
    if b=true then wi2 σ2 H4 λJ2 H5=>H5 l=some (.lst ys)/\zre g2 tc2 te l ys N J2 σ2 H5
    else H4 l=some (.lst ys)/\N ys σ2 H4)
noncomputable def zoc(wi:TI)(g:TG)(tc:TT)(wi2:TI)(g2:TG)(tc2:TT)(te:TE)(src:List (Option Nat)):TE:=λσ H Q=>wi σ H (zkT g tc wi2 g2 tc2 te src σ Q)
section
variable{src:List (Option Nat)}{g:TG}
theorem znN(ok:CompOk X.N osc N' src scope)(hsc:X.env.scope=osc)(hc:X.calm=true)(hi:PI X tg iter wi)
 (hg:∀cl C s₀ H₀ fp,PG `X3 tg g) (ht:∀cl C s₀ H₀ fp,PIf `X3 ifs tc)
 (hi2:∀cl C s₀ H₀ fp,PI `X3 tg2 iter2 wi2) (hg2:∀cl C s₀ H₀ fp,PG `X3 tg2 g2) (ht2:∀cl C s₀ H₀ fp,PIf `X3 ifs2 tc2)
 (he:∀cl C s₀ H₀ fp,PE `X3 elt te) (hxe:∀cl C s₀ H₀ fp e s,(zg X N' scope cl C s₀ H₀ fp).xe e s->False)
 (hs:autoParam (∀x,foldedSetIterable iter X.env x=pure x) y4) (hs2:autoParam (∀env x,foldedSetIterable iter2 env x=pure x) v6):PE X (lc2 elt tg iter tg2 iter2 ifs ifs2 scope pos) (zoc wi g tc wi2 g2 tc2 te src):=by
 intro pins s σ H Q I h
 obtain⟨cl,hcl,c1,c2⟩:=zbK (scope:=scope) (env:=X.env) λy hy hyf=>I.ok.has y.1 (by
  have z:=ok.frees y hy hyf
  rw[←hsc] at z
  exact z)
 rw[eval_ListComp]
 refine wpAny_comprehension_free (use:=none) rfl hs hcl ok.kind ok.loc (thn (hi pins s σ H _ I h) λv s1 h1=>thn h1 λitv s2 h2=>?_)
 obtain⟨it,fp,tn,J,H2,e,I2,T,st2,f2,q2⟩:=h2
 subst e
 have hlt2:∀b∈fp,b<s2.heap.objs.size:=λb hb=>by
  obtain⟨o,e,_⟩:=T.obj _ _ st2 b hb
  exact W0 e
 refine j1 ?_
 have hl:H2 s2.heap.objs.size=none:=I2.hok.fresh (L0 _)
 have I3:Inv X pins σ (upd H2 s2.heap.objs.size (.lst [])) {s2 with heap:=s2.heap.push {cls:= .type "list",dict:=none,data:= .seq ([]:List Value).toArray}}:=
  I2.laid (t':=s2.toks) (λb u e=>G0 _ e) (L0 _) ⟨X1 _,[],0, .nil,T0 _ rfl⟩
 obtain⟨W,⟨m0,w0⟩,turn⟩:=q2 _ hl
 generalize hl2:s2.heap.objs.size=l at *
 generalize hs3:({s2 with heap:=s2.heap.push {cls:= .type "list",dict:=none,data:= .seq ([]:List Value).toArray}}:Shared)=s3 at *
 have f3:∀b∈fp,zb4 X pins (upd H2 l (.lst [])) b:=λb hb=>⟨by rw[zc (P1 (hlt2 b hb))];exact(f2 b hb).1,(f2 b hb).2⟩
 have k3:∀b o,s2.heap.get? b=some o->s3.heap.get? b=some o:=λb o e=>by rw[←hs3];exact G0 _ e
 have hlt3:∀b∈fp,b<s3.heap.objs.size:=λb hb=>by
  obtain⟨o,e,_⟩:=T.obj _ _ st2 b hb
  exact W0 (k3 b o e)
 refine wpAny_newFunctionEnv ok.nocell (by intro y hy;simp at hy) (λh₁ hns₁ hsb₁=>?_) ok.kind
 have k4:∀b o,s3.heap.get? b=some o->h₁.get? b=some o:=λb o e=>(hsb₁.2 b (P1 (W0 e))).trans (G0 _ e)
 have J0:=zbF (tk:=s3.toks+([]:List (Str×Value)).length) I3 f3 hlt3 ok hsc c1 c2 hns₁ k4
 have st4:tn 0 h₁:=T.keep _ _ _ st2 λb hb o e=>k4 b o (k3 b o e)
 generalize hC:s3.heap.objs.size=C at *
 have stat:∀{H':Hp},(∀b∈fp,H' b=none)->∀b∈fp,zb4 (zg X N' scope cl C s3 (upd H2 l (.lst [])) fp) [] H' b:=λ{H'} hn b hb=>
  ⟨hn b hb,(J0.ok.exf b hb).1,J0.ok.exfs b hb, .inl hb,(J0.ok.exf b hb).2,λp hp=>absurd (show p∈([]:List (Addr×Obj))from hp) `j3⟩
 have no:∀{α:Type} {t:Sem α} {Q':α->Shared->Prop} {s':Shared},wpAny `W3 X.A t Q' (zg X N' scope cl C s3 (upd H2 l (.lst [])) fp).xe s'->wpAny `W3 X.A t Q' (λ_ _=>False) s':=λz=>K1 z (λ_ _ q=>q) λe s q=>hxe _ _ _ _ _ e s q
 have loop:codeAny `W3 X.A (.compLoop (lc2 elt tg iter tg2 iter2 ifs ifs2 scope pos) 0 (.ref it) (.ref l) (compEnvC scope cl C X.env))
  (compPost `W3 X.A X.xe none (EP X pins σ Q) (.ref l) C) {s3 with heap:=h₁,toks:=s3.toks+([]:List (Str×Value)).length}:=by
  refine zf4 (λn s'=>∃i ys σ' H',Inv (zg X N' scope cl C s3 (upd H2 l (.lst [])) fp) [] σ' H' s'/\tn i s'.heap/\(∀b∈fp,H' b=none)/\H' l=some (.lst ys)/\W i n ys σ' H') (hs2 _) ?_ m0
   ⟨0,[],_,_,J0,st4,λb hb=>(f3 b hb).1,zb,w0⟩
  rintro n s5 ⟨i,ys,σ5,H5,I5,st5,fr5,hl5,w5⟩
  rcases turn i n ys σ5 H5 w5 hl5 with⟨stop,qn⟩|⟨go,N,hN,step⟩
  ·refine thn (T.done (zg X N' scope cl C s3 (upd H2 l (.lst [])) fp) rfl rfl rfl hc i [] s5 σ5 H5 (λ_ _=>False) I5 (stat fr5) st5 stop) λr s6 ⟨hr,I6⟩=>?_
   subst hr
   obtain⟨m,hn,_⟩:=I6.loc
   exact⟨m,hn,λh' hsb=>⟨.ref l,H5,zbD I3 f3 (by rw[←hC];exact L0 _) I6 hsb,rfl,qn⟩⟩
  ·refine thn (T.item (zg X N' scope cl C s3 (upd H2 l (.lst [])) fp) rfl rfl rfl hc i [] s5 σ5 H5 (λ_ _=>False) I5 (stat fr5) st5 go) λr s6 ⟨u,hr,h6⟩=>?_
   subst hr
   refine thn h6 λ_ s7 zq=>?_
   obtain⟨x,H7,I7,r7,y7,st7,fr7⟩:=zq
   have I7':=I7.pinned (stat fr7) (T.obj _ _ st7)
   refine thn (hg cl C s3 _ fp _ s7 σ5 H7 x u _ I7' r7 (step x H7 y7)) λ_ s8 zq=>?_
   obtain⟨σ8,H8,I8,q8⟩:=zq
   refine thn (ht cl C s3 _ fp _ s8 σ8 H8 _ I8 q8) λb s9 zq=>?_
   obtain⟨H9,I9,q9⟩:=zq
   have back:∀{s':Shared} {H':Hp} {σ':St},Inv (zg X N' scope cl C s3 (upd H2 l (.lst [])) fp) ([]++zan fp s7.heap) σ' H' s'->tn (i+1) s'.heap/\∀b∈fp,H' b=none:=λ{s' H' σ'} I'=>by
    refine⟨T.keep _ _ _ st7 λb hb o e=>(I'.pin (b,o) (O0 _ (O0 _ (zv hb e)))).1,λb hb=>?_⟩
    obtain⟨o,e,d⟩:=T.obj _ _ st7 b hb
    exact(I'.pin (b,o) (O0 _ (O0 _ (zv hb e)))).2.1
   cases b with
   |false=>
    obtain⟨hl9,n9⟩:=q9
    obtain⟨m',hm,w9⟩:=hN _ _ _ n9
    obtain⟨t9,fr9⟩:=back I9
    exact⟨m',hm,i+1,ys,σ8,H9,I9.unpinned,t9,fr9,hl9,w9⟩
   |true=>
    refine thn (no (hi2 cl C s3 _ fp _ s9 σ8 H9 _ I9 q9)) λxv s10 h10=>thn (no h10) λitv2 s11 h11=>?_
    obtain⟨it2,fp2,tn2,J2,H11,e2,I11,T2,st11,ff2,hl11,W2,⟨m2,w2⟩,turn2⟩:=h11
    subst e2
    have stat2:∀{H':Hp},(∀b∈fp2,H' b=none)->∀b∈fp2,zb4 (zg X N' scope cl C s3 (upd H2 l (.lst [])) fp) ([]++zan fp s7.heap) H' b:=λ{H'} hn b hb=>⟨hn b hb,(ff2 b hb).2⟩
    have inner:codeAny `W3 X.A (.compLoop (lc2 elt tg iter tg2 iter2 ifs ifs2 scope pos) 1 (.ref it2) (.ref l) (compEnvC scope cl C X.env)) (λr s6=>match r with| .ok _=>∃m,m<n/\∃i ys σ' H',Inv (zg X N' scope cl C s3 (upd H2 l (.lst [])) fp) [] σ' H' s6/\tn i s6.heap/\(∀b∈fp,H' b=none)/\H' l=some (.lst ys)/\W i m ys σ' H'| .error _=>False) s11:=by
     refine zgk (λn s'=>∃j ys σ' H',Inv (zg X N' scope cl C s3 (upd H2 l (.lst [])) fp) ([]++zan fp s7.heap) σ' H' s'/\tn2 j s'.heap/\(∀b∈fp2,H' b=none)/\H' l=some (.lst ys)/\W2 j n ys σ' H') ?_ m2
      ⟨0,ys,_,_,I11,st11,λb hb=>(ff2 b hb).1,hl11,w2⟩
     rintro n2 s12 ⟨j,zs,σ12,H12,I12,st12,fr12,hl12,w12⟩
     rcases turn2 j n2 zs σ12 H12 w12 hl12 with⟨stop,qn⟩|⟨go,N2,hN2,step2⟩
     ·refine thn (T2.done (zg X N' scope cl C s3 (upd H2 l (.lst [])) fp) rfl rfl rfl hc j _ s12 σ12 H12 (λ_ _=>False) I12 (stat2 fr12) st12 stop) λr s13 ⟨hr,I13⟩=>?_
      subst hr
      obtain⟨m',hm,w13⟩:=hN _ _ _ qn
      obtain⟨t13,fr13⟩:=back I13
      exact⟨m',hm,i+1,zs,σ12,H12,I13.unpinned,t13,fr13,hl12,w13⟩
     ·refine thn (T2.item (zg X N' scope cl C s3 (upd H2 l (.lst [])) fp) rfl rfl rfl hc j _ s12 σ12 H12 (λ_ _=>False) I12 (stat2 fr12) st12 go) λr s13 ⟨u2,hr,h13⟩=>?_
      subst hr
      refine thn h13 λ_ s14 zq=>?_
      obtain⟨x2,H14,I14,r14,y14,st14,fr14⟩:=zq
      have I14':=I14.pinned (stat2 fr14) (T2.obj _ _ st14)
      refine thn (hg2 cl C s3 _ fp _ s14 σ12 H14 x2 u2 _ I14' r14 (step2 x2 H14 y14)) λ_ s15 zq=>?_
      obtain⟨σ15,H15,I15,q15⟩:=zq
      refine thn (ht2 cl C s3 _ fp _ s15 σ15 H15 _ I15 q15) λb s16 zq=>?_
      obtain⟨H16,I16,q16⟩:=zq
      have back2:∀{s':Shared} {H':Hp} {σ':St},Inv (zg X N' scope cl C s3 (upd H2 l (.lst [])) fp) (([]++zan fp s7.heap)++zan fp2 s14.heap) σ' H' s'->tn2 (j+1) s'.heap/\∀b∈fp2,H' b=none:=λ{s' H' σ'} I'=>by
       refine⟨T2.keep _ _ _ st14 λb hb o e=>(I'.pin (b,o) (O0 _ (O0 _ (zv hb e)))).1,λb hb=>?_⟩
       obtain⟨o,e,d⟩:=T2.obj _ _ st14 b hb
       exact(I'.pin (b,o) (O0 _ (O0 _ (zv hb e)))).2.1
      cases b with
      |false=>
       obtain⟨hl16,n16⟩:=q16
       obtain⟨m',hm,w16⟩:=hN2 _ _ _ n16
       obtain⟨t16,fr16⟩:=back2 I16
       exact⟨m',hm,j+1,zs,σ15,H16,I16.unpinned,t16,fr16,hl16,w16⟩
      |true=>
       refine thn (he cl C s3 _ fp _ s16 σ15 H16 _ I16 q16) λxv2 s17 zq=>?_
       obtain⟨y,H17,I17,r17,hl17,hz,n17⟩:=zq
       obtain⟨m',hm,w17⟩:=hN2 _ _ _ n17
       refine thn (z5 (X:=zg X N' scope cl C s3 (upd H2 l (.lst [])) fp) _ s17 σ15 H17 (.ref l) [y] (.ref l) [xv2] (λv H'=>H'=upd H17 l (.lst (zs ++ [y]))) I17 rfl (.cons r17 .nil) ⟨l,zs,y,rfl,rfl,hl17,hz,rfl⟩) λ_ s18 ⟨_,H18,I18,_,e18⟩=>?_
       subst e18
       obtain⟨t18,fr18⟩:=back2 I18
       exact⟨m',hm,j+1,zs ++ [y],σ15,_,I18.unpinned,t18,fr18,zb,w17⟩
    exact zfq inner (T2.self _ 0 _ _ _ st11 inner)
 exact codeAny_compStart_list loop (T.self _ 0 _ _ _ st4 loop)
theorem zpq(ok:CompOk X.N osc N' src scope)(hsc:X.env.scope=osc)(hc:X.calm=true)(hi:QI X tg iter wi)
 (hg:∀cl C s₀ H₀ fp,QG `X3 tg g) (ht:∀cl C s₀ H₀ fp,QF `X3 ifs tc)
 (hi2:∀cl C s₀ H₀ fp,QI `X3 tg2 iter2 wi2) (hg2:∀cl C s₀ H₀ fp,QG `X3 tg2 g2) (ht2:∀cl C s₀ H₀ fp,QF `X3 ifs2 tc2)
 (he:∀cl C s₀ H₀ fp,QE `X3 elt te) (hxe:autoParam (∀cl C s₀ H₀ fp e s,(zg X N' scope cl C s₀ H₀ fp).xe e s->False) v7)
 (hs:autoParam (∀x,foldedSetIterable iter X.env x=pure x) y4) (hs2:autoParam (∀env x,foldedSetIterable iter2 env x=pure x) v6):QE X (.ListComp elt [⟨tg,iter,ifs,0⟩,⟨tg2,iter2,ifs2,0⟩] scope pos) (zoc wi g tc wi2 g2 tc2 te src):=
 ⟨znN ok hsc hc hi.o (λcl C s₀ H₀ fp=>(hg cl C s₀ H₀ fp).o) (λcl C s₀ H₀ fp=>(ht cl C s₀ H₀ fp).o) (λcl C s₀ H₀ fp=>(hi2 cl C s₀ H₀ fp).o) (λcl C s₀ H₀ fp=>(hg2 cl C s₀ H₀ fp).o) (λcl C s₀ H₀ fp=>(ht2 cl C s₀ H₀ fp).o) (λcl C s₀ H₀ fp=>(he cl C s₀ H₀ fp).o) hxe hs hs2⟩
end
def ztq(v:V)(y:Str):Prop:=v= .str y\/∃i:Int,v= .int i/\y=(toString i:String)/\i.natAbs.log2<1920
section
variable{ts:List TE}
structure QP1(X:Cx)(e:Expr)(te:TE):Prop where
 o:∀(pins:List (Addr×Obj)) (s:Shared) (σ:St) (H:Hp) (Q:Str->Hp->Prop),Inv X pins σ H s->(te σ H λv H1=>∃y,ztq v y/\y.length<=sizeLine/\Q y H1)->
  wpAny (model X.prog X.w) X.A (eval e X.env) (λu s1=>∃y t H1,u= .str y t/\Inv X pins σ H1 s1/\Q y H1) X.xe s
inductive QJ(X:Cx):List Expr->List TE->Prop
 |nil:QJ X [] []
 |cons {e:Expr} {t:TE} {es:List Expr} {ts:List TE} (h:QP1 X e t) (r:QJ X es ts):QJ X (e::es) (t::ts)
end
theorem zcd(x y:Str):(x ++y).length=x.length+y.length:=Array.size_append
theorem ztm{sep:Str}:Str.join sep (x::y::r)=x ++sep ++Str.join sep (y::r):=rfl
theorem zin{sep:Str}{c m:Nat}(hs:sep.length<=m):∀{xs:List Str},(∀x∈xs,x.length<=c)->(Str.join sep xs).length<=xs.length*(c+m)
 |[],_=>by show(Str.empty).length<=_;exact X1 _
 |[x],h=>by show x.length<=1*(c+m);have:=h x `j3;lia
 |x::y::r,h=>by
  rw[ztm,zcd,zcd]
  have h1:=h x `j3
  have h2:=zin hs (xs:=y::r) λz hz=>h z (V0 _ hz)
  rw[Y1,Nat.add_mul,Nat.one_mul]
  lia
theorem zrF(hK:X.K=K)(h:QE X e te):QI X tg e (zsw K te):=by subst hK;exact zbd h
theorem zlN{g:TG}{src:List (Option Nat)}{Q:VK}(Pv:Addr->Nat->List V->St->Hp->Prop)
 (h0:∀l,H1 l=none->Pv l 0 [] (zdk src σ) (upd H1 l (.lst []))) (hgo:∀l i ys σ H,H1 l=none->i<n->Pv l i ys σ H->J.go i H) (hst:∀l ys σ H,H1 l=none->Pv l n ys σ H->J.stop n H)
 (hs:∀l i x ys σ H H2,H1 l=none->i<n->Pv l i ys σ H->H l=some (.lst ys)->J.yld i H x H2->g x σ H2 λσ2 H3=>tc σ2 H3 λb H4=>
   if b=true then wi2 σ2 H4 λJ2 H5=>H5 l=some (.lst ys)/\zre g2 tc2 te l ys (Pv l (i+1)) J2 σ2 H5 else H4 l=some (.lst ys)/\Pv l (i+1) ys σ2 H4)
 (hd:∀l ys σ H,H1 l=none->Pv l n ys σ H->H l=some (.lst ys)->Q (.ref l) H):zkT g tc wi2 g2 tc2 te src σ Q J H1:=by
 intro l hl
 refine⟨λi m ys σ H=>m=n -i/\i<=n/\Pv l i ys σ H,⟨n,`j3,X1 _,h0 l hl⟩,?_⟩
 rintro i m ys σ' H' ⟨rfl,hi,p⟩ hl'
 by_cases hlt:i<n
 ·exact .inr ⟨hgo l i ys σ' H' hl hlt p,Pv l (i+1),λzs σ2 H2 q=>⟨n -(i+1),(),rfl,hlt,q⟩,λx H2 y=>hs l i x ys σ' H' H2 hl hlt p hl' y⟩
 ·have e:i=n:=()
  subst e
  exact .inl ⟨hst l ys σ' H' hl p,hd l ys σ' H' hl p hl'⟩
theorem zs4{P:Nat->V->Prop}{ok:Hp->Prop}{N:List V->St->Hp->Prop}(wk:Wk J n P ok)(Pv:Nat->List V->St->Hp->Prop)(h0:Pv 0 ys σ H)(hok:∀i ys σ H,Pv i ys σ H->ok H)
 (hs:∀i x ys σ H,i<n->P i x->Pv i ys σ H->H l=some (.lst ys)->g2 x σ H λσ2 H3=>tc2 σ2 H3 λb H4=>
   if b=true then te σ2 H4 λy H5=>H5 l=some (.lst ys)/\ys.length<sizeLine/\Pv (i+1) (ys ++ [y]) σ2 (upd H5 l (.lst (ys ++ [y])))else H4 l=some (.lst ys)/\Pv (i+1) ys σ2 H4)
 (hd:∀ys σ H,Pv n ys σ H->N ys σ H):zre g2 tc2 te l ys N J σ H:=by
 refine⟨λi m ys σ H=>m=n -i/\i<=n/\Pv i ys σ H,⟨n,`j3,X1 _,h0⟩,?_⟩
 rintro i m ys σ H ⟨rfl,hi,p⟩ hl
 by_cases hlt:i<n
 ·refine .inr ⟨wk.go i H (hok i ys σ H p) hlt,Pv (i+1),λzs σ' H' q=>⟨n -(i+1),(),rfl,hlt,q⟩,λx H' y=>?_⟩
  obtain⟨rfl,px⟩:=wk.yld i H x H' (hok i ys σ H p) hlt y
  exact hs i x ys σ _ hlt px p hl
 ·have e:i=n:=()
  subst e
  exact .inl ⟨wk.stop i H (hok i ys σ H p) (L0 _),hd ys σ H p⟩
section
variable{K:Type}[DecidableEq K]{knd:KeyKind prog w K}
structure DzAt(h:Heap)(knd:KeyKind prog w K)(t1 t2:Bool)(z TI i1 i2 l1 l2 d:Addr)(xs ys:Array Value)(kvs:List (K×Value))(i:Nat):Prop where
 TI:IsPair h TI (.ref i1) (.ref i2)
 p1:ItH t1 h i1 l1 i
 p2:ItH t2 h i2 l2 i
 q1:SqH t1 h l1 xs
 q2:SqH t2 h l2 ys
 dd:h.DictOf knd d kvs
structure DzD(z TI TO0 i1 i2 l1 l2 d:Addr):Prop extends ZipApart z TI TO0 i1 i2 l1 l2 where
 dz:d≠z
 dTI:d≠TI
 di1:d≠i1
 di2:d≠i2
 dl1:d≠l1
 dl2:d≠l2
 TIl1:True
end
noncomputable def zaV(hs:List Str)(ys:List V):List (Key×V):=(hs.zip ys).map λp=>(Sum.inr p.1,p.2)
theorem zpE(nd:hs.Nodup)(h1:hs[j]?=some x)(h2:ys[j]?=some v):zae (zaV hs ys) (Sum.inr x)=some v:=by
 induction hs generalizing ys j with
 |nil=>simp at h1
 |cons h hs ih=>
  rw[U1] at nd
  cases ys with
  |nil=>simp at h2
  |cons y ys=>
   cases j with
   |zero=>
    simp at h1 h2
    subst h1 h2
    simp[zaV,zae]
   |succ j=>
    simp only[List.getElem?_cons_succ] at h1 h2
    have hne:¬h=x:=λe=>nd.1 (e▸B1 h1)
    have:=ih nd.2 h1 h2
    simpa[zaV,zae,List.find?_cons,hne] using this
theorem Tr.noDict{x:V}{d:PyData}(t:Tr H x d):d.hasDict=false:=PyData.hasDict_of_canLay d t.can
theorem zjB(hg:X.A.guards=some [])(hu:X.A.units+64<cLine):CallR X (.builtin "repr") (λxs H Q=>∃(a:Addr) (d:PyData),xs=[.ref a]/\Tr H (.ref a) d/\d.showable=true/\d.depth<=60/\d.shown.length<=sizeLine/\Q (.str d.shown) H):=by
 intro pins s σ H xs us Q I r h
 obtain⟨a,d,rfl,t,hs,hd,hl,q⟩:=h
 obtain⟨u,rfl,ru⟩:=za8 r
 cases ru
 obtain⟨as,rd⟩:=t.reads I (.ref a) rfl
 refine repr_of_reads' rd hs (PyData.noDict_hsm t.noDict) hg () (λb o e=>e) (λh' u tk hk=>?_) hl
 exact⟨.str _,H,I.kept (t':=tk) hk,⟨u,rfl⟩,q⟩
theorem zkf:CallR X (.builtin "repr") (λxs H Q=>xs=[.non]/\Q (.str "None") H):=by
 intro pins s σ H xs us Q I r h
 obtain⟨rfl,q⟩:=h
 obtain⟨u,rfl,ru⟩:=za8 r
 cases ru
 exact call_repr_gives (T:="NoneType") rfl F.slot_NoneType_repr F.entry_NoneType_repr (F.args_NoneType_repr_1 _) gives_none_repr ⟨.str _,H,I.tok _,⟨_,rfl⟩,q⟩ rfl (by rw[K3];decide)
def Shw(c k:Nat)(d:D):Prop:=okD d=true/\(pyD d).showable=true/\(pyD d).depth<=k/\(pyD d).shown.length<=c
theorem zoW(h:PyData.strOk x=true)(hl:x.length<=8):Shw 82 1 (.str x):=by
 refine⟨by rw[okD];exact h,by rw[pyD,PyData.showable],by rw[pyD,PyData.depth];lia,?_⟩
 rw[pyD,PyData.shown]
 have hc:∀c∈x.cps.toList,c<16^8:=λc hc=>by
  unfold PyData.strOk at h
  rw[Array.all_eq_true'] at h
  have:=Y0 (h c (Array.mem_toList_iff.mp hc))
  lia
 have:=StrLaws.reprText_len x hc
 lia
theorem showableAll_of:∀{xs:List PyData},(∀x∈xs,x.showable=true)->PyData.showableAll xs=true
 |[],_=>by rw[PyData.showableAll]
 |x::xs,h=>by rw[PyData.showableAll,h x Q0,showableAll_of λy hy=>h y (V0 _ hy)];rfl
theorem zcx:∀{xs:List PyData},PyData.shownAll xs=xs.map PyData.shown
 |[]=>by rw[PyData.shownAll];rfl
 |x::xs=>by rw[PyData.shownAll,V1,zcx]
theorem zql{c:Nat}(m:Nat)(hm:ds.length<=m)(h:∀d∈ds,Shw c k d):Shw (m*(c+2)+3) (k+1) (.tup ds):=by
 refine⟨by rw[okD];exact zjW λd hd=>(h d hd).1,?_,?_,?_⟩
 ·rw[pyD,PyData.showable,zdb]
  exact showableAll_of λx hx=>by obtain⟨d,hd,rfl⟩:=X0.mp hx;exact(h d hd).2.1
 ·rw[pyD,PyData.depth,zdb]
  have:=zcM (n:=k) (xs:=ds.map pyD) λx hx=>by obtain⟨d,hd,rfl⟩:=X0.mp hx;exact(h d hd).2.2.1
  lia
 ·rw[pyD,PyData.shown,zdb,zcx,G3]
  have hc:∀x∈ds.map (PyData.shown∘pyD),x.length<=c:=λx hx=>by obtain⟨d,hd,rfl⟩:=X0.mp hx;exact(h d hd).2.2.2
  have jl:=zin (sep:=", ") (m:=2) ⋯ hc
  rw[C0] at jl
  unfold tupleText
  rw[zcd,zcd]
  have l1:("(":Str).length=1:=rfl
  have l2:(Str.ofString (if(ds.map (PyData.shown∘pyD)).length==1 then",)"else ")")).length<=2:=by split<;>decide
  have:ds.length*(c+2)<=m*(c+2):=Nat.mul_le_mul_right _ hm
  rw[l1]
  have l2':(Str.ofString (if(ds.map (PyData.shown∘pyD)).length==1 then",)"else ")":String)).length<=2:=l2
  lia
theorem zny(h:zf x=true):Shw 82 1 (.str x):=zoW (zaa h) (by
 unfold zf at h
 simp only[E1,decide_eq_true_eq] at h
 lia)
section
open PySem.W
section
variable{N:Nat}{lt:Nat->Nat->Bool}
theorem zm2{p:Array Nat}(hp:PermN N p)(i n:Nat):PermN N (kas_rev p i n):=(Array.perm_iff_toList_perm.mp (mirror_perm p i n _)).trans hp
theorem zmo{p:Array Nat}(hp:PermN N p):∀f n,1<=n->n+f<=N->OkT N lt (kas_asc p f n) (λm=>n<=m/\m<=n+f)
 |0,n,_,_=>⟨L0 _,L0 _⟩
 |f+1,n,h1,hn=>by
  refine⟨hp.bd (),hp.bd (),?_⟩
  cases hc:lt (gd p n) (gd p (n -1))with
  |true=>
   show OkT N lt (if true=true then _ else _) _
   rw[c0 rfl]
   exact⟨L0 _,()⟩
  |false=>
   show OkT N lt (if false=true then _ else _) _
   rw[P0 ⋯]
   exact OkT.mono (λm hm=>⟨(),()⟩) (zmo hp f (n+1) () ())
theorem zgV:∀f (p:Array Nat) n q,PermN N p->1<=n->n+f<=N->OkT N lt (kas_desc f p n q) (λr=>PermN N r.1/\n<=r.2.1/\r.2.1<=n+f)
 |0,p,n,q,hp,_,_=>⟨hp,L0 _,L0 _⟩
 |f+1,p,n,q,hp,h1,hn=>by
  refine⟨hp.bd (),hp.bd (),?_⟩
  cases hc:lt (gd p n) (gd p (n -1))with
  |true=>
   show OkT N lt (if true=true then(if q>0 then _ else _)else _) _
   rw[c0 rfl]
   split
   ·exact OkT.mono (λm hm=>⟨hm.1,(),()⟩) (zgV f _ (n+1) 0 (zm2 hp _ _) () ())
   ·exact OkT.mono (λm hm=>⟨hm.1,(),()⟩) (zgV f _ (n+1) 0 hp () ())
  |false=>
   show OkT N lt (if false=true then _ else _) _
   rw[P0 ⋯]
   refine⟨hp.bd (),hp.bd (),?_⟩
   cases hd:lt (gd p (n -1)) (gd p n)with
   |true=>
    show OkT N lt (if true=true then _ else _) _
    rw[c0 rfl]
    exact⟨hp,L0 _,by show n<=n+(f+1);lia⟩
   |false=>
    show OkT N lt (if false=true then _ else _) _
    rw[P0 ⋯]
    exact OkT.mono (λm hm=>⟨hm.1,(),()⟩) (zgV f _ (n+1) _ hp () ())
def zjF(N:Nat)(r:Nat×Array Nat):Prop:=PermN N r.2/\1<=r.1/\r.1<=N
theorem zkr{p:Array Nat}(hp:PermN N p)(h1:1<=n)(hn:n<=N):OkT N lt (kas_tail3 n N p) (zjF N):=by
 refine OkT.bind (OkT.mono (λm hm=>?_) (zmo (zm2 hp 0 n) (N -n) n h1 ()))
 exact⟨zm2 hp 0 n,by have:=hm.1;lia,by have:=hm.2;lia⟩
theorem zfT{p:Array Nat}(hp:PermN N p)(h1:1<=n)(hn:n<N):OkT N lt (kas_descPart n N p) (zjF N):=by
 refine OkT.bind (OkT.mono (λr hr=>?_) (zgV (N -(n+1)) p (n+1) 0 hp () ()))
 obtain⟨r1,r2,r3⟩:=hr
 split
 ·exact zkr (zm2 r1 _ _) () ()
 ·exact zkr r1 () ()
theorem zph{p:Array Nat}(hp:PermN N p)(h1:1<=N):OkT N lt (kas_count N p) (zjF N):=by
 refine OkT.bind (OkT.mono (λn hn=>?_) (zmo hp (N -1) 1 (L0 _) ()))
 obtain⟨n1,n2⟩:=hn
 by_cases hN:(n==N)=true
 ·rw[c0 hN]
  exact⟨hp,n1,by show n<=N;lia⟩
 ·have hne:n≠N:=by simpa using hN
  rw[P0 hN]
  by_cases h2:n>1
  ·rw[c0 h2]
   refine⟨hp.bd (),hp.bd (),?_⟩
   cases hc:lt (gd p 0) (gd p (n -1))with
   |true=>
    show OkT N lt (if true=true then _ else _) _
    rw[c0 rfl]
    exact⟨hp,n1,by show n<=N;lia⟩
   |false=>
    show OkT N lt (if false=true then _ else _) _
    rw[P0 ⋯]
    exact zfT (zm2 hp 0 n) n1 ()
  ·rw[P0 h2]
   exact zfT hp n1 ()
theorem zho{p:Array Nat}{k:Nat}(hp:PermN N p)(hk:k<N):∀f l r,l<=r->r<=k->OkT N lt (kas_place p k f l r) (λ_=>True)
 |0,l,r,_,_=>trivial
 |f+1,l,r,h1,h2=>by
  by_cases hlr:l≥r
  ·show OkT N lt (if l≥r then _ else _) _
   rw[c0 hlr]
   trivial
  ·show OkT N lt (if l≥r then _ else _) _
   rw[P0 hlr]
   refine⟨hp.bd hk,hp.bd (),?_⟩
   cases hc:lt (gd p k) (gd p ((l+r)/2))with
   |true=>
    show OkT N lt (if true=true then _ else _) _
    rw[c0 rfl]
    exact zho hp hk f l ((l+r)/2) () ()
   |false=>
    show OkT N lt (if false=true then _ else _) _
    rw[P0 ⋯]
    exact zho hp hk f ((l+r)/2+1) r () h2
theorem zqO:∀f (p:Array Nat) k,PermN N p->k+f=N->OkT N lt (kas_bin f p k) (λp'=>PermN N p')
 |0,p,k,hp,hk=>hp
 |f+1,p,k,hp,hk=>by
  refine OkT.bind (OkT.mono (λl _=>?_) (zho hp () k 0 k (X1 _) (L0 _)))
  exact zqO f _ (k+1) ((Array.perm_iff_toList_perm.mp (bubble_perm p k _)).trans hp) ()
theorem zsp(h1:1<=N):OkT N lt (kas_sort N) (λp=>PermN N p):=by
 have h0:PermN N (List.toArray (List.range N)):=by show(List.range N).Perm _;exact List.Perm.refl _
 refine OkT.bind (OkT.mono (λr hr=>?_) (zph h0 h1))
 obtain⟨c1,c3,c4⟩:=hr
 by_cases h:r.1<N
 ·rw[c0 h]
  have e:max r.1 1=r.1:=()
  rw[e]
  exact zqO _ _ _ c1 ()
 ·rw[P0 h]
  exact c1
theorem sort_any(h1:1<=N):OkT N lt (kas_sort N) (λp=>PermN N p/\(Strict N lt->Sor lt p N)):=by
 by_cases S:Strict N lt
 ·exact OkT.mono (λp hp=>⟨hp.1,λ_=>hp.2⟩) (zpl S h1)
 ·exact OkT.mono (λp hp=>⟨hp,λz=>absurd z S⟩) (zsp h1)
end
theorem zh8:∀{a b:List Str},ltL a b=true->ltL b a=false
 |[],[],h=>by cases h
 |[],_::_,_=>rfl
 |_::_,[],h=>by cases h
 |x::xs,y::ys,h=>by
  rw[ltL] at h⊢
  by_cases e:x=y
  ·rw[c0 e] at h;rw[c0 e.symm];exact zh8 h
  ·rw[P0 e] at h;rw[P0 (Ne.symm e)];exact zaU h
theorem zfI:∀{a b:List Str},a≠b->ltL a b=false->ltL b a=true
 |[],[],h,_=>absurd rfl h
 |[],_::_,_,e=>by cases e
 |_::_,[],_,_=>rfl
 |x::xs,y::ys,h,e=>by
  rw[ltL] at e⊢
  by_cases z:x=y
  ·rw[c0 z] at e;rw[c0 z.symm];exact zfI (λq=>h (by rw[z,q])) e
  ·rw[P0 z] at e;rw[P0 (Ne.symm z)];exact za6 z e
theorem zk7:∀{a b c:List Str},ltL a b=true->ltL b c=true->ltL a c=true
 |[],[],_,h,_=>by cases h
 |[],_::_,[],_,h=>by cases h
 |[],_::_,_::_,_,_=>rfl
 |_::_,[],_,h,_=>by cases h
 |_::_,_::_,[],_,h=>by cases h
 |x::xs,y::ys,z::zs,h1,h2=>by
  rw[ltL] at h1 h2⊢
  by_cases e1:x=y
  ·rw[c0 e1] at h1
   subst e1
   by_cases e2:x=z
   ·rw[c0 e2] at h2⊢;exact zk7 h1 h2
   ·rw[P0 e2] at h2⊢;exact h2
  ·rw[P0 e1] at h1
   by_cases e2:y=z
   ·rw[c0 e2] at h2;subst e2;rw[P0 e1];exact h1
   ·rw[P0 e2] at h2
    have h3:=zhq h1 h2
    rw[P0 (zjj h3)];exact h3
def TupL(h:Heap)(u:Value)(p:List Str):Prop:=∃b o n its,u= .ref b/\h.get? b=some o/\o.cls= .type "tuple"/\o.data= .seq its n/\Vals (p.map V.str) its.toList
theorem TupL.keeps{p:List Str}(x:TupL h u p)(k:∀b o,h.get? b=some o->h'.get? b=some o):TupL h' u p:=let⟨b,o,n,its,e,g,r⟩:=x;⟨b,o,n,its,e,k _ _ g,r⟩
theorem zij{prog:Program}{w:World}{A:Around}{s:Shared}{C:Bool->Shared->Prop}{fin:Bool}:∀{p q:List Str} {its jts:List Value} (i:Nat),Vals (p.map V.str) its->Vals (q.map V.str) jts->(fin=decide (p.length+i<q.length+i))->C (ltL p q) s->KatLex prog w A true fin C (its.zip jts) i s
 |[],q,its,jts,i,r1,r2,hf,h=>by
  cases r1
  refine kat_nil ?_
  cases q with
  |nil=>simp at hf;subst hf;exact h
  |cons y ys=>simp at hf;subst hf;exact h
 |x::xs,[],its,jts,i,r1,r2,hf,h=>by
  cases r2
  rw[List.zip_nil_right]
  refine kat_nil ?_
  rw[A1 `j3] at hf;subst hf;exact h
 |x::xs,y::ys,its,jts,i,r1,r2,hf,h=>by
  cases r1 with
  |cons a1 r1=>
   cases r2 with
   |cons a2 r2=>
    obtain⟨t1,rfl⟩:=a1
    obtain⟨t2,rfl⟩:=a2
    rw[List.zip_cons_cons]
    refine kat_cons (wpAny_eqBool_str ?_)
    rw[ltL] at h
    by_cases e1:x=y
    ·rw[c0 e1] at h
     rw[U0 e1]
     exact kat_yes (zij (i+1) r1 r2 (by rw[hf];simp only[Y1];congr 1;exact propext ⟨λh=>(),λh=>()⟩) h)
    ·rw[P0 e1] at h
     rw[A1 e1]
     refine kat_no ?_
     cases i with
     |zero=>
      show wpAny `Y3 A (oneLt' true (.str x t1) (.str y t2)) C _ s
      exact oneLt_str h
     |succ i=>
      show wpAny `Y3 A (oneLt' false (.str x t1) (.str y t2)) C _ s
      exact kat_one _ _ (lt_str h)
theorem zml{v:Value}{p:List Str}{C:Bool->Shared->Prop}(x:TupL s.heap u p)(y:TupL s.heap v q)(h:C (ltL p q) s):wpAny `Y3 A (keyLt' (tuples' true) u v) C E s:=by
 obtain⟨b,o,n,its,rfl,g,_,d,r⟩:=x
 obtain⟨b',o',n',jts,rfl,g',_,d',r'⟩:=y
 refine kat_lt g d g' d' (zij 0 r r' ?_ h)
 have l1:=r.length
 have l2:=r'.length
 simp only[C0,C1] at l1 l2
 rw[Nat.add_zero,Nat.add_zero,l1,l2]
theorem zje{h:Heap}:∀{us:List Value} {ps:List (List Str)},us.length=ps.length->(∀p∈ps,0<p.length)->(∀(i:Nat) (u:Value) (p:List Str),us[i]?=some u->ps[i]?=some p->TupL h u p)->∃fs,KatTups h us fs/\fs.length=us.length/\∀f∈fs,∃x t,f=Value.str x t
 |[],[],_,_,_=>⟨[],trivial,rfl,λ_ z=>nomatch z⟩
 |[],_::_,z,_,_=>by simp at z
 |_::_,[],z,_,_=>by simp at z
 |u::us,p::ps,hl,hp,hx=>by
  obtain⟨fs,h1,h2,h3⟩:=zje (us:=us) (ps:=ps) (by simpa using hl) (λq hq=>hp q (V0 _ hq)) λi u p e1 e2=>hx (i+1) u p (by simpa using e1) (by simpa using e2)
  obtain⟨b,o,n,its,rfl,g,c,d,r⟩:=hx 0 u p rfl rfl
  obtain⟨x,xs,rfl⟩:∃x xs,p=x::xs:=by
   match p,hp p (Q0)with
   |x::xs,_=>exact ⟨x,xs,rfl⟩
  obtain⟨l⟩:=its
  cases r with
  |cons a r=>
   obtain⟨t,rfl⟩:=a
   refine⟨.str x t::fs,KatTups.cons g c d rfl h1,by simp[h2],λf hf=>?_⟩
   rcases R0.mp hf with rfl|hf
   ·exact ⟨_,_,rfl⟩
   ·exact h3 f hf
noncomputable def lAt(ps:List (List Str))(i:Nat):List Str:=ps.getD i []
theorem ziv{ps:List (List Str)}(hn:ps.Nodup):Strict ps.length (λi j=>ltL (lAt ps i) (lAt ps j)) where
 tot:=λi j hi hj hij e=>zfI (λz=>hij ((List.getElem_inj hn (h₀:=hi) (h₁:=hj)).mp (by unfold lAt at z;simpa[hi,hj] using z))) e
 tr:=λi j k _ _ _ h1 h2=>zk7 h1 h2
 asy:=λi j _ _ h=>zh8 h
theorem zpp{ps:List (List Str)}:(List.range ps.length).map (lAt ps)=ps:=by
 apply List.ext_getElem?
 intro i
 rw[N0]
 rcases D1 i ps.length with h|h
 ·rw[List.getElem?_range h]
  show some (lAt ps i)=_
  unfold lAt
  simp[h]
 ·rw[I0 (by simpa using h),I0 h];rfl
def zH(H:Hp)(vs:List V)(ps:List (List Str)):Prop:=vs.length=ps.length/\∀(i:Nat) (v:V) (p:List Str),vs[i]?=some v->ps[i]?=some p->∃b,v= .ref b/\H b=some (.tup (p.map V.str))
theorem zeI{o:Obj}{R:Value->Shared->Prop}{κ:SortKind}(hT:T="list"\/T="tuple")(ho:s.heap.get? l=some o)(hc:o.cls= .type T)(hd:o.data= .seq ks.toArray n)(h64:ks.length<64)
 (hk:2<=ks.length->∀s1:Shared,(∀b o,s.heap.get? b=some o->s1.heap.get? b=some o)->(∀C:SortKind->Shared->Prop,C κ s1->wpAny `Y3 A.in1.in1 (keyKind' ks.toArray) C (λ_ _=>False) s1)/\(kas_sort ks.length).kasWp (kas_ask prog w A.in1.in1 κ ks) (λp s'=>s'=s1/\G p) s1)
 (q:∀(D:Addr) (out:List Value) (h':Heap) (c:Nat),(ks.length<2/\out=ks\/∃p:Array Nat,p.size=ks.length/\G p/\out=p.toList.map λi=>ks.getD i Value.none)->(∀b o,s.heap.get? b=some o->h'.get? b=some o)->
   s.heap.objs.size<=D->h'.get? D=some (seqObj "list" out.toArray c)->R (.ref D) {s with heap:=h'}):wpAny `Y3 A (call (.builtin "sorted") [.ref l]) R E s:=by
 refine Calls.call_function_entry kind_sorted plain_sorted entry_sorted (args_sorted1 _) ?_
 unfold Builtin.«sorted»
 refine A0 (m:=checkCount "sorted" 1 1 _) (F0 (A0 (zeJ hT ho hc hd (by rw[K3];lia) λh1 kp gr0=>?_)))
 refine A0 (wpAny_newList ?_ (by rw[K3];lia))
 have hD:(h1.push (seqObj "list" ks.toArray 0)).get? h1.objs.size=some (seqObj "list" ks.toArray 0):=T0 _ rfl
 have k2:∀b o,s.heap.get? b=some o->(h1.push (seqObj "list" ks.toArray 0)).get? b=some o:=λb o e=>G0 _ (kp b o e)
 have gr:s.heap.objs.size<=h1.objs.size:=A3 gr0
 show wpAny _ _ _ _ _ {s with heap:=h1.push (seqObj "list" ks.toArray 0)}
 refine A0 (O2 (G2 slot_list_sort ⟨_,hD,rfl⟩ entry_list_sort (zlI (G:=G) (κ:=κ) (s:={s with heap:=h1.push (seqObj "list" ks.toArray 0)}) hD h64 (λh2 s1 k1=>?_) λout h' c hc hkp hg=>?_) (args_list_sort _)))
 ·obtain ⟨x1,x2⟩:=hk h2 s1 λb o e=>k1.2 b o (P1 (A2 (W0 e) gr)) (k2 b o e)
  exact⟨λC hC=>K1 (x1 C hC) (λ_ _ z=>z) λ_ _ z=>z.elim,x2⟩
 ·exact ⟨_,rfl,F0 ⟨_,rfl,q h1.objs.size out h' c hc (λb o e=>hkp b o (P1 (A2 (W0 e) gr)) (k2 b o e)) gr hg⟩⟩
def zpz(K:W.Frag):List V->Hp->VK->Prop:=λxs H Q=>∃(p:Addr) (vs:List V) (ps:List (List Str)),xs=[.ref p]/\(SqL K H p vs\/SqT K H p vs)/\zH H vs ps/\(∀q∈ps,0<q.length)/\ps.length<64/\
 ∀(ps':List (List Str)) (vs':List V) l,ps'.Perm ps->(ps.Nodup->ps'.Pairwise (λa b=>ltL a b=true))->zH H vs' ps'->H l=none->Q (.ref l) (upd H l (.lst vs'))
theorem zfA(hl:vs.length=us.length)(h:∀(i:Nat) (v:V) (u:Value),vs[i]?=some v->us[i]?=some u->RelV v u):Vals vs us:=by
 induction vs generalizing us with
 |nil=>match us,hl with|[],_=>exact .nil
 |cons v vs ih=>
  match us,hl with
  |u::us,hl=>exact .cons (h 0 v u rfl rfl) (ih (by simpa using hl) λi v u e1 e2=>h (i+1) v u (by simpa using e1) (by simpa using e2))
theorem zdt:CallR X (.builtin "sorted") (zpz X.K):=by
 intro pins s σ H xs us Q I r h
 obtain⟨p,vs,ps,rfl,hq,ht,hp0,h64,q⟩:=h
 obtain⟨u,rfl,ru⟩:=za8 r
 cases ru
 have key:∀{its:List Value} {T:String} {o:Obj} {n:Nat},T="list"\/T="tuple"->s.heap.get? p=some o->o.cls= .type T->o.data= .seq its.toArray n->Vals vs its->wpAny `W3 X.A (call (.builtin "sorted") [.ref p]) (EP X pins σ Q) X.xe s:=by
  intro its T o n hT ho hc hd rv
  have hl:=rv.length
  have hlp:its.length=ps.length:=by rw[←hl];exact ht.1
  have keyA:∀(i:Nat) (u:Value) (q:List Str),its[i]?=some u->ps[i]?=some q->∃b,u= .ref b/\H b=some (.tup (q.map V.str)):=λi u q e1 e2=>by
   have hi:i<vs.length:=by
    rcases D1 i vs.length with z|z
    ·exact z
    ·rw[I0 ()] at e1;cases e1
   obtain⟨b,e3,hb⟩:=ht.2 i vs[i] q (by simp[hi]) e2
   obtain⟨u',hu',ru'⟩:=rv.get (i:=i) (x:=vs[i]) (by simp[hi])
   rw[e1] at hu'
   cases hu'
   rw[e3] at ru'
   cases ru'
   exact⟨b,rfl,hb⟩
  have keyT:∀(i:Nat) (u:Value) (q:List Str),its[i]?=some u->ps[i]?=some q->TupL s.heap u q:=λi u q e1 e2=>by
   obtain⟨b,rfl,hb⟩:=keyA i u q e1 e2
   obtain⟨_,jts,rj,⟨o',g',c',n',d'⟩,_⟩:=(show ObjOk X.prog X.w H s.heap b (.tup (q.map V.str))from I.hok b _ hb)
   exact⟨b,o',n',_,rfl,g',c',d',by simpa using rj⟩
  refine zeI (A:=X.A) (G:=λp=>PermN ps.length p/\(Strict ps.length (λi j=>ltL (lAt ps i) (lAt ps j))->Sor (λi j=>ltL (lAt ps i) (lAt ps j)) p ps.length)) (κ:=tuples' true) hT ho hc hd () (λh2 s1 k1=>?_) (λD out h' c ho' kp hD gD=>?_)
  ·have keyT1:∀(i:Nat) (u:Value) (q:List Str),its[i]?=some u->ps[i]?=some q->TupL s1.heap u q:=λi u p e1 e2=>(keyT i u p e1 e2).keeps k1
   obtain⟨fs,ft,fl,fa⟩:=zje hlp hp0 keyT1
   refine⟨λC hC=>kat_kind (T:= .type "str") ft () (λf hf=>?_) rfl hC,?_⟩
   ·obtain ⟨x,t,rfl⟩:=fa f hf
    exact Looks.of_pure rfl
   ·rw[hlp]
    refine OkT.wp (N:=ps.length) (lt:=λi j=>ltL (lAt ps i) (lAt ps j)) (I:=λs'=>s'=s1) (λi j C s' hi hj e hC=>?_) (λp s' hp e=>⟨e,hp⟩) rfl (sort_any ())
    subst e
    have gi:∀i,i<ps.length->TupL s'.heap (its.getD i Value.none) (lAt ps i):=λi hi=>by
     have hi':i<its.length:=()
     refine keyT1 i _ _ ?_ ?_
     ·simp[hi']
     ·unfold lAt;simp[hi]
    exact zml (gi i hi) (gi j hj) (hC s' rfl)
  ·have nD:H D=none:=I.hok.fresh hD
   obtain⟨ps',hperm,hpw,hlen,hout⟩:∃ps':List (List Str),ps'.Perm ps/\(ps.Nodup->ps'.Pairwise (λa b=>ltL a b=true))/\out.length=ps'.length/\∀(i:Nat) (u:Value) (q:List Str),out[i]?=some u->ps'[i]?=some q->∃b,u= .ref b/\H b=some (.tup (q.map V.str)):=by
    rcases ho' with⟨hlt,rfl⟩|⟨p,hp,⟨hP,hS⟩,rfl⟩
    ·refine ⟨ps, .refl _,λ_=>?_,hlp,keyA⟩
     match ps,(show ps.length<2 by lia)with
     |[],_=>exact .nil
     |[a],_=>exact List.pairwise_singleton _ _
    ·refine ⟨p.toList.map (lAt ps),?_,λnd=>?_,`j3,λi u q e1 e2=>?_⟩
     ·have h1:=hP.map (lAt ps)
      rwa[zpp] at h1
     ·have hs:=hS (ziv nd)
      have hz:=hP.size
      rw[List.pairwise_iff_getElem]
      intro i j hi hj hij
      have hi':i<p.size:=by simpa using hi
      have hj':j<p.size:=by simpa using hj
      have h:=hs i j hij ()
      rw[gd_get hi',gd_get hj'] at h
      simpa using h
     ·rw[N0] at e1 e2
      cases e3:p.toList[i]? with
      |none=>rw[e3] at e1;cases e1
      |some j=>
       rw[e3] at e1 e2
       have hj:j<ps.length:=by
        have:j∈p.toList:=B1 e3
        have:=(hP.mem_iff (a:=j)).mp this
        simpa using this
       have hj':j<its.length:=()
       refine keyA j u q ?_ ?_
       ·rw[←e1];simp[hj']
       ·rw[←e2];unfold lAt;simp[hj]
   let vs':List V:=out.map λu=>match u with| .ref b=>V.ref b|_=>V.non
   have hv:∀(i:Nat) (q:List Str),ps'[i]?=some q->∃b,out[i]?=some (.ref b)/\vs'[i]?=some (.ref b)/\H b=some (.tup (q.map V.str)):=λi q e=>by
    have hi:i<out.length:=by
     rcases D1 i ps'.length with z|z
     ·lia
     ·rw[I0 z] at e;cases e
    obtain⟨b,e1,hb⟩:=hout i out[i] q (by simp[hi]) e
    exact⟨b,by rw[D0 hi,e1],by show(out.map _)[i]?=_;rw[N0,D0 hi,e1];rfl,hb⟩
   have hlv:vs'.length=out.length:=by show(out.map _).length=_;rw[C0]
   have hpl:ps'.length<64:=by rw[hperm.length_eq];lia
   have T':zH H vs' ps':=⟨(),λi v q e1 e2=>by
    obtain⟨b,_,e3,hb⟩:=hv i q e2
    rw[e1] at e3;cases e3
    exact⟨b,rfl,hb⟩⟩
   refine⟨.ref D,_,I.laid (a:=D) (o:= .lst vs') (t':=s.toks) kp hD ⟨?_,out,c,?_,gD⟩,rfl,q ps' vs' D hperm hpw T' nD⟩
   ·rw[hlv,hlen];exact A3 (zj ())
   ·refine zfA hlv λi v u e1 e2=>?_
    have hi:i<ps'.length:=by
     rcases D1 i ps'.length with z|z
     ·exact z
     ·rw[I0 ()] at e2;cases e2
    obtain⟨b,e3,e4,_⟩:=hv i ps'[i] (by simp[hi])
    rw[e3] at e2;cases e2
    rw[e4] at e1;cases e1
    rfl
 rcases hq with hq|hq
 ·obtain ⟨its,rv,pl,hz⟩:=I.list hq
  obtain⟨o,ho,hc,n,hd⟩:=pl.isList
  exact key (.inl rfl) ho hc hd rv
 ·obtain ⟨its,rv,pl,hz⟩:=I.tuple hq
  obtain⟨o,ho,hc,n,hd⟩:=pl
  exact key (.inr rfl) ho hc hd rv
end
section
variable{o:Expr}{to:TE}{id:String}{r:V->List V->Hp->VK->Prop}
theorem zsO(pa:PlainAttrs T)(slot:Slot T name id)(hty:typeOf (.builtin id)=pure (.type "method_descriptor"))(hm:MtR X id r)(ho:QE X o to)
 (hbase:autoParam (attributeBase o name X.env (eval o X.env)=eval o X.env) y3) (hline:autoParam ((apos.endLine==cpos.line)=true) y3):QE X (.Call (.Attribute o name apos) [] [] cpos) (zsK X.K T r to):=⟨zsf pa slot hty hm ho.o hbase hline⟩
end
noncomputable def tD(xs:List Str):D:= .tup (xs.map D.str)
noncomputable def zbB:List Str->Bool
 |[a,b,w]=>zf a&&zf b&&(if w="equal"then ltS a b else decide (w="over")&&!decide (a=b))
 |_=>false
theorem zR(h:zbB r=true):∃a b w,r=[a,b,w]/\zf a=true/\zf b=true/\a≠b/\((w="equal"/\ltS a b=true)\/w="over"):=by
 unfold zbB at h
 split at h
 ·rename_i a b w
  rw[E1,E1] at h
  obtain⟨⟨h1,h2⟩,h3⟩:=h
  refine⟨a,b,w,rfl,h1,h2,?_⟩
  split at h3
  ·rename_i e;exact⟨zjj h3, .inl ⟨e,h3⟩⟩
  ·rw[E1,Bool.not_eq_true'] at h3
   exact⟨of_decide_eq_false h3.2, .inr (Y0 h3.1)⟩
 ·cases h
noncomputable def zT(r:List Str):List Str:=srt (r.take 2)
structure KinOk(rs:List (List Str)):Prop where
 row:∀r∈rs,zbB r=true
 rise:rs.Pairwise (λa b=>ltL a b=true)
 ties:(rs.map zT).Nodup
theorem zrL(h:(rs.map zT).Nodup):rs.Nodup:=(V2.mp h).imp λ{a b} h z=>h (by rw[z])
theorem zrJ{rs':List (List Str)}(h:∀r∈rs,zbB r=true)(nd:(rs.map zT).Nodup)(hp:rs'.Perm rs)(hs:rs.Nodup->rs'.Pairwise (λa b=>ltL a b=true)):KinOk rs':=
 ⟨λr hr=>h r (hp.mem_iff.mp hr),hs (zrL nd),(hp.map zT).nodup_iff.mpr nd⟩
noncomputable def pr(a b:Str):List Str:=srt [a,b]
theorem zgI{l1 l2:List Str}(h1:l1.Pairwise (λa b=>ltS a b=true))(h2:l2.Pairwise (λa b=>ltS a b=true))(hp:l1.Perm l2):l1=l2:=
 hp.eq_of_pairwise (λa b _ _ h1 h2=>absurd h2 (by rw[zaU h1];decide)) h1 h2
theorem zoQ{a b:Str}:pr a b=pr b a:=by
 by_cases e:a=b
 ·rw[e]
 ·exact zgI (zc3 (by simpa using e)) (zc3 (by simpa using Ne.symm e)) ((zz [a,b]).trans ((List.Perm.swap b a []).trans (zz [b,a]).symm))
theorem zq5{a b c d:Str}(h:pr a b=pr c d):(a=c/\b=d)\/(a=d/\b=c):=by
 have hp:[a,b].Perm [c,d]:=(zz [a,b]).symm.trans (by rw[show srt [a,b]=srt [c,d] from h];exact zz [c,d])
 have ha:a∈ [c,d]:=hp.mem_iff.mp `j3
 simp only[R0,List.not_mem_nil,or_false] at ha
 rcases ha with rfl|rfl
 ·have:=(List.perm_cons a).mp hp
  exact .inl ⟨rfl,by simpa using this⟩
 ·have h2:[a,b].Perm [a,c]:=hp.trans (List.Perm.swap a c [])
  have:=(List.perm_cons a).mp h2
  exact .inr ⟨rfl,by simpa using this⟩
noncomputable abbrev at_(xs:List Str)(i:Nat):Str:=xs.getD i ""
structure KD62(xs:List Str)(ps:List (Nat×Nat))(k:Nat)(rs:List (List Str)):Prop where
 row:∀r∈rs,zbB r=true
 nd:(rs.map zT).Nodup
 few:rs.length<=k
 old:∀r∈rs,∃q∈ps.take k,q.1<q.2/\zT r=pr (at_ xs q.1) (at_ xs q.2)
theorem zfd{xs:List Str}(nd:xs.Nodup)(hi:i<xs.length)(hj:j<xs.length)(h:at_ xs i=at_ xs j):i=j:=by
 unfold at_ at h
 simp only[List.getD,D0 hi,D0 hj,Option.getD_some] at h
 exact(List.getElem_inj nd).mp h
theorem zth{xs:List Str}(nd:xs.Nodup){l:Nat}(hij:i<j)(hj:j<xs.length)(hkl:k<l)(hl:l<xs.length)(h:pr (at_ xs i) (at_ xs j)=pr (at_ xs k) (at_ xs l)):i=k/\j=l:=by
 rcases zq5 h with⟨h1,h2⟩|⟨h1,h2⟩
 ·exact ⟨zfd nd () () h1,zfd nd hj hl h2⟩
 ·have e1:=zfd nd () hl h1
  have e2:=zfd nd hj () h2
  lia
theorem KD62.skip{xs:List Str}{ps:List (Nat×Nat)}(h:KD62 xs ps k rs):KD62 xs ps (k+1) rs where
 row:=h.row
 nd:=h.nd
 few:=by have:=h.few;lia
 old:=λr hr=>by
  obtain⟨q,hq,r1⟩:=h.old r hr
  exact⟨q,(List.take_sublist_take_left (Nat.le_succ k)).subset hq,r1⟩
theorem KD62.put{xs:List Str}{ps:List (Nat×Nat)}(h:KD62 xs ps k rs)(nd:xs.Nodup)(hp:∀q∈ps,q.1<=q.2/\q.2<xs.length){q:Nat×Nat}(hq:ps[k]?=some q)(hne:q.1≠q.2)(hn:q∉ps.take k)
  (hr:zbB r=true) (ht:zT r=pr (at_ xs q.1) (at_ xs q.2)):KD62 xs ps (k+1) (rs ++ [r]):=by
 have tk:ps.take (k+1)=ps.take k ++ [q]:=by rw[D2,hq];rfl
 have hq':=hp q (B1 hq)
 have hlt:q.1<q.2:=()
 refine⟨λx hx=>?_,?_,by rw[Z0,List.length_singleton];have:=h.few;lia,λx hx=>?_⟩
 ·rcases F1.mp hx with hx|hx
  ·exact h.row x hx
  ·rw[K0.mp hx];exact hr
 ·rw[F2]
  refine X2.mpr ⟨h.nd,`j3,λa ha b hb z=>?_⟩
  obtain⟨x,hx,rfl⟩:=X0.mp ha
  have hb':b=zT r:=by simpa using hb
  obtain⟨q2,hq2,l2,e2⟩:=h.old x hx
  rw[z,hb',ht] at e2
  have hq2':=hp q2 (List.mem_of_mem_take hq2)
  obtain⟨e3,e4⟩:=zth nd hlt hq'.2 l2 hq2'.2 e2
  exact hn (by rw[show q=q2 from Prod.ext e3 e4];exact hq2)
 ·rw[tk]
  rcases F1.mp hx with hx|hx
  ·obtain ⟨q2,hq2,r2⟩:=h.old x hx
   exact⟨q2,W1 _ hq2,r2⟩
  ·rw[K0.mp hx]
   exact⟨q,O0 _ (K0.mpr rfl),hlt,ht⟩
theorem zsZ(h:x≠y):ltS (if ltS y x=true then y else x) (if ltS x y=true then y else x)=true:=by
 cases e:ltS x y with
 |true=>rw[zaU e];simp only[M3,if_false,if_true];exact e
 |false=>
  have:=za6 h e
  rw[this];simp only[M3,if_false,if_true];exact this
theorem zsN:pr (if ltS y x=true then y else x) (if ltS x y=true then y else x)=pr x y:=by
 cases e:ltS x y with
 |true=>rw[zaU e];simp
 |false=>
  cases e2:ltS y x with
  |true=>simp;exact zoQ
  |false=>
   simp
   by_cases h:x=y
   ·rw[h]
   ·rw[za6 h e] at e2;cases e2
theorem zlm(hx:zf x=true)(hy:zf y=true)(h:x≠y):zbB [if ltS y x=true then y else x,if ltS x y=true then y else x,"equal"]=true:=by
 show(_&&_&&(if("equal":Str)="equal"then _ else _))=true
 rw[c0 rfl,zsZ h]
 have h1:zf (if ltS y x=true then y else x)=true:=by split<;>assumption
 have h2:zf (if ltS x y=true then y else x)=true:=by split<;>assumption
 rw[h1,h2];rfl
theorem znt(hx:zf x=true)(hy:zf y=true)(h:x≠y):zbB [x,y,"over"]=true:=by
 show(_&&_&&(if("over":Str)="equal"then _ else _))=true
 rw[P0 `Z3,hx,hy,A1 h]
 decide +kernel
theorem zkV{xs:List Str}(h:∀x∈xs,zf x=true)(hi:i<xs.length):zf (at_ xs i)=true:=by
 unfold at_
 rw[show xs.getD i ""=xs[i] by simp[List.getD,hi]]
 exact h _ (Z2 hi)
noncomputable def zaS(q:Nat×Nat):D:= .tup [.int (q.1:Int), .int (q.2:Int)]
theorem zkR{α β:Type}{f:α->β}{P:α->Prop}:∀{ds:List β},(∀d∈ds,∃q,d=f q/\P q)->∃ps:List α,ds=ps.map f/\∀q∈ps,P q
 |[],_=>⟨[],rfl,λ_ z=>nomatch z⟩
 |d::ds,h=>by
  obtain⟨q,rfl,hq⟩:=h d Q0
  obtain⟨ps,rfl,hp⟩:=zkR λd hd=>h d (V0 _ hd)
  exact⟨q::ps,rfl,λx hx=>(R0.mp hx).elim (λe=>by rw[e];exact hq) (hp x)⟩
theorem zkv{q r:Nat×Nat}:(pyD (zaS q)).eqv (pyD (zaS r))=decide (q=r):=by
 unfold zaS
 rw[pyD,pyD,pyL,pyL,pyL,pyL,pyL,pyL,pyD,pyD,pyD,pyD,PyData.eqv,PyData.eqvAll,PyData.eqvAll,PyData.eqvAll,PyData.eqv,PyData.eqv]
 by_cases h:q=r
 ·subst h;simp
 ·rw[A1 h]
  by_cases h1:q.1=r.1
  ·have h2:q.2≠r.2:=λz=>h (Prod.ext h1 z)
   have:((q.2:Int)==(r.2:Int))=false:=by simp;lia
   rw[this];simp
  ·have:((q.1:Int)==(r.1:Int))=false:=by simp;lia
   rw[this];simp
theorem zq0{ps:List (Nat×Nat)}{q:Nat×Nat}:((ps.map λr=>pyD (zaS r)).any λy=>y.eqv (pyD (zaS q)))=decide (q∈ps):=by
 rw[List.any_map]
 by_cases h:q∈ps
 ·rw[U0 h]
  exact List.any_eq_true.mpr ⟨q,h,by show(pyD (zaS q)).eqv (pyD (zaS q))=true;rw[zkv,U0 rfl]⟩
 ·rw[A1 h]
  refine List.any_eq_false.mpr λr hr z=>?_
  have z':(pyD (zaS r)).eqv (pyD (zaS q))=true:=z
  rw[zkv] at z'
  exact h (Y0 z'▸hr)
theorem znn(q:Nat×Nat):okD (zaS q)=true:=by
 unfold zaS
 rw[okD,okL,okL,okL,okD,okD];rfl
theorem zl3(q:Nat×Nat):(pyD (zaS q)).depth<=60:=by
 unfold zaS
 rw[pyD,pyL,pyL,pyL,pyD,pyD,PyData.depth,PyData.depthAll,PyData.depthAll,PyData.depthAll,PyData.depth,PyData.depth];decide
theorem zpI(e:H l=some (.lst vs))(r:RepL H vs ds)(h:∀d∈ds,okD d=true):Tr H (.ref l) (.list (ds.map pyD)):=by
 refine .lst e (by rw[C0];exact r.1) λi v d e1 e2=>?_
 rw[N0] at e2
 cases e3:ds[i]? with
 |none=>rw[e3] at e2;cases e2
 |some d'=>rw[e3] at e2;cases e2;exact zkF (r.2 i v d' e1 e3) (h d' (B1 e3))
theorem zh5{N:Nat}{Pw:Nat->V->Prop}{ok:Hp->Prop}{m c:Int}{Pd:Nat->D->Prop}{src:List (Option Nat)}{Q:VK}(wk:Wk J N Pw ok)(hok:∀H',Keep a H H'->ok H')(hs:zdk src σ=none::σr)(hH:Hand H a m)(hN:N<=900)(hc:0<=c)
 (he:∀(i:Nat) (x:V) (H1:Hp) (Q1:VK),i<N->Pw i x->Hand H1 a (m+c*i)->Keep a H H1->(∀v d H2,Rep H2 v d->Pd i d->Hand H2 a (m+c*i+c)->Keep a H1 H2->Q1 v H2)->te (some x::σr) H1 Q1)
 (q:∀l vs ds H',H l=none->H' l=some (.lst vs)->RepL H' vs ds->ds.length=N->(∀i d,ds[i]?=some d->Pd i d)->Hand H' a (m+c*N)->Keep a H H'->Q (.ref l) H'):zfE (zay 0) zrV te src σ Q J H:=by
 refine za3 wk (λl i ys σ' H'=>(∃o,σ'=o::σr)/\(∃ds:List D,RepL H' ys ds/\ds.length=i/\∀j d,ds[j]?=some d->Pd j d)/\Hand H' a (m+c*i)/\Keep a H H') ?_ (λ_ _ _ _ _ _ p=>hok _ p.2.2.2) ?_ ?_
 ·exact λl hl=>⟨⟨_,hs⟩,⟨[],RepL.nil,rfl,λj d z=>by simp at z⟩,(hH.new hl).mono `j3,Keep.new hl⟩
 ·rintro l i y ys σ' H1 hl hi hy ⟨⟨o,rfl⟩,⟨ds,hr,hl2,hp⟩,hH1,k1⟩ hl'
  have nl:=hH.ne hl
  refine he i y H1 _ hi hy hH1 k1 λv d H2 rv pd hH2 k2=>?_
  have hl2':H2 l=some (.lst ys):=k2 _ _ nl hl'
  have m2:Mono H1 H2:=Mono.keep k2 hH1 hH2
  have m3:Mono H2 (upd H2 l (.lst (ys ++ [v]))):=Mono.lset hl2'
  refine⟨hl2',?_,⟨_,rfl⟩,⟨ds ++ [d],((hr.mono m2).append (.cons rv .nil)).mono m3,?_,?_⟩,(hH2.updNe nl).mono ?_,(k1.trans k2).updNew hl⟩
  ·have:=hr.1
   exact zj ()
  ·rw[Z0,hl2];rfl
  ·intro j e he
   by_cases hj:j<ds.length
   ·rw[N1 hj] at he
    exact hp j e he
   ·rw[L1 ()] at he
    have hj2:j=ds.length:=by
     rcases D1 ds.length j with z|z
     ·rw[I0 (by simp;lia)] at he;cases he
     ·lia
    subst hj2
    simp at he
    subst he
    rw[hl2];exact pd
  ·rw[show((i+1:Nat):Int)=(i:Int)+1 by lia,Int.mul_add,Int.mul_one]
   lia
 ·rintro l ys σ' H1 hl ⟨⟨o,rfl⟩,⟨ds,hr,hl2,hp⟩,hH1,k1⟩ hl'
  exact q l ys ds H1 hl hl' hr hl2 hp hH1 k1
section
variable{P P':D->Prop}
end
theorem ze0:isSubtype (.type "range_iterator") (.type "reversed")=pure false:=by rw[isSubtype_type];kernel_rfl
noncomputable def downObj(n:Nat):Obj:={cls:= .type "range_iterator",data:= .fields #[rawInt ((n:Int) -1),rawInt (n:Int),rawInt (-1)]}
theorem zlu(r:Addr)(a b c:Int)(t u v:Tok)(hc0:¬(!(Builtin.Range.rangeFitsLong a&&Builtin.Range.rangeFitsLong b&&Builtin.Range.rangeFitsLong c&&Builtin.Range.rangeFitsLong (-c)&&Builtin.Range.rangeFitsLong (a -c)&&Builtin.Range.rangeFitsLong (Builtin.Range.rangeSize a b c)))=true):
 Meets (Builtin.«range.__reversed__» ⟨[.ref r],[]⟩) (λ_ R s=>s.heap.get? r=some {cls:= .type "range",dict:=none,data:= .fields #[.int a t, .int b u, .int c v],slots:= #[]}/\R (.ok (.ret (Value.ref s.heap.objs.size))) {s with heap:=s.heap.push {cls:=Value.type (if(Builtin.Range.rangeFitsLong a&&Builtin.Range.rangeFitsLong b&&Builtin.Range.rangeFitsLong c&&Builtin.Range.rangeFitsLong (-c)&&Builtin.Range.rangeFitsLong (a -c)&&Builtin.Range.rangeFitsLong (Builtin.Range.rangeSize a b c))=true then"range_iterator"else "longrange_iterator"),data:=Data.fields #[rawInt (a+(Builtin.Range.rangeSize a b c -1)*c),rawInt (Builtin.Range.rangeSize a b c),rawInt (-c)]},toks:=s.toks}):=
 .of_wp λprog w A R s h=>by obtain⟨hp,g,d,tk,os⟩:=s;obtain⟨hl,h⟩:=h;wp_walk;exact⟨_,rfl,h⟩
theorem zfv{r:Addr}{t u v:Tok}(hr:s.heap.get? r=some {cls:= .type "range",data:= .fields #[.int 0 t, .int (n:Int) u, .int 1 v]})(hn:n<=1000)
 (h:Q (.ref s.heap.objs.size) {s with heap:=s.heap.push (downObj n)}):wpAny `Y3 A (call (.builtin "range.__reversed__") [.ref r]) Q E s:=by
 have hT:s.TypeIs (.ref r) "range":=⟨_,hr,rfl⟩
 have e1:Builtin.Range.rangeSize 0 (n:Int) 1=(n:Int):=by rw[rangeSize_one];split<;>lia
 have ft:∀i:Int,-(2^63)<=i->i<2^63->Builtin.Range.rangeFitsLong i=true:=λi h1 h2=>by
  unfold Builtin.Range.rangeFitsLong
  rw[U0 h1,U0 h2];rfl
 have e2:(Builtin.Range.rangeFitsLong 0&&Builtin.Range.rangeFitsLong (n:Int)&&Builtin.Range.rangeFitsLong 1&&Builtin.Range.rangeFitsLong (-1)&&Builtin.Range.rangeFitsLong (0 -1)&&Builtin.Range.rangeFitsLong (Builtin.Range.rangeSize 0 (n:Int) 1))=true:=by
  rw[e1,ft 0 ⋯ ⋯,ft (n:Int) () (),ft 1 ⋯ ⋯,ft (-1) ⋯ ⋯,ft (0 -1) ⋯ ⋯];rfl
 refine call_meets F.slot_range_reversed hT F.entry_range_reversed (F.args_range_reversed_1 _) (zlu r 0 (n:Int) 1 t u v (by rw[e2];decide)) ⟨hr,?_⟩
 rw[c0 e2,e1]
 have e3:(0:Int)+((n:Int) -1)*1=(n:Int) -1:=()
 rw[e3]
 exact h
theorem zeh{r:Addr}{t u v:Tok}{Q₁:Value->Shared->Prop}(hr:s.heap.get? r=some {cls:= .type "range",data:= .fields #[.int 0 t, .int (n:Int) u, .int 1 v]})(hn:n<=1000)
 (h:Q₁ (.ref s.heap.objs.size) {s with heap:=s.heap.push (downObj n)}):
 codeAny `Y3 A (.call (.builtin "reversed.__new__") ⟨[.type "reversed", .ref r],[]⟩) (wants Q₁ E) s:=by
 have hT:s.TypeIs (.ref r) "range":=⟨_,hr,rfl⟩
 refine codeAny_of_tree ?_
 show wpAny _ A.in1 (do checkBuiltinCall "reversed.__new__" ⟨[.type "reversed", .ref r],[]⟩;again (.builtin "reversed.__new__" ⟨[.type "reversed", .ref r],[]⟩)) _ _ s
 refine A0 (wpAny_of_eq (F.newCall_reversed_1 _) (F0 ⟨plainId_quiet F.plain_reversed_new _,codeAny_builtin F.entry_reversed_new ?_⟩))
 rw[Around.under_plainId F.plain_reversed_new _]
 unfold Builtin.«reversed.__new__»
 refine A0 (wpAny_of_eq (newClass_reversed _) ?_)
 try dsimp only
 refine A0 (wpAny_of_eq (a:=Unit.unit) (by first|rfl|kernel_rfl) ?_)
 refine A0 (wpAny_of_eq (a:=Unit.unit) (by first|rfl|kernel_rfl) ?_)
 try dsimp only
 refine A0 (wpAny_specialOf hT F.slot_range_reversed.lookup ?_)
 try dsimp only
 refine A0 (wpAny_of_eq (F.slot_range_reversed.bind _) ?_)
 try dsimp only
 first
 |rw[P0 (show¬((Value.builtin "range.__reversed__"==Value.none)=true)from O1)]
 |(show wpAny _ _ (if(Value.builtin "range.__reversed__"==Value.none)=true then _ else _) _ _ _;rw[P0 (show¬((Value.builtin "range.__reversed__"==Value.none)=true)from O1)])
 refine A0 (wpAny_rule ?_)
 refine A0 (m:=runValue (.call (.builtin "range.__reversed__") ⟨[.ref r],[]⟩)) (show wpAny _ _ (call (.builtin "range.__reversed__") [.ref r]) _ _ _ from zfv hr hn ?_)
 first
 |exact F0 h
 |exact A0 (F0 (F0 h))
theorem call_reversed_rng{r:Addr}{t u v:Tok}(hr:s.heap.get? r=some {cls:= .type "range",data:= .fields #[.int 0 t, .int (n:Int) u, .int 1 v]})(hn:n<=1000)
 (h:Q (.ref s.heap.objs.size) {s with heap:=s.heap.push (downObj n)}):wpAny `Y3 A (call (.type "reversed") [.ref r]) Q E s:=by
 refine callType_other (U:="range_iterator") (Q₁:=λobj s₁=>obj= .ref s.heap.objs.size/\s₁={s with heap:=s.heap.push (downObj n)}) `Z3 F.create_reversed ⟨_,_,F.mro_reversed⟩ F.made_reversed ze0 (F.typeCall_reversed_1 _) (zeh hr hn ⟨rfl,rfl⟩) ?_
 rintro obj s₁ ⟨rfl,rfl⟩
 exact⟨⟨_,T0 _ rfl,rfl⟩,h⟩
noncomputable def zpW(n:Nat):It:=⟨λi _=>i<n,λi H x H'=>H'=H/\x= .int ((n:Int) -1 -i),λi _=>n<=i⟩
theorem zoH:Wk (zpW n) n (λi x=>x= .int ((n:Int) -1 -i)) (λ_=>True) where
 stop:=λi H h l=>l
 go:=λi H h l=>l
 yld:=λi H x H' h l y=>y
theorem zlQ(it:Addr)(n:Nat):Turn P w K tg (zpW n) [it] it (λi h=>IsRangeIter h it ((n:Int) -1+(i:Nat)*(-1)) ((n:Int) -(i:Nat)) (-1)) where
 mem:=`j3
 obj:=λi h st b hb=>by
  have e:b=it:=by simpa using hb
  subst e
  exact⟨_,st,λv z=>by
   have z':Data.fields _=Data.cell v:=z
   cases z'⟩
 keep:=λi h h' st k=>k it `j3 _ st
 item:=by
  intro X hP hw hK hc i pins s σ H E I hf st hg
  subst hP hw hK
  obtain⟨f0,f1,f2,f3,f4,f5⟩:=hf it `j3
  have W:=Walks.range (prog:=X.prog) (w:=X.w) (I.ok.hd hc) it ((n:Int) -1) (-1) n
  refine W.item i s _ _ hg st λv h' tk hv st' kk=>?_
  obtain⟨t,rfl⟩:=hv
  have I1:Inv X pins σ H {s with heap:=h',toks:=tk}:=I.turned (λb o hb e=>kk b o (by simpa using hb) e) f0 f1 f3 f4 f5
  refine⟨_,rfl,zkw (s:={s with heap:=h',toks:=tk}) (n:="range_iterator") st' rfl rfl ⋯ ⟨.int ((n:Int) -1 -i),H,I1,⟨t,?_⟩,⟨rfl,rfl⟩,st',λb hb=>(hf b hb).1⟩⟩
  congr 1
  lia
 done:=by
   intro X hP hw hK hc i pins s σ H E I hf st hg
   subst hP hw hK
   obtain⟨f0,f1,f2,f3,f4,f5⟩:=hf it `j3
   exact wpAny_pyNext_range_end (I.ok.hd hc) st (by have:n<=i:=hg;lia) λh' eb=>⟨rfl,I.turned (t':=s.toks) (λb o hb e=>eb b o hb e) f0 f1 f3 f4 f5⟩
 self:=λ_ _ _ _ _ st h=>wpAny_pyIter_rangeiter st h
theorem zqs{R:It->Hp->Prop}{t u v:Tok}{tk:Nat}(I:Inv X pins σ H s)(hn:n<=1000)(q:R (zpW n) H):
 wpAny `W3 X.A (call (.type "reversed") [.ref s.heap.objs.size]) (λv s1=>wpAny `W3 X.A (pyIter v) (PIE X pins σ tg R) E s1) E {s with heap:=s.heap.push {cls:= .type "range",data:= .fields #[.int 0 t, .int (n:Int) u, .int 1 v]},toks:=tk}:=by
 refine call_reversed_rng (T0 _ rfl) hn ?_
 have I2:Inv X pins σ H {s with heap:=(s.heap.push {cls:= .type "range",data:= .fields #[.int 0 t, .int (n:Int) u, .int 1 v]}).push (downObj n),toks:=tk}:=I.kept λb o e=>G0 _ (G0 _ e)
 have hit:IsRangeIter ((s.heap.push {cls:= .type "range",data:= .fields #[.int 0 t, .int (n:Int) u, .int 1 v]}).push (downObj n)) (s.heap.push {cls:= .type "range",data:= .fields #[.int 0 t, .int (n:Int) u, .int 1 v]}).objs.size ((n:Int) -1+((0:Nat):Int)*(-1)) ((n:Int) -((0:Nat):Int)) (-1):=by
  have e1:(n:Int) -1+((0:Nat):Int)*(-1)=(n:Int) -1:=()
  have e2:(n:Int) -((0:Nat):Int)=(n:Int):=()
  rw[e1,e2]
  exact T0 _ rfl
 refine wpAny_pyIter_rangeiter hit ?_
 refine⟨_,[_],_,_,H,rfl,I2,zlQ _ n,hit,λb hb=>?_,q⟩
 have e:b=(s.heap.push {cls:= .type "range",data:= .fields #[.int 0 t, .int (n:Int) u, .int 1 v]}).objs.size:=by simpa using hb
 have hb':s.heap.objs.size<=b:=by rw[e,Heap.size_push];exact Nat.le_succ _
 exact I.fpOk hb' (I.hok.fresh hb')
noncomputable def zta(ta:TA):TI:=λσ H R=>ta σ H λvs H1=>∃n:Nat,vs=[.int (n:Int)]/\n<=1000/\R (zpW n) H1
theorem zf5:bootBuiltins "reversed"=some (.type "reversed"):=by kernel_rfl
theorem zse{a:Expr}{p p2:Pos}(hm:X.mg "range"=none)(hm2:X.mg "reversed"=none)(ha:QA X [a] ta)(hg:autoParam (Gl X "range") y3)(hg2:autoParam (Gl X "reversed") y3)(hs:autoParam (starEach [a] X.env=[(false,eval a X.env)]) y3)
 (hs2:autoParam (starEach [.Call (.Name "range" p2) [a] [] pos2] X.env=[(false,eval (.Call (.Name "range" p2) [a] [] pos2) X.env)]) y3):QI X tg (.Call (.Name "reversed" p) [.Call (.Name "range" p2) [a] [] pos2] [] pos) (zta ta):=⟨by
 intro pins s σ H R I h
 refine Call_ (zdD I hg2 hm2 zf5 (PyProof.Rows.callWith_type1 (Q:=_) ?_ hs2 rfl))
 rw[hs2]
 refine Calls.spliced_cons (Call_ (zdD I hg hm boot_range (PyProof.Rows.callWith_type1 (thn (ha.o pos2 pins s σ H _ I h) λus s1 zq=>?_) hs rfl)))
 obtain⟨vs,H1,I1,r1,q1⟩:=zq
 obtain⟨n,rfl,hn,q⟩:=q1
 obtain⟨u,rfl,ru⟩:=za8 r1
 obtain⟨t,rfl⟩:=ru
 refine call_range_1 (Calls.spliced_nil ?_)
 exact zqs I1 hn q⟩
theorem zoF(hc:QT X c tc)(hb:QB X body tb)(hp:PassesOwn `W3 X.A X.env X.xe:=by exact D3):QS X (.While c body [] pos) (znq tc tb):=⟨zoe hp hc.o hb.o⟩
theorem zk9:bootBuiltins "repr"=some (.builtin "repr"):=`Z3
theorem zfM(hg:X.A.guards=some [])(hu:X.A.units+64<cLine):CallR X (.builtin "repr") (λxs H Q=>(∃(a:Addr) (d:PyData),xs=[.ref a]/\Tr H (.ref a) d/\d.showable=true/\d.depth<=60/\d.shown.length<=sizeLine/\Q (.str d.shown) H)\/(xs=[.non]/\Q (.str "None") H)):=(zjB hg hu).or zkf
noncomputable def ztC:D->List D| .tup rs=>rs|_=> []
noncomputable def zW:List Str->List D->Str->List D
 |h::hs,d::ds,x=>if h=x then ztC d else zW hs ds x
 |_,_,_=> []
theorem zhx{x:Str}{rs:List D}:∀{hs:List Str} {ds:List D} {j:Nat},hs.Nodup->hs[j]?=some x->ds[j]?=some (.tup rs)->zW hs ds x=rs
 |[],_,j,_,h1,_=>by simp at h1
 |h::hs,[],j,_,_,h2=>by simp at h2
 |h::hs,d::ds,0,_,h1,h2=>by
  simp at h1 h2
  subst h1 h2
  rw[zW,c0 rfl];rfl
 |h::hs,d::ds,j+1,nd,h1,h2=>by
  simp only[List.getElem?_cons_succ] at h1 h2
  rw[U1] at nd
  have hne:¬h=x:=λe=>nd.1 (e▸B1 h1)
  rw[zW,P0 hne]
  exact zhx nd.2 h1 h2
noncomputable def zdE:D->Bool| .non=>true|_=>false
theorem zpi{u:V}(r:Rep H u d):decide (u=V.non)=zdE d:=by
 cases r<;>first|rfl|exact A1 (λz=>by cases z)
noncomputable def zau(hs:List Str)(lks hds:List D)(y:Str)(w ms:List Str):Option (List Str):=
 match zC w (some y) (zW hs hds (w.headD "")) ms with
 |none=>none
 |some t=>if zdE (zI (y::w) t (zW hs lks y))=true then none else some t
noncomputable def zp(hs:List Str)(lks hds:List D):List Str->Option (List Str)
 |[]=>some []
 |[_]=>some []
 |y::x::ws=>match zp hs lks hds (x::ws)with
  |none=>none
  |some t=>zau hs lks hds y (x::ws) t
structure Mr(O t:List Str):Prop extends Mk0 O t where
 rise:t.Pairwise (λa b=>ltS a b=true)
theorem Mr.next{t:List Str}{w m:Str}(h:Mr O t)(hm:m∈O):Mr O (zjb t w m):=⟨h.toMk0.next hm,zc3 (zey h.nd)⟩
theorem Mr.nil:Mr O []:=⟨⟨List.nodup_nil,λ_ h=>nomatch h⟩,List.Pairwise.nil⟩
theorem zc8{O:List Str}{ws:List Str}{to:Option Str}:∀{rs:List D} {ms t:List Str},(∀r∈rs,∃cs x,r= .tup [.tup cs,x]/\(∀c∈cs,zO c=true)/\(x= .tup [.str "keep"]\/∃w m,x= .tup [.str w, .str m]/\(w="put"\/w="strike")/\m∈O))->Mr O ms->zC ws to rs ms=some t->Mr O t
 |[],ms,t,_,h,e=>by rw[zC] at e;cases e;exact h
 |r::rs,ms,t,hr,h,e=>by
  obtain⟨cs,x,rfl,_,hx⟩:=hr r Q0
  have hr':=λr h=>hr r (V0 _ h)
  rw[zC] at e
  split at e
  ·rcases hx with rfl|⟨w,m,rfl,_,hm⟩
   ·cases e
   ·exact zc8 hr' (h.next hm) e
  ·exact zc8 hr' h e
theorem znQ{w t:List Str}(hk:zd7 O (zW hs hds (w.headD "")))(h:Mr O ms)(e:zau hs lks hds y w ms=some t):Mr O t:=by
 unfold zau at e
 split at e
 ·cases e
 ·rename_i t' e'
  split at e
  ·cases e
  ·cases e
   exact zc8 hk.2 h e'
section
variable{P:List α->Prop}
theorem of1(h:∀a,P [a]):∀us:List α,us.length=1->P us
 |[a],_=>h a
theorem of2(h:∀a b,P [a,b]):∀us:List α,us.length=2->P us
 |[a,b],_=>h a b
theorem of3(h:∀a b c,P [a,b,c]):∀us:List α,us.length=3->P us
 |[a,b,c],_=>h a b c
theorem of4(h:∀a b c d,P [a,b,c,d]):∀us:List α,us.length=4->P us
 |[a,b,c,d],_=>h a b c d
end
section
variable{P:Nat->Value->Prop}{St:Nat->Heap->Prop}
end
section
open PySem.W PyProof.V
end
section
variable{P:Nat->Value->Prop}{St:Nat->Heap->Prop}
end
section
open PySem.W PyProof.V
end
section
variable{it:Value}{d:Addr}
end
section
variable{src:List (Option Nat)}{g:TG}{tk:TE}
end
structure RingG(G:Str->List Str)(xs:List Str):Prop where
 two:2<=xs.length
 ends:xs[0]?=xs[xs.length -1]?
 nd:(xs.drop 1).Nodup
 nxt:∀i a b,xs[i]?=some a->xs[i+1]?=some b->a∈G b
structure Led(H:Hp)(kvs:List (Key×V))(ks:List Str)(G:Str->List Str):Prop where
 keys:kvs.map (·.1)=ks.map Sum.inr
 nd:ks.Nodup
 at_:∀x∈ks,∃l,zae kvs (Sum.inr x)=some (.ref l)/\H l=some (.lst ((G x).map V.str))
 sub:∀x∈ks,∀y∈G x,y∈ks
 short:∀x∈ks,x.length<=1000
 few:ks.length<=60/\∀x∈ks,(G x).length<=60
noncomputable def tol(tk:List (Key×V))(x:Str):Bool:=(zae tk (Sum.inr x)).isSome
structure Tld63(tk:List (Key×V))(ks:List Str)(G:Str->List Str):Prop where
 opn:∀x∈ks,tol tk x=false->∃y∈G x,tol tk y=false
 sure:∀W:Str->Prop,(∀b,W b->∃a∈G b,W a)->∀b,W b->tol tk b=false
structure Peel(rs R:List (List Str)):Prop where
 sub:∀r∈R,r∈rs/\at_ r 2=("over":Str)
 out:∀W:Str->Prop,(∀b,W b->∃a,[a,b,"over"]∈rs/\W a)->∀a b,W a->W b->[a,b,"over"]∈rs->[a,b,"over"]∈R
structure LR(ks:List Str)(G:Str->List Str)(tk:List (Key×V))(ws:List Str):Prop where
 sub:∀x∈ws,x∈ks
 cov:∀x∈ks,x∈ws\/tol tk x=true
 sure:∀W:Str->Prop,(∀b,W b->∃a∈G b,W a)->∀b,W b->tol tk b=false
 inv:∀x v,zae tk (Sum.inr x)=some v->∃n,v=V.int n
 len:tk.length+ws.length<=ks.length
structure LRi(ks:List Str)(G:Str->List Str)(tk:List (Key×V))(ws ys:List Str)(i:Nat)(fr:Bool):Prop where
 sub:∀x∈ys,x∈ks
 cov:∀x∈ks,x∈ys\/x∈ws.drop i\/tol tk x=true
 sure:∀W:Str->Prop,(∀b,W b->∃a∈G b,W a)->∀b,W b->tol tk b=false
 inv:∀x v,zae tk (Sum.inr x)=some v->∃n,v=V.int n
 len:tk.length+ys.length+(ws.length -i)<=ks.length
 le:ys.length<=i
 lt:fr=true->ys.length<i
 opn:fr=false->∀x∈ys,∃y∈G x,tol tk y=false
structure Wlk(ks:List Str)(G:Str->List Str)(tk:List (Key×V))(row:List Str)(x:Str):Prop where
 nd:row.Nodup
 sub:∀y∈row,y∈ks
 ch:∀i a b,row[i]?=some a->row[i+1]?=some b->b∈G a
 nx:∀a,row[row.length -1]?=some a->x∈G a
 xk:x∈ks
 xu:tol tk x=false
structure EL(H H':Hp)(kvs:List (Key×V))(ks:List Str)(G:Str->List Str):Prop where
 keys:kvs.map (·.1)=ks.map Sum.inr
 nd:ks.Nodup
 at_:∀x∈ks,∃l,zae kvs (Sum.inr x)=some (.ref l)/\H' l=some (.lst ((G x).map V.str))/\H l=none
 apart:∀x∈ks,∀y∈ks,∀l,zae kvs (Sum.inr x)=some (.ref l)->zae kvs (Sum.inr y)=some (.ref l)->x=y
theorem zd8(t:zH H vs ls)(s:Same H H'):zH H' vs ls:=⟨t.1,λi v q e1 e2=>let ⟨b,e,hb⟩:=t.2 i v q e1 e2;⟨b,e,s _ _ hb⟩⟩
theorem ztD(t:zH H vs ls)(h:∀q∈ls,q.length<=1000/\∀x∈q,x.length<=1000):RepL H vs (ls.map tD):=by
 refine⟨by rw[C0];exact t.1,λi v d e1 e2=>?_⟩
 rw[N0] at e2
 cases e3:ls[i]? with
 |none=>rw[e3] at e2;cases e2
 |some q=>
  rw[e3] at e2;cases e2
  obtain⟨b,rfl,hb⟩:=t.2 i v q e1 e3
  have hq:=h q (B1 e3)
  exact .mkL hb (by rw[C0];exact hq.1) (za9 hq.2)
theorem zm6{xs:List Str}:pyD (tD xs)= .tuple (zt xs):=by
 unfold tD
 rw[pyD]
 congr 1
 induction xs with
 |nil=>rfl
 |cons x xs ih=>rw[V1,pyL,ih,pyD];rfl
theorem zn6:((pyL (rs.map tD)).any λy=>y.eqv (pyD (tD q)))=decide (q∈rs):=by
 induction rs with
 |nil=>rw[List.map_nil,pyL];rfl
 |cons r rs ih=>
  rw[V1,pyL,List.any_cons,ih,zm6,zm6,zbw,Bool.eq_iff_iff,Bool.or_eq_true,B3,B3,B3,R0]
  exact⟨λh=>h.imp Eq.symm id,λh=>h.imp Eq.symm id⟩
theorem zqq(h:zbB r=true):okD (tD r)=true:=by
 obtain⟨a',b',w2,rfl,ha',hb',_,hw⟩:=zR h
 show okD (.tup [.str a', .str b', .str w2])=true
 rw[okD,okL,okL,okL,okL,okD,okD,okD,zaa ha',zaa hb']
 rcases hw with⟨rfl,_⟩|rfl<;>decide +kernel
theorem zli{a b c:Str}:(pyD (tD [a,b,c])).depth<=60:=by
 show(pyD (.tup [.str a, .str b, .str c])).depth<=60
 rw[pyD,pyL,pyL,pyL,pyL,pyD,pyD,pyD,PyData.depth,PyData.depthAll,PyData.depthAll,PyData.depthAll,PyData.depthAll,PyData.depth,PyData.depth,PyData.depth];decide
noncomputable def kOf(t:List Str):List Key:=t.map Sum.inr
structure RT(H:Hp)(kvs:List (List Key×V))(rs:List (List Str)):Prop where
 len:kvs.length=rs.length
 at_:∀(j:Nat) (kv:List Key×V) (r:List Str),kvs[j]?=some kv->rs[j]?=some r->∃b,kv.1=kOf (zT r)/\kv.2= .ref b/\H b=some (.tup (r.map V.str))
 row:∀r∈rs,zbB r=true
 nd:(rs.map zT).Nodup
structure RG(xs:List Str)(m:Nat)(rs:List (List Str)):Prop where
 row:∀r∈rs,zbB r=true
 nd:(rs.map zT).Nodup
 old:∀r∈rs,∃i j,i<m/\j<m/\zT r=pr (at_ xs i) (at_ xs j)
structure MAt(K:W.Frag)(C:Addr)(x qual:Str)(st:Stmt)(ps:List Str)(f:Addr)(fd:FuncData):Prop where
 fn:Fun K x qual st f fd
 b:Binds K fd ps []
 m:Meth K C x f
section
variable{o:Expr}{f m:Str}{ta:TE}{t:TA}{ps:List Str}{ds:List Value}{E:XK}
theorem zkS{g:Expr}{ty:TE}(hu:X.A.units+1<cLine)(ho:QE X o td)(he:QE X e ty)(hf:QE X g tx)(hb:autoParam (attributeBase o "get" X.env (eval o X.env)=eval o X.env) y3)
 (hw:autoParam (((backTo cpos (starEach [e,g] X.env)).all (λx=>!x.1)&&(backToKw cpos (keywordEach [] X.env)).all (λx=>x.1.isSome)
 &&decide (([e,g]:List Expr).length+([]:List Keyword).length+(if([]:List Keyword).isEmpty then 0 else 1)<30))=true) y3) (hl:autoParam ((apos.endLine==cpos.line)=true) y3) (ht:autoParam (backTo cpos (starEach [e,g] X.env)=[(false,eval e X.env),(false,eval g X.env)]) y3):
 QE X (.Call (.Attribute o "get" apos) [e,g] [] cpos) (znM td ty tx):=⟨zmI hu ho.o he.o hf.o ⟨hb,hw,hl,ht⟩⟩
end
inductive TrC(K:W.Frag)(H:Hp):V->PyData->Prop
 |non:TrC K H .non .none
 |bl (b:Bool):TrC K H (.bl b) (.bool b)
 |int (i:Int):TrC K H (.int i) (.int i)
 |str (x:Str) (h:PyData.strOk x=true):TrC K H (.str x) (.str x)
 |tup {p:Addr} {vs:List V} {ds:List PyData} (e:SqT K H p vs) (hl:vs.length=ds.length) (h:∀(i:Nat) (v:V) (d:PyData),vs[i]?=some v->ds[i]?=some d->TrC K H v d):TrC K H (.ref p) (.tuple ds)
theorem zpU{st:Stmt}:QS X st (λ_ _ _=>False):=⟨λpins s σ H D I h=>h.elim⟩
theorem zfr(kx vx target iter:Expr)(ifs:List Expr)(scope:Scope)(pos:Pos)(it:Value)(d:Addr)(env:Env):
 compTurn (.DictComp kx vx [⟨target,iter,ifs,0⟩] scope pos) 0 it (.ref d) env=(do
  standAt iter.pos
  match←pyNext it with
  |none=>pure (.done .next)
  |some v=>
   letOwnedTupleGo target it v
   assign target env v
   let mut ok:=true
   for c in ifs do
    if ok then ok ←isTrue c env (eval c env)
   if ok then
    (do
      let kv ←eval kx env
      let vv ←holding [kv] (eval vx env)
      standAt {kx.pos with endLine:=vx.pos.endLine,endCol:=vx.pos.endCol}
      holding [kv,vv] (dictSet d kv vv))
   again (.compLoop (.DictComp kx vx [⟨target,iter,ifs,0⟩] scope pos) 0 it (.ref d) env)):=by rfl
theorem zpt{it:Value}{d:Addr}(I:Nat->Shared->Prop)
 (turn:∀n s,I n s->wpAny `Y3 A (pyNext it) (λr s1=>match r with
   |none=>R (.ok .next) s1
   |some v=>wpAny `Y3 A (letOwnedTupleGo target it v) (λ_ s1'=>wpAny `Y3 A (assign target env v) (λ_ s2=>wpAny `Y3 A (zcg ifs env) (λok s3=>
     if ok=true then wpAny `Y3 A (eval kx env) (λk s4=>wpAny `Y3 A (eval vx env) (λx s4'=>wpAny `Y3 A (dictSet d k x) (λ_ s5=>∃m,m<n/\I m s5) (λ_ _=>False) s4') (λ_ _=>False) s4) (λ_ _=>False) s3
     else∃m,m<n/\I m s3) (λ_ _=>False) s2) (λ_ _=>False) s1') (λ_ _=>False) s1) (λ_ _=>False) s)
 (n:Nat) (h:I n s):codeAny `Y3 A (.compLoop (.DictComp kx vx [⟨target,iter,ifs,0⟩] scope pos) 0 it (.ref d) env) R s:=by
 have no:∀{E:Value->Shared->Prop} (e:Value) (s:Shared),(λ(_:Value) (_:Shared)=>False) e s->E e s:=λ_ _ z=>False.elim z
 refine codeAny_loop rfl I (λn s hI=>?_) n h
 show wpAny _ A ((compTurn (.DictComp kx vx [⟨target,iter,ifs,0⟩] scope pos) 0 it (.ref d) env).onRaise (λx=>do noteFrame x env;theTreesLotGoes x)) _ _ s
 refine wpAny_noted ?_
 rw[zfr]
 refine A0 (J3 (A0 (K1 (turn n s hI) (λr s₁ h₁=>?_) no)))
 cases r with
 |none=>exact F0 h₁
 |some v=>
  refine A0 (K1 h₁ (λ_ s1' h1'=>?_) no)
  refine A0 (K1 h1' (λ_ s₂ h₂=>A0 (K1 h₂ (λok s₃ h₃=>?_) no)) no)
  cases ok with
  |false=>exact F0 ⟨rfl,h₃⟩
  |true=>
   exact A0 (A0 (K1 h₃ (λk s₄ h₄=>A0 (O2 (K1 h₄ (λx s₅ h₅=>A0 (J3 (O2 (K1 h₅ (λ_ s₆ h₆=>F0 ⟨rfl,h₆⟩) no)))) no))) no))
def zfK(g:TG)(tc:TT)(tk tv:TE)(src:List (Option Nat))(σ:St)(Q:VK)(J:It)(H1:Hp):Prop:=∀l,H1 l=none->
 ∃W:Nat->Nat->List (Key×V)->St->Hp->Prop,(∃m,W 0 m [] (zdk src σ) (upd H1 l (.dK [])))/\∀i m ys σ' H',W i m ys σ' H'->H' l=some (.dK ys)->
  (J.stop i H'/\Q (.ref l) H')\/(J.go i H'/\∃N:List (Key×V)->St->Hp->Prop,(∀zs σ2 H2,N zs σ2 H2->∃m',m'<m/\W (i+1) m' zs σ2 H2)/\∀x H2,J.yld i H' x H2->g x σ' H2 λσ2 H3=>tc σ2 H3 λb H4=>
    if b=true then tk σ2 H4 λk H5=>tv σ2 H5 λy H6=>∃k',k=kV k'/\H6 l=some (.dK ys)/\ys.length<sizeLine/\N (zaj ys k' y) σ2 (upd H6 l (.dK (zaj ys k' y)))
    else H4 l=some (.dK ys)/\N ys σ2 H4)
noncomputable def zkN(wi:TI)(g:TG)(tc:TT)(tk tv:TE)(src:List (Option Nat)):TE:=λσ H Q=>wi σ H (zfK g tc tk tv src σ Q)
section
variable{src:List (Option Nat)}{g:TG}{tk:TE}
theorem zl7(ok:CompOk X.N osc N' src scope)(hsc:X.env.scope=osc)(hc:X.calm=true)(hi:PI X tg iter wi)
 (hg:∀cl C s₀ H₀ fp,PG `X3 tg g) (ht:∀cl C s₀ H₀ fp,PIf `X3 ifs tc) (hk2:∀cl C s₀ H₀ fp,PE `X3 kx tk) (hv2:∀cl C s₀ H₀ fp,PE `X3 vx tv)
 (hs:autoParam (∀x,foldedSetIterable iter X.env x=pure x) y4):PE X (.DictComp kx vx [⟨tg,iter,ifs,0⟩] scope pos) (zkN wi g tc tk tv src):=by
 intro pins s σ H Q I h
 obtain⟨cl,hcl,c1,c2⟩:=zbK (scope:=scope) (env:=X.env) λy hy hyf=>I.ok.has y.1 (by
  have z:=ok.frees y hy hyf
  rw[←hsc] at z
  exact z)
 rw[arm_eval_DictComp]
 refine wpAny_comprehension_free (use:=none) rfl hs hcl ok.kind ok.loc (thn (hi pins s σ H _ I h) λv s1 h1=>thn h1 λitv s2 h2=>?_)
 obtain⟨it,fp,tn,J,H2,e,I2,T,st2,f2,q2⟩:=h2
 subst e
 have hlt2:∀b∈fp,b<s2.heap.objs.size:=λb hb=>by
  obtain⟨o,e,_⟩:=T.obj _ _ st2 b hb
  exact W0 e
 refine j1 ?_
 have hl:H2 s2.heap.objs.size=none:=I2.hok.fresh (L0 _)
 have I3:Inv X pins σ (upd H2 s2.heap.objs.size (.dK [])) {s2 with heap:=s2.heap.push {cls:= .type "dict",data:= .dict #[]}}:=
  I2.laid (t':=s2.toks) (λb u e=>G0 _ e) (L0 _) (zon s2.heap I2.big)
 obtain⟨W,⟨m0,w0⟩,turn⟩:=q2 _ hl
 generalize hl2:s2.heap.objs.size=l at *
 generalize hs3:({s2 with heap:=s2.heap.push {cls:= .type "dict",data:= .dict #[]}}:Shared)=s3 at *
 have f3:∀b∈fp,zb4 X pins (upd H2 l (.dK [])) b:=λb hb=>⟨by rw[zc (P1 (hlt2 b hb))];exact(f2 b hb).1,(f2 b hb).2⟩
 have k3:∀b o,s2.heap.get? b=some o->s3.heap.get? b=some o:=λb o e=>by rw[←hs3];exact G0 _ e
 have hlt3:∀b∈fp,b<s3.heap.objs.size:=λb hb=>by
  obtain⟨o,e,_⟩:=T.obj _ _ st2 b hb
  exact W0 (k3 b o e)
 refine wpAny_newFunctionEnv ok.nocell (by intro y hy;simp at hy) (λh₁ hns₁ hsb₁=>?_) ok.kind
 have k4:∀b o,s3.heap.get? b=some o->h₁.get? b=some o:=λb o e=>(hsb₁.2 b (P1 (W0 e))).trans (G0 _ e)
 have J0:=zbF (tk:=s3.toks+([]:List (Str×Value)).length) I3 f3 hlt3 ok hsc c1 c2 hns₁ k4
 have st4:tn 0 h₁:=T.keep _ _ _ st2 λb hb o e=>k4 b o (k3 b o e)
 generalize hC:s3.heap.objs.size=C at *
 have stat:∀{H':Hp},(∀b∈fp,H' b=none)->∀b∈fp,zb4 (zg X N' scope cl C s3 (upd H2 l (.dK [])) fp) [] H' b:=λ{H'} hn b hb=>
  ⟨hn b hb,(J0.ok.exf b hb).1,J0.ok.exfs b hb, .inl hb,(J0.ok.exf b hb).2,λp hp=>absurd (show p∈([]:List (Addr×Obj))from hp) `j3⟩
 have loop:codeAny `W3 X.A (.compLoop (.DictComp kx vx [⟨tg,iter,ifs,0⟩] scope pos) 0 (.ref it) (.ref l) (compEnvC scope cl C X.env))
  (compPost `W3 X.A X.xe none (EP X pins σ Q) (.ref l) C) {s3 with heap:=h₁,toks:=s3.toks+([]:List (Str×Value)).length}:=by
  refine zpt (λn s'=>∃i ys σ' H',Inv (zg X N' scope cl C s3 (upd H2 l (.dK [])) fp) [] σ' H' s'/\tn i s'.heap/\(∀b∈fp,H' b=none)/\H' l=some (.dK ys)/\W i n ys σ' H') ?_ m0
   ⟨0,[],_,_,J0,st4,λb hb=>(f3 b hb).1,zb,w0⟩
  rintro n s5 ⟨i,ys,σ5,H5,I5,st5,fr5,hl5,w5⟩
  rcases turn i n ys σ5 H5 w5 hl5 with⟨stop,qn⟩|⟨go,N,hN,step⟩
  ·refine thn (T.done (zg X N' scope cl C s3 (upd H2 l (.dK [])) fp) rfl rfl rfl hc i [] s5 σ5 H5 (λ_ _=>False) I5 (stat fr5) st5 stop) λr s6 ⟨hr,I6⟩=>?_
   subst hr
   obtain⟨m,hn,_⟩:=I6.loc
   exact⟨m,hn,λh' hsb=>⟨.ref l,H5,zbD I3 f3 (by rw[←hC];exact L0 _) I6 hsb,rfl,qn⟩⟩
  ·refine thn (T.item (zg X N' scope cl C s3 (upd H2 l (.dK [])) fp) rfl rfl rfl hc i [] s5 σ5 H5 (λ_ _=>False) I5 (stat fr5) st5 go) λr s6 ⟨u,hr,h6⟩=>?_
   subst hr
   refine thn h6 λ_ s7 zq=>?_
   obtain⟨x,H7,I7,r7,y7,st7,fr7⟩:=zq
   have I7':=I7.pinned (stat fr7) (T.obj _ _ st7)
   refine thn (hg cl C s3 _ fp _ s7 σ5 H7 x u _ I7' r7 (step x H7 y7)) λ_ s8 zq=>?_
   obtain⟨σ8,H8,I8,q8⟩:=zq
   refine thn (ht cl C s3 _ fp _ s8 σ8 H8 _ I8 q8) λb s9 zq=>?_
   obtain⟨H9,I9,q9⟩:=zq
   have back:∀{s':Shared} {H':Hp},Inv (zg X N' scope cl C s3 (upd H2 l (.dK [])) fp) ([]++zan fp s7.heap) σ8 H' s'->tn (i+1) s'.heap/\∀b∈fp,H' b=none:=λ{s' H'} I'=>by
    refine⟨T.keep _ _ _ st7 λb hb o e=>(I'.pin (b,o) (O0 _ (O0 _ (zv hb e)))).1,λb hb=>?_⟩
    obtain⟨o,e,d⟩:=T.obj _ _ st7 b hb
    exact(I'.pin (b,o) (O0 _ (O0 _ (zv hb e)))).2.1
   cases b with
   |false=>
    obtain⟨hl9,n9⟩:=q9
    obtain⟨m',hm,w9⟩:=hN _ _ _ n9
    obtain⟨t9,fr9⟩:=back I9
    exact⟨m',hm,i+1,ys,σ8,H9,I9.unpinned,t9,fr9,hl9,w9⟩
   |true=>
    refine thn (hk2 cl C s3 _ fp _ s9 σ8 H9 _ I9 q9) λkv2 s10 zq=>?_
    obtain⟨k',H10,I10,rk10,q10⟩:=zq
    refine thn (hv2 cl C s3 _ fp _ s10 σ8 H10 _ I10 q10) λxv2 s11 zq1=>?_
    obtain⟨y',H11,I11,r11,k'',ek,hl11,hz,n11⟩:=zq1
    subst ek
    obtain⟨m',hm,w11⟩:=hN _ _ _ n11
    obtain⟨z,hd,vs,rel,dd⟩:=zmV I11.hok hl11
    have hz2:vs.length<=sizeLine:=by rw[←rel.length];exact z
    have hl2':(zaj ys k'' y').length<=sizeLine:=by have:=zcT ys k'' y';lia
    refine wpAny_dictSet_pairs (ziP rk10) dd (λh' dd' hs=>?_) hz2
    have he:∃q,h'.get? l=some q:=let⟨q,_,_,hq,_⟩:=dd';⟨q,hq⟩
    have I12:=ze6 (t':=s11.toks+1) I11 (by rw[hl11];exact True.intro) hs he (zmt hl2' hd (rel.put k'' r11) dd')
    obtain⟨t12,fr12⟩:=back I12
    exact⟨m',hm,i+1,zaj ys k'' y',σ8,_,I12.unpinned,t12,fr12,zb,w11⟩
 exact codeAny_compStart_dict loop (T.self _ 0 _ _ _ st4 loop)
theorem zfi(ok:CompOk X.N osc N' src scope)(hsc:X.env.scope=osc)(hc:X.calm=true)(hi:QI X tg iter wi)
 (hg:∀cl C s₀ H₀ fp,QG `X3 tg g) (ht:∀cl C s₀ H₀ fp,QF `X3 ifs tc) (hk2:∀cl C s₀ H₀ fp,QE `X3 kx tk) (hv2:∀cl C s₀ H₀ fp,QE `X3 vx tv)
 (hs:autoParam (∀x,foldedSetIterable iter X.env x=pure x) y4):QE X (.DictComp kx vx [⟨tg,iter,ifs,0⟩] scope pos) (zkN wi g tc tk tv src):=
 ⟨zl7 ok hsc hc hi.o (λcl C s₀ H₀ fp=>(hg cl C s₀ H₀ fp).o) (λcl C s₀ H₀ fp=>(ht cl C s₀ H₀ fp).o) (λcl C s₀ H₀ fp=>(hk2 cl C s₀ H₀ fp).o) (λcl C s₀ H₀ fp=>(hv2 cl C s₀ H₀ fp).o) hs⟩
end
theorem zgC{P:Nat->V->Prop}{ok:Hp->Prop}{g:TG}{tk:TE}{src:List (Option Nat)}{Q:VK}(wk:Wk J n P ok)(Pv:Addr->Nat->List (Key×V)->St->Hp->Prop)
 (h0:∀l,H1 l=none->Pv l 0 [] (zdk src σ) (upd H1 l (.dK []))) (hok:∀l i ys σ H,H1 l=none->Pv l i ys σ H->ok H)
 (hs:∀l i x ys σ H,H1 l=none->i<n->P i x->Pv l i ys σ H->H l=some (.dK ys)->g x σ H λσ2 H3=>tc σ2 H3 λb H4=>
   if b=true then tk σ2 H4 λk H5=>tv σ2 H5 λy H6=>∃k',k=kV k'/\H6 l=some (.dK ys)/\ys.length<sizeLine/\Pv l (i+1) (zaj ys k' y) σ2 (upd H6 l (.dK (zaj ys k' y)))else H4 l=some (.dK ys)/\Pv l (i+1) ys σ2 H4)
 (hd:∀l ys σ H,H1 l=none->Pv l n ys σ H->H l=some (.dK ys)->Q (.ref l) H):zfK g tc tk tv src σ Q J H1:=by
 intro l hl
 refine⟨λi m ys σ H=>m=n -i/\i<=n/\Pv l i ys σ H,⟨n,`j3,X1 _,h0 l hl⟩,?_⟩
 rintro i m ys σ H ⟨rfl,hi,p⟩ e
 by_cases hlt:i<n
 ·refine .inr ⟨wk.go i H (hok l i ys σ H hl p) hlt,Pv l (i+1),λzs σ' H' q=>⟨n -(i+1),(),rfl,hlt,q⟩,λx H' y=>?_⟩
  obtain⟨rfl,px⟩:=wk.yld i H x H' (hok l i ys σ H hl p) hlt y
  exact hs l i x ys σ _ hl hlt px p e
 ·have ei:i=n:=()
  subst ei
  exact .inl ⟨wk.stop i H (hok l i ys σ H hl p) (L0 _),hd l ys σ H hl p e⟩
def RawE(h:Heap)(d:Addr)(ps:List (Value×Value))(ep:Nat):Prop:=∃o es,h.get? d=some o/\o.ExactDict/\o.data= .dict es ep/\es.toList.map (λe=>(e.key,e.val))=ps
theorem RawE.ty{d:Addr}{ps:List (Value×Value)}(x:RawE s.heap d ps ep):s.TypeIs (.ref d) "dict":=let⟨o,_,ho,hc,_⟩:=x;⟨o,ho,hc.1⟩
section
variable{d:Addr}{ps:List (Value×Value)}
theorem raw_items{R:Value->Shared->Prop}(nsys:(d==sysModules)=false)(x:RawE s.heap d ps ep)(q:R (.ref s.heap.objs.size) {s with heap:=s.heap.push {cls:= .type "dict_items",data:= .fields #[.ref d]}}):
 wpAny `Y3 A (Builtin.«dict.items» ⟨[.ref d],[]⟩) (λfin s'=>∃v,fin= .done (.ret v)/\R v s') E s:=by
 unfold Builtin.«dict.items»
 refine A0 ?_
 unfold Builtin.Dict.noArgs
 refine A0 (wpAny_notOrdered_dict x.ty ?_)
 show wpAny _ _ (pure d) _ _ s
 refine F0 ?_
 show wpAny _ _ (Builtin.Dict.showsAll d>>=_) _ _ s
 unfold Builtin.Dict.showsAll
 rw[P0 (by rw[nsys];exact O1)]
 refine A0 (F0 ?_)
 exact A0 (j1 (F0 ⟨_,rfl,q⟩))
theorem raw_items_iter{v:Addr}(hv:s.heap.IsItemsView v d)(x:RawE s.heap d ps ep)
 (hQ:Q (.ref s.heap.objs.size) {s with heap:=s.heap.push {cls:= .type "dict_itemiterator",data:= .fields #[.none, .bool false, .ref d, .int 0 0, .int ps.length 0, .int ep 0, .none, .none]}}):
 wpAny `Y3 A (pyIter (.ref v)) Q E s:=by
 obtain⟨ov,hov,hcv,hdv⟩:=id hv
 obtain⟨o,es,ho,hc,hdat,hp⟩:=id x
 refine wpAny_pyIter_slot hv.typeIs F.slot_dict_items_iter (G2 F.slot_dict_items_iter hv.typeIs F.entry_dict_items_iter ?_ (F.args_dict_items_iter_1 _))
 unfold Builtin.«dict_items.__iter__»
 refine A0 (F0 ?_)
 refine A0 ?_
 unfold Builtin.Dict_items.dictOf
 refine A0 (wpAny_field hov hdv (x:= .ref d) rfl (F0 ?_))
 refine A0 ?_
 unfold Builtin.Dict_items.newIterator
 refine A0 (wpAny_dictEntries ho hdat ?_)
 refine A0 (wpAny_dictEpoch ho hdat ?_)
 have hsz:es.size=ps.length:=by rw[←hp];simp
 have hown:Builtin.Dict_items.ownsTuple "dict_itemiterator"=true:=⋯
 simp only[hown,if_true]
 refine j1 (F0 ⟨_,rfl,"dict_itemiterator",_,⟨_,T0 _ rfl,rfl⟩,F.slot_dict_itemiterator_next.lookup,?_⟩)
  (by simp only[sizeOk,Builtin.Dict_items.ownedTupleFields,G1,Z0,Y1,List.length_nil,K3];lia)
 simpa[rawInt,hsz,Builtin.Dict_items.ownedTupleFields] using hQ
theorem raw_items_next{d:Addr}{ps:List (Value×Value)}{v ok:Value}{Q:Option Value->Shared->Prop}(hit:IsItemIter s.heap it d i ps.length ep ok ov)
 (hm:RawE s.heap d ps ep) (hx:ps[i]?=some (key,v))
 (hQ:∀h',IsItemIterOut h' it d (i+1) ps.length ep key v s.heap.objs.size->
   h'.get? s.heap.objs.size=some {cls:= .type "tuple",data:= .seq #[key,v]}->h'.objs.size=s.heap.objs.size+1->
   (∀b o,b≠it->s.heap.get? b=some o->h'.get? b=some o)->Q (some (.ref s.heap.objs.size)) {s with heap:=h'}):
 wpAny `Y3 A (pyNext (.ref it)) Q E s:=by
 obtain⟨hp,g,dr,tk,os⟩:=s
 obtain⟨od,es,hod,hcd,hdd,hpr⟩:=id hm
 have hT:Shared.TypeIs ⟨hp,g,dr,tk,os⟩ (.ref it) "dict_itemiterator":=⟨_,hit,rfl⟩
 unfold pyNext
 refine A0 (wpAny_attempt (Y2 (name:=Str.ofString "__next__") hT F.slot_dict_itemiterator_next
  (G2 F.slot_dict_itemiterator_next hT F.entry_dict_itemiterator_next ?_ (F.args_dict_itemiterator_next_1 _))))
 refine A0 (F0 ?_)
 refine A0 ?_
 refine A0 ?_
 first|refine A0 (wpAny_typeNameOfWhole_itemiter hT (F0 ?_))|refine A0 (wpAny_typeNameOf_itemiter hT (F0 ?_))
 refine A0 (wpAny_fieldsOf hit rfl ?_)
 have hown:Builtin.Dict_items.ownsTuple "dict_itemiterator"=true:=⋯
 simp only[hown,if_true]
 show wpAny _ _ (if(Value.ref d==Value.none)=true then _ else _) _ _ _
 rw[P0 (show¬((Value.ref d==Value.none)=true)from O1)]
 refine A0 (F0 ?_)
 refine A0 (wpAny_dictEntries hod hdd ?_)
 have hsz:es.size=ps.length:=by rw[←hpr];simp
 rw[P0 (by rw[hsz];simp)]
 refine A0 (F0 ?_)
 refine A0 (wpAny_dictEpoch hod hdd ?_)
 rw[P0 `j3]
 refine F0 ?_
 have hlt:i<ps.length:=by
  rcases D1 i ps.length with h|h
  ·exact h
  ·simp[I0 h] at hx
 have hlt':i<es.size:=by rw[hsz];exact hlt
 have hkv:es[i].key=key/\es[i].val=v:=by
  have e1:ps[i]?=some (es[i].key,es[i].val):=by rw[←hpr];simp[hlt']
  rw[e1] at hx
  have:=o0 hx
  exact⟨congrArg Prod.fst this,congrArg Prod.snd this⟩
 obtain⟨hkey,hval⟩:=hkv
 simp only[show¬((i:Int)<0)from by lia,if_false,L3,Z1 hlt']
 refine A0 ?_
 first|refine A0 (wpAny_typeNameOfWhole_itemiter hT (F0 ?_))|refine A0 (wpAny_typeNameOf_itemiter hT (F0 ?_))
 refine A0 (wpAny_isOneOf_itemiter hT ?_)
 show wpAny _ _ (setField (.ref it) 3 (rawInt ((i:Int)+1))>>=_) _ _ ⟨hp,g,dr,tk,os⟩
 refine A0 (wpAny_setField_rec hit `j3 λh₁ he₁ hs₁=>?_)
 replace hs₁:Heap.SameBut it hp h₁:=hs₁
 replace he₁:IsItemIter h₁ it d (i+1) ps.length ep ok ov:=by
  have e:((i+1:Nat):Int)=(i:Int)+1:=()
  unfold IsItemIter;rw[e];simpa[rawInt] using he₁
 have hT₁:Shared.TypeIs ⟨h₁,g,dr,tk,os⟩ (.ref it) "dict_itemiterator":=⟨_,he₁,rfl⟩
 refine A0 (O2 ?_)
 refine A0 (wpAny_isOneOf_itemiter hT₁ ?_)
 refine A0 (wpAny_isOneOf_itemiter hT₁ ?_)
 show wpAny _ _ (Builtin.Dict_items.pairFromOwner (.ref it) 6 es[i].key es[i].val) _ _ ⟨h₁,g,dr,tk,os⟩
 unfold Builtin.Dict_items.pairFromOwner
 refine A0 (wpAny_newTuple ?_)
 have he₂:IsItemIter (h₁.push {cls:= .type "tuple",data:= .seq #[es[i].key,es[i].val]}) it d (i+1) ps.length ep ok ov:=G0 _ he₁
 generalize hh₂:h₁.push {cls:= .type "tuple",data:= .seq #[es[i].key,es[i].val]}=h₂ at he₂
 have hz₁:h₁.objs.size=hp.objs.size:=hs₁.1
 have hil:it<hp.objs.size:=W0 hit
 have ht₂:h₂.get? hp.objs.size=some {cls:= .type "tuple",data:= .seq #[es[i].key,es[i].val]}:=by rw[←hh₂,←hz₁];exact T0 _ rfl
 have hz₂:h₂.objs.size=hp.objs.size+1:=by rw[←hh₂,Heap.size_push,hz₁]
 have hk₂:∀b o,b≠it->hp.get? b=some o->h₂.get? b=some o:=λb o hb e=>by rw[←hh₂];exact G0 _ (hs₁.extBut b o hb e)
 show wpAny _ _ (Builtin.Dict_items.ownedTupleIsFree (.ref it)>>=_) _ _ ⟨h₂,g,dr,tk,os⟩
 rw[hz₁]
 clear hh₂ he₁ hs₁ hT₁ hz₁ h₁
 refine A0 ?_
 unfold Builtin.Dict_items.ownedTupleIsFree
 refine A0 (wpAny_field he₂ rfl (x:= .none) rfl (F0 ?_))
 simp only[if_true]
 refine A0 (wpAny_field he₂ rfl (x:=ok) rfl ?_)
 refine A0 (wpAny_field he₂ rfl (x:=ov) rfl ?_)
 refine A0 (wpAny_setField_rec he₂ `j3 λh₃ he₃ hs₃=>?_)
 replace hs₃:Heap.SameBut it h₂ h₃:=hs₃
 replace he₃:IsItemIter h₃ it d (i+1) ps.length ep es[i].key ov:=he₃
 refine A0 (wpAny_setField_rec he₃ `j3 λh₄ he₄ hs₄=>?_)
 replace hs₄:Heap.SameBut it h₃ h₄:=hs₄
 replace he₄:IsItemIter h₄ it d (i+1) ps.length ep es[i].key es[i].val:=he₄
 refine A0 (wpAny_setField_rec he₄ `j3 λh₅ he₅ hs₅=>?_)
 replace hs₅:Heap.SameBut it h₄ h₅:=hs₅
 replace he₅:IsItemIterOut h₅ it d (i+1) ps.length ep es[i].key es[i].val hp.objs.size:=he₅
 refine A0 (wpAny_setField_rec he₅ `j3 λh₆ he₆ hs₆=>?_)
 replace hs₆:Heap.SameBut it h₅ h₆:=hs₆
 replace he₆:IsItemIterOut h₆ it d (i+1) ps.length ep es[i].key es[i].val hp.objs.size:=he₆
 refine A0 (wpAny_letGo (F0 (F0 ⟨_,rfl,F0 (hQ h₆ (hkey▸hval▸he₆) ?_ ?_ ?_)⟩)))
 ·rw[←hval,←hkey];exact hs₆.extBut _ _ (Nat.ne_of_gt hil) (hs₅.extBut _ _ (Nat.ne_of_gt hil) (hs₄.extBut _ _ (Nat.ne_of_gt hil) (hs₃.extBut _ _ (Nat.ne_of_gt hil) ht₂)))
 ·show h₆.objs.size=hp.objs.size+1
  rw[hs₆.1,hs₅.1,hs₄.1,hs₃.1,hz₂]
 ·exact λb o hb e=>hs₆.extBut b o hb (hs₅.extBut b o hb (hs₄.extBut b o hb (hs₃.extBut b o hb (hk₂ b o hb e))))
theorem raw_items_end{d:Addr}{ps:List (Value×Value)}{ok:Value}{Q:Option Value->Shared->Prop}(hh:A.handled=none)(hit:IsItemIter s.heap it d i ps.length ep ok ov)
 (hm:RawE s.heap d ps ep) (hx:ps[i]?=none)
 (hQ:∀h',Heap.ExtBut it s.heap h'->Q none {s with heap:=h'}):wpAny `Y3 A (pyNext (.ref it)) Q E s:=by
 obtain⟨od,es,hod,hcd,hdd,hpr⟩:=id hm
 have hT:s.TypeIs (.ref it) "dict_itemiterator":=⟨_,hit,rfl⟩
 unfold pyNext
 refine A0 (wpAny_attempt (Y2 (name:=Str.ofString "__next__") hT F.slot_dict_itemiterator_next
  (G2 F.slot_dict_itemiterator_next hT F.entry_dict_itemiterator_next ?_ (F.args_dict_itemiterator_next_1 _))))
 refine A0 (F0 ?_)
 refine A0 ?_
 refine A0 ?_
 first|refine A0 (wpAny_typeNameOfWhole_itemiter hT (F0 ?_))|refine A0 (wpAny_typeNameOf_itemiter hT (F0 ?_))
 refine A0 (wpAny_fieldsOf hit rfl ?_)
 have hown:Builtin.Dict_items.ownsTuple "dict_itemiterator"=true:=⋯
 simp only[hown,if_true]
 show wpAny _ _ (if(Value.ref d==Value.none)=true then _ else _) _ _ s
 rw[P0 (show¬((Value.ref d==Value.none)=true)from O1)]
 refine A0 (F0 ?_)
 refine A0 (wpAny_dictEntries hod hdd ?_)
 have hsz:es.size=ps.length:=by rw[←hpr];simp
 rw[P0 (by rw[hsz];simp)]
 refine A0 (F0 ?_)
 refine A0 (wpAny_dictEpoch hod hdd ?_)
 rw[P0 `j3]
 refine F0 ?_
 have hge:es.size<=i:=by rw[hsz];simpa using hx
 simp only[show¬((i:Int)<0)from by lia,if_false,L3,Array.getElem?_eq_none hge]
 refine A0 ?_
 first|refine A0 (wpAny_typeNameOfWhole_itemiter hT (F0 ?_))|refine A0 (wpAny_typeNameOf_itemiter hT (F0 ?_))
 show wpAny _ _ (setField (.ref it) 2 .none>>=_) _ _ s
 refine A0 (wpAny_setField hit rfl `j3 ?_)
 show wpAny _ _ (newExc (.type "StopIteration") []>>=_) _ _ _
 refine A0 ?_
 simp only[newExc,newTuple]
 refine A0 (j1 ?_ (by size_fits))
 refine A0 (m:=firstArgMember _ _) (wpAny_of_eq (a:=Value.none) (by first|rfl|(simp only[firstArgMember];rfl)) ?_)
 refine j1 ?_ (by size_fits)
 simp only[raiseNew]
 refine A0 (wpAny_handled ?_)
 rw[show A.in1.handled=none from hh]
 refine A0 (F0 (wpAny_throw ?_))
 refine A0 (wpAny_isInstance (T:="StopIteration") (b:=true) ⟨_,T0 _ rfl,rfl⟩ isSubtype_stop ?_)
 exact F0 (hQ _ (((K2 ..).extBut.push _).push _))
end
noncomputable def Iti(d:Addr)(o:Obj)(u:HO)(ks:List (V×V)):It:=⟨λi H=>i<ks.length/\H d=some (.frz o u),λi H x H'=>∃T p,ks[i]?=some p/\x= .ref T/\H T=none/\H'=upd H T (.tup [p.1,p.2]),λi H=>ks.length<=i/\H d=some (.frz o u)⟩
theorem zjx{x1}(d it:Addr)(hne:d≠it)(o:Obj)(u:HO)(vs:List (V×V))(ps:List (Value×Value))(ep:Nat)(es:Array DictEntry)(ex:o.ExactDict)(dat:o.data= .dict es ep)(hes:es.toList.map (λe=>(e.key,e.val))=ps)(rel:∀(i:Nat) (v:V×V),vs[i]?=some v->∃q,ps[i]?=some q/\RelV v.1 q.1/\RelV v.2 q.2)(hl:vs.length=ps.length):
 Turn P w K (.Tuple elts x1 pos) (Iti d o u vs) [it] it (λi h=>i<=ps.length/\∃ok ov,IsItemIter h it d i ps.length ep ok ov) where
 mem:=`j3
 obj:=λi h st b hb=>by
  obtain⟨_,ok,ov,e⟩:=st
  have:b=it:=by simpa using hb
  subst this
  exact⟨_,e,λv z=>nomatch z⟩
 keep:=λi h h' st k=>⟨st.1,let⟨ok,ov,e⟩:=st.2;⟨ok,ov,k it `j3 _ e⟩⟩
 item:=by
  intro X hP hw hK hc i pins s σ H E I hf st hg
  subst hP hw hK
  have hi:i<vs.length:=hg.1
  have raw:RawE s.heap d ps ep:=⟨o,es,((show ObjOk X.prog X.w H s.heap d (.frz o u)from I.hok d _ hg.2)).1,ex,dat,hes⟩
  obtain⟨q,hq,rk,rv⟩:=rel i vs[i] (by simp[hi])
  obtain⟨f0,f1,f2,f3,f4,f5⟩:=hf it `j3
  obtain⟨_,ok,ov,hit⟩:=st
  refine raw_items_next hit raw hq λh' ho ht hsz hk=>⟨.ref s.heap.objs.size,rfl,wpAny_letOwnedTupleGo_items ho λh2 hi2 sb=>?_⟩
  have itlt:it<s.heap.objs.size:=W0 hit
  have hT:H s.heap.objs.size=none:=I.hok.fresh (L0 _)
  have I1:Inv X pins σ (upd H s.heap.objs.size (.tup [(vs[i]).1,(vs[i]).2])) {s with heap:=s.heap.push {cls:= .type "tuple",data:= .seq #[q.1,q.2]},toks:=s.toks}:=
   I.laid (t':=s.toks) (λb o e=>G0 _ e) (L0 _) ⟨few rfl,[q.1,q.2], .cons rk (.cons rv .nil),⟨_,T0 _ rfl,rfl,_,rfl⟩,NoDict.new rfl (T0 _ rfl)⟩
  have ne:it≠s.heap.objs.size:=P1 itlt
  have kk:∀b o,b≠it->(s.heap.push {cls:= .type "tuple",data:= .seq #[q.1,q.2]}).get? b=some o->h2.get? b=some o:=λb o' hb e=>by
   refine(sb.2 b hb).trans ?_
   by_cases z:b=s.heap.objs.size
   ·rw[z] at e⊢
    rw[T0 _ rfl] at e
    rw[←e];exact ht
   ·exact hk b o' hb (by rw[Heap.get?_push_ne _ _ _ z] at e;exact e)
  have I2:=I1.turned (t':=s.toks) (h':=h2) kk (by rw[zc ne];exact f0) f1 f3 f4 f5
  refine⟨.ref s.heap.objs.size,_,I2,rfl,⟨_,vs[i],by simp[hi],rfl,hT,rfl⟩,⟨(),_,_,hi2⟩,λb hb=>?_⟩
  have:b=it:=by simpa using hb
  subst this
  rw[zc ne];exact f0
 done:=by
   intro X hP hw hK hc i pins s σ H E I hf st hg
   subst hP hw hK
   have hi:vs.length<=i:=hg.1
   have raw:RawE s.heap d ps ep:=⟨o,es,((show ObjOk X.prog X.w H s.heap d (.frz o u)from I.hok d _ hg.2)).1,ex,dat,hes⟩
   obtain⟨hle,ok,ov,hit⟩:=st
   obtain⟨f0,f1,f2,f3,f4,f5⟩:=hf it `j3
   exact raw_items_end (I.ok.hd hc) hit raw (I0 ()) λh' eb=>⟨rfl,I.turned (t':=s.toks) (λb o hb e=>eb b o hb e) f0 f1 f3 f4 f5⟩
 self:=λA i s Q E st h=>by
  obtain⟨_,ok,ov,hit⟩:=st
  exact W.kcp_self hit h
noncomputable def zq9(tl:TE):TI:=λσ H R=>tl σ H λx H1=>∃d kvs,x= .ref d/\H1 d=some (.dT kvs)/\∀(o:Obj) (bs:List Addr),zrc H1 bs kvs->(kvs.map (·.1)).Nodup->R (Iti d o (.dT kvs) ((bs.zip kvs).map λp=>(V.ref p.1,p.2.2))) (upd H1 d (.frz o (.dT kvs)))
theorem znz{o:Expr}{to:TE}(ho:QE X o to)(hbase:autoParam (attributeBase o "items" X.env (eval o X.env)=eval o X.env) y3)(hline:autoParam ((apos.endLine==cpos.line)=true) y3):QI X (.Tuple elts k pos2) (.Call (.Attribute o "items" apos) [] [] cpos) (zq9 to):=⟨by
 intro pins s σ H R I h
 refine wpAny_Call_method0_late hbase hline (thn (ho.o pins s σ H _ I h) λv s1 zq=>?_)
 obtain⟨x,H1,I1,r1,q1⟩:=zq
 obtain⟨d,kvs,rfl,e,q⟩:=q1
 cases r1
 obtain⟨_,nsys,zs,hp,ob,es,ep,g,ex,dat,hes,hnd⟩:=(show ObjOk X.prog X.w H1 s1.heap d (.dT kvs)from I1.hok d _ e)
 obtain⟨hll,hget⟩:=zfh hp
 have ek:zs.map (·.1)=kvs.map (·.1):=by
  apply List.ext_getElem?
  intro i
  rw[N0,N0]
  rcases D1 i kvs.length with h|h
  ·have h':i<zs.length:=()
   have:=(hget i kvs[i] zs[i] (by simp[h]) (by simp[h'])).1
   simp[h,h',this]
  ·rw[I0 h,I0 ()];rfl
 have nd':(kvs.map (·.1)).Nodup:=by rw[←ek];exact hnd
 have ety:s1.TypeIs (.ref d) "dict":=⟨ob,g,ex.1⟩
 have hpr:es.toList.map (λe=>(e.key,e.val))=zs.map λq=>(Value.ref q.2.1,q.2.2):=by rw[hes,G3];rfl
 have raw:RawE s1.heap d (zs.map λq=>(Value.ref q.2.1,q.2.2)) ep:=⟨ob,es,g,ex,dat,hpr⟩
 have dlt:d<s1.heap.objs.size:=W0 g
 refine⟨"dict","dict.items",F.plainAttrs_dict,F.slot_dict_items,F.type_dict_items,ety,λa z=>?_,Calls.callWith_builtin rfl (PySem.evalArgs_none ?_)⟩
 ·cases z;exact⟨ob,g,ex.2.1⟩
 refine G2 F.slot_dict_items ety F.entry_dict_items (raw_items nsys raw ?_) (F.args_dict_items_1 _)
 have hv:Heap.IsItemsView (s1.heap.push {cls:= .type "dict_items",data:= .fields #[.ref d]}) s1.heap.objs.size d:=⟨_,T0 _ rfl,rfl,rfl⟩
 have raw2:RawE (s1.heap.push {cls:= .type "dict_items",data:= .fields #[.ref d]}) d (zs.map λq=>(Value.ref q.2.1,q.2.2)) ep:=⟨ob,es,G0 _ g,ex,dat,hpr⟩
 have I2:Inv X pins σ (upd H1 d (.frz ob (.dT kvs))) {s1 with heap:=s1.heap.push {cls:= .type "dict_items",data:= .fields #[.ref d]},toks:=s1.toks}:=(I1.frz e g).kept (t':=s1.toks) λb o e=>G0 _ e
 refine raw_items_iter (s:={s1 with heap:=s1.heap.push {cls:= .type "dict_items",data:= .fields #[.ref d]}}) hv raw2 ?_
 have itn:(s1.heap.push {cls:= .type "dict_items",data:= .fields #[.ref d]}).objs.size=s1.heap.objs.size+1:=Heap.size_push ..
 have zl:(zs.map λq=>(Value.ref q.2.1,q.2.2)).length=zs.length:=C0 _
 refine⟨_,[(s1.heap.push {cls:= .type "dict_items",data:= .fields #[.ref d]}).objs.size],_,_,upd H1 d (.frz ob (.dT kvs)),rfl,I2.kept (t':=s1.toks) λb o e=>G0 _ e,zjx d _ (by rw[itn];exact P1 (Nat.lt_succ_of_lt dlt)) ob (.dT kvs) (((zs.map λq=>q.2.1).zip kvs).map λp=>(V.ref p.1,p.2.2)) (zs.map λq=>(Value.ref q.2.1,q.2.2)) ep es ex dat hpr (λi v hv=>?_) ?_,⟨X1 _, .none, .none,T0 _ rfl⟩,λb hb=>?_,q ob (zs.map λq=>q.2.1) ⟨by rw[C0];lia,λi b kv e1 e2=>?_⟩ nd'⟩
 ·rw[N0] at hv⊢
  cases hz:((zs.map λq=>q.2.1).zip kvs)[i]? with
  |none=>rw[hz] at hv;cases hv
  |some p=>
   rw[hz] at hv;cases hv
   obtain⟨h1,h2⟩:=List.getElem?_zip_eq_some.mp hz
   rw[N0] at h1
   cases h3:zs[i]? with
   |none=>rw[h3] at h1;cases h1
   |some q=>
    rw[h3] at h1
    have h1:q.2.1=p.1:=o0 h1
    refine⟨_,rfl,?_,(hget i p.2 q h2 h3).2.2⟩
    show Value.ref q.2.1=Value.ref p.1
    rw[h1]
 ·rw[C0,C0,List.length_zip,C0,hll,Nat.min_self]
 ·have:b=(s1.heap.push {cls:= .type "dict_items",data:= .fields #[.ref d]}).objs.size:=by simpa using hb
  subst this
  refine I2.fpOk (L0 _) ?_
  rw[zc (by rw[itn];exact Nat.ne_of_gt (Nat.lt_succ_of_lt dlt))]
  exact I1.hok.fresh (by rw[itn];exact Nat.le_succ _)
 ·rw[N0] at e1
  cases hz:zs[i]? with
  |none=>rw[hz] at e1;cases e1
  |some z=>
   rw[hz] at e1;cases e1
   exact(hget i kv z e2 hz).2.1⟩
section
variable{K:Type}[DecidableEq K]{knd:KeyKind prog w K}
end
inductive TwosAt(H:Hp):List Addr->List Str->List V->Prop
 |nil:TwosAt H [] [] []
 |cons {t:Addr} {x:Str} {y:V} {ts:List Addr} {hs:List Str} {ys:List V}:H t=some (.tup [.str x,y])->TwosAt H ts hs ys->TwosAt H (t::ts) (x::hs) (y::ys)
section
open PySem.W
theorem zjX{lt:α->α->Bool}(d0:α)(tri:∀{a b},a≠b->lt a b=false->lt b a=true)(tr:∀{a b c},lt a b=true->lt b c=true->lt a c=true)(asy:∀{a b},lt a b=true->lt b a=false){ps:List α}(hn:ps.Nodup):Strict ps.length (λi j=>lt (ps.getD i d0) (ps.getD j d0)) where
 tot:=λi j hi hj hij e=>tri (λz=>hij ((List.getElem_inj hn (h₀:=hi) (h₁:=hj)).mp (by simpa[hi,hj] using z))) e
 tr:=λi j k _ _ _ h1 h2=>tr h1 h2
 asy:=λi j _ _ h=>asy h
theorem zmp{d0:α}{ps:List α}:(List.range ps.length).map (λi=>ps.getD i d0)=ps:=by
 apply List.ext_getElem?
 intro i
 rw[N0]
 rcases D1 i ps.length with h|h
 ·rw[List.getElem?_range h]
  simp[h]
 ·rw[I0 (by simpa using h),I0 h];rfl
def AtG(Oa:Hp->Addr->α->Prop)(H:Hp)(vs:List V)(ps:List α):Prop:=vs.length=ps.length/\∀(i:Nat) (v:V) (p:α),vs[i]?=some v->ps[i]?=some p->∃b,v= .ref b/\Oa H b p
def zjo(K:W.Frag)(lt:α->α->Bool)(Oa:Hp->Addr->α->Prop):List V->Hp->VK->Prop:=λxs H Q=>∃(p:Addr) (vs:List V) (ps:List α),xs=[.ref p]/\(SqL K H p vs\/SqT K H p vs)/\AtG Oa H vs ps/\ps.length<64/\
 ∀(ps':List α) (vs':List V) l,ps'.Perm ps->(ps.Nodup->ps'.Pairwise (λa b=>lt a b=true))->AtG Oa H vs' ps'->H l=none->Q (.ref l) (upd H l (.lst vs'))
theorem zdY{lt:α->α->Bool}{Oa:Hp->Addr->α->Prop}{κ:SortKind}(d0:α)(tri:∀{a b},a≠b->lt a b=false->lt b a=true)(tr:∀{a b c},lt a b=true->lt b c=true->lt a c=true)(asy:∀{a b},lt a b=true->lt b a=false)
 (raw:∀(s s1:Shared) (pins:List (Addr×Obj)) (σ:St) (H:Hp),Inv X pins σ H s->(∀b o,s.heap.get? b=some o->s1.heap.get? b=some o)->
   (∀(its:List Value) (ps:List α),its.length=ps.length->0<ps.length->(∀(i:Nat) (u:Value) (q:α),its[i]?=some u->ps[i]?=some q->∃b,u= .ref b/\Oa H b q)->∀C:SortKind->Shared->Prop,C κ s1->wpAny `W3 X.A.in1.in1 (keyKind' its.toArray) C (λ_ _=>False) s1)/\
   ∀(b b':Addr) (p q:α) (C:Bool->Shared->Prop) (E:Value->Shared->Prop),Oa H b p->Oa H b' q->C (lt p q) s1->wpAny `W3 X.A.in1.in1 (keyLt' κ (.ref b) (.ref b')) C E s1):CallR X (.builtin "sorted") (zjo X.K lt Oa):=by
 intro pins s σ H xs us Q I r h
 obtain⟨p,vs,ps,rfl,hq,ht,h64,q⟩:=h
 obtain⟨u,rfl,ru⟩:=za8 r
 cases ru
 have key:∀{its:List Value} {T:String} {o:Obj} {n:Nat},T="list"\/T="tuple"->s.heap.get? p=some o->o.cls= .type T->o.data= .seq its.toArray n->Vals vs its->wpAny `W3 X.A (call (.builtin "sorted") [.ref p]) (EP X pins σ Q) X.xe s:=by
  intro its T o n hT ho hc hd rv
  have hl:=rv.length
  have hlp:its.length=ps.length:=by rw[←hl];exact ht.1
  have keyA:∀(i:Nat) (u:Value) (q:α),its[i]?=some u->ps[i]?=some q->∃b,u= .ref b/\Oa H b q:=λi u q e1 e2=>by
   have hi:i<vs.length:=by
    rcases D1 i vs.length with z|z
    ·exact z
    ·rw[I0 ()] at e1;cases e1
   obtain⟨b,e3,hb⟩:=ht.2 i vs[i] q (by simp[hi]) e2
   obtain⟨u',hu',ru'⟩:=rv.get (i:=i) (x:=vs[i]) (by simp[hi])
   rw[e1] at hu'
   cases hu'
   rw[e3] at ru'
   cases ru'
   exact⟨b,rfl,hb⟩
  refine zeI (A:=X.A) (G:=λp=>PermN ps.length p/\(Strict ps.length (λi j=>lt (ps.getD i d0) (ps.getD j d0))->Sor (λi j=>lt (ps.getD i d0) (ps.getD j d0)) p ps.length)) (κ:=κ) hT ho hc hd () (λh2 s1 k1=>?_) (λD out h' c ho' kp hD gD=>?_)
  ·obtain ⟨rk,rl⟩:=raw s s1 pins σ H I k1
   refine⟨rk its ps hlp () keyA,?_⟩
   rw[hlp]
   refine OkT.wp (N:=ps.length) (lt:=λi j=>lt (ps.getD i d0) (ps.getD j d0)) (I:=λs'=>s'=s1) (λi j C s' hi hj e hC=>?_) (λp s' hp e=>⟨e,hp⟩) rfl (sort_any ())
   subst e
   have gi:∀i,i<ps.length->∃b,its.getD i Value.none= .ref b/\Oa H b (ps.getD i d0):=λi hi=>by
    have hi':i<its.length:=()
    refine keyA i _ _ ?_ ?_
    ·simp[hi']
    ·simp[hi]
   obtain⟨b,e1,o1⟩:=gi i hi
   obtain⟨b',e2,o2⟩:=gi j hj
   show wpAny _ _ (keyLt' κ (its.getD i Value.none) (its.getD j Value.none)) _ _ _
   rw[e1,e2]
   exact rl b b' _ _ _ _ o1 o2 (hC s' rfl)
  ·have nD:H D=none:=I.hok.fresh hD
   obtain⟨ps',hperm,hpw,hlen,hout⟩:∃ps':List α,ps'.Perm ps/\(ps.Nodup->ps'.Pairwise (λa b=>lt a b=true))/\out.length=ps'.length/\∀(i:Nat) (u:Value) (q:α),out[i]?=some u->ps'[i]?=some q->∃b,u= .ref b/\Oa H b q:=by
    rcases ho' with⟨hlt,rfl⟩|⟨p,hp,⟨hP,hS⟩,rfl⟩
    ·refine ⟨ps, .refl _,λ_=>?_,hlp,keyA⟩
     match ps,(show ps.length<2 by lia)with
     |[],_=>exact .nil
     |[a],_=>exact List.pairwise_singleton _ _
    ·refine ⟨p.toList.map (λi=>ps.getD i d0),?_,λnd=>?_,`j3,λi u q e1 e2=>?_⟩
     ·have h1:=hP.map (λi=>ps.getD i d0)
      rwa[zmp] at h1
     ·have hs:=hS (zjX d0 tri tr asy nd)
      have hz:=hP.size
      rw[List.pairwise_iff_getElem]
      intro i j hi hj hij
      have hi':i<p.size:=by simpa using hi
      have hj':j<p.size:=by simpa using hj
      have h:=hs i j hij ()
      rw[gd_get hi',gd_get hj'] at h
      simpa using h
     ·rw[N0] at e1 e2
      cases e3:p.toList[i]? with
      |none=>rw[e3] at e1;cases e1
      |some j=>
       rw[e3] at e1 e2
       have hj:j<ps.length:=by
        have:j∈p.toList:=B1 e3
        have:=(hP.mem_iff (a:=j)).mp this
        simpa using this
       have hj':j<its.length:=()
       refine keyA j u q ?_ ?_
       ·rw[←e1];simp[hj']
       ·rw[←e2];simp[hj]
   let vs':List V:=out.map λu=>match u with| .ref b=>V.ref b|_=>V.non
   have hv:∀(i:Nat) (q:α),ps'[i]?=some q->∃b,out[i]?=some (.ref b)/\vs'[i]?=some (.ref b)/\Oa H b q:=λi q e=>by
    have hi:i<out.length:=by
     rcases D1 i ps'.length with z|z
     ·lia
     ·rw[I0 z] at e;cases e
    obtain⟨b,e1,hb⟩:=hout i out[i] q (by simp[hi]) e
    exact⟨b,by rw[D0 hi,e1],by show(out.map _)[i]?=_;rw[N0,D0 hi,e1];rfl,hb⟩
   have hlv:vs'.length=out.length:=by show(out.map _).length=_;rw[C0]
   have hpl:ps'.length<64:=by rw[hperm.length_eq];lia
   have T':AtG Oa H vs' ps':=⟨(),λi v q e1 e2=>by
    obtain⟨b,_,e3,hb⟩:=hv i q e2
    rw[e1] at e3;cases e3
    exact⟨b,rfl,hb⟩⟩
   refine⟨.ref D,_,I.laid (a:=D) (o:= .lst vs') (t':=s.toks) kp hD ⟨?_,out,c,?_,gD⟩,rfl,q ps' vs' D hperm hpw T' nD⟩
   ·rw[hlv,hlen];exact A3 (zj ())
   ·refine zfA hlv λi v u e1 e2=>?_
    have hi:i<ps'.length:=by
     rcases D1 i ps'.length with z|z
     ·exact z
     ·rw[I0 ()] at e2;cases e2
    obtain⟨b,e3,e4,_⟩:=hv i ps'[i] (by simp[hi])
    rw[e3] at e2;cases e2
    rw[e4] at e1;cases e1
    rfl
 rcases hq with hq|hq
 ·obtain ⟨its,rv,pl,hz⟩:=I.list hq
  obtain⟨o,ho,hc,n,hd⟩:=pl.isList
  exact key (.inl rfl) ho hc hd rv
 ·obtain ⟨its,rv,pl,hz⟩:=I.tuple hq
  obtain⟨o,ho,hc,n,hd⟩:=pl
  exact key (.inr rfl) ho hc hd rv
noncomputable abbrev Ky:=Int×Int×List Str
theorem zi2{a b:Ky}(h:a≠b)(e:ltK a b=false):ltK b a=true:=by
 obtain⟨i,n,ps⟩:=a
 obtain⟨j,m,qs⟩:=b
 unfold ltK at *
 simp only at *
 by_cases h1:i=j
 ·by_cases h2:n=m
  ·subst h1 h2
   rw[c0 rfl,c0 rfl] at e⊢
   exact zfI (λz=>h (by rw[z])) e
  ·rw[c0 h1,P0 h2] at e
   rw[c0 h1.symm,P0 (Ne.symm h2)]
   simp at e⊢;lia
 ·rw[P0 h1] at e
  rw[P0 (Ne.symm h1)]
  simp at e⊢;lia
noncomputable def zgf(k:Ky):PyData:= .tuple [.int k.1, .int k.2.1, .tuple (zt k.2.2)]
def KeyO(H:Hp)(b:Addr)(k:Ky):Prop:=∃p,H b=some (.tup [.int k.1, .int k.2.1, .ref p])/\H p=some (.tup (k.2.2.map V.str))/\∀y∈k.2.2,PyData.strOk y=true
def KwO(H:Hp)(b:Addr)(k:Ky):Prop:=∃t p,H b=some (.tup [.ref t, .ref p])/\KeyO H t k/\H p=some (.tup (k.2.2.map V.str))
theorem KeyO.tr{b:Addr}{k:Ky}(x:KeyO H b k):Tr H (.ref b) (zgf k):=by
 obtain⟨p,e,ep,ok⟩:=x
 refine .tup e rfl λi v d e1 e2=>?_
 match i,e1,e2 with
 |0,e1,e2=>cases e1;cases e2;exact .int _
 |1,e1,e2=>cases e1;cases e2;exact .int _
 |2,e1,e2=>cases e1;cases e2;exact zbX ep ok
structure RawK(h:Heap)(b:Addr)(k:Ky):Prop where
 at_:∃p ti tn jts,IsTup h b #[.int k.1 ti, .int k.2.1 tn, .ref p]/\Vals (k.2.2.map V.str) jts/\IsTup h p jts.toArray/\(∃as,Reads h (.ref p) (.tuple (zt k.2.2)) as)/\(PyData.tuple (zt k.2.2)).canLay0=true
 rd:∃as,Reads h (.ref b) (zgf k) as
 can:(zgf k).canLay0=true
theorem zby{xs:Array Value}(x:IsTup h a xs)(k:∀b o,h.get? b=some o->h'.get? b=some o):IsTup h' a xs:=let⟨o,g,r⟩:=x;⟨o,k _ _ g,r⟩
theorem KeyO.raw(I:Inv X pins σ H s){b:Addr}{k:Ky}(x:KeyO H b k)(kp:∀b o,s.heap.get? b=some o->h'.get? b=some o):RawK h' b k:=by
 have t:=x.tr
 obtain⟨p,e,ep,ok⟩:=x
 obtain⟨its,r1,t1,_⟩:=I.tuple (SqT.of e)
 obtain⟨jts,s1,u1,_⟩:=I.tuple (SqT.of ep)
 obtain⟨_,_,_,rfl,x1,x2,x3⟩:=zr7 r1
 obtain⟨ti,rfl⟩:=x1
 obtain⟨tn,rfl⟩:=x2
 cases x3
 obtain⟨as,rd1⟩:=(zbX ep ok).reads I (.ref p) rfl
 obtain⟨bs,rd2⟩:=t.reads I (.ref b) rfl
 exact⟨⟨p,ti,tn,jts,zby t1 kp,s1,zby u1 kp,⟨as,Reads.keeps kp rd1⟩,(zbX ep ok).can⟩,⟨bs,Reads.keeps kp rd2⟩,t.can⟩
theorem zpu{b:Addr}{k1 k2:Ky}(hu:A.units+63<cLine)(x:RawK s.heap a k1)(y:RawK s.heap b k2)(q:Q (.bool (ltK k1 k2)) s):wpAny `Y3 A (richCompare .Lt (.ref a) (.ref b)) Q E s:=by
 obtain⟨i1,n1,ps⟩:=k1
 obtain⟨i2,n2,qs⟩:=k2
 obtain⟨p,ti1,tn1,jts,t1,s1,u1,⟨as,rd1⟩,c1⟩:=x.at_
 obtain⟨p2,ti2,tn2,jts2,t2,s2,u2,⟨bs,rd2⟩,c2⟩:=y.at_
 obtain⟨⟨c1',d1,e1,f1⟩,ho,hc,m1,hd⟩:=id t1
 obtain⟨⟨c2',d2,e2,f2⟩,ho2,hc2,m2,hd2⟩:=id t2
 simp only at hc hd hc2 hd2
 subst hc hd hc2 hd2
 have mk:∀(k:Nat) (res:Bool),k<=3->ltK (i1,n1,ps) (i2,n2,qs)=res->
  (∀prog w i x y,i<k->([.int i1 ti1, .int n1 tn1, .ref p]:List Value)[i]?=some x->([.int i2 ti2, .int n2 tn2, .ref p2]:List Value)[i]?=some y->∀(E:Value->Shared->Prop) (Q:Bool->Shared->Prop),Q true s->wpAny `Y3 A.in1 (eqBool x y) Q E s)->
  ((k=3/\res=false)\/∃x y,([.int i1 ti1, .int n1 tn1, .ref p]:List Value)[k]?=some x/\([.int i2 ti2, .int n2 tn2, .ref p2]:List Value)[k]?=some y/\(∀prog w (E:Value->Shared->Prop) (Q:Bool->Shared->Prop),Q false s->wpAny `Y3 A.in1 (eqBool x y) Q E s)/\∀prog w (E:Value->Shared->Prop) (Q:Value->Shared->Prop),Q (.bool res) s->wpAny `Y3 A.in1 (richCompare .Lt x y) Q E s)->
  wpAny `Y3 A (richCompare .Lt (.ref a) (.ref b)) Q E s:=by
  intro k res hk3 er he hk
  refine richCompare_meets_room (op:= .Lt) ⟨_,ho,rfl⟩ ⟨_,ho2,rfl⟩ F.slot_tuple_lt F.entry_tuple_lt (F.args_tuple_lt_2 _ _) (zd6 a b m1 m2 d1 d2 f1 f2 [.int i1 ti1, .int n1 tn1, .ref p] [.int i2 ti2, .int n2 tn2, .ref p2] k res) ⟨ho,ho2,he,hk3,hk3,?_,⟨(λx=>nomatch x),by rw[er] at q;exact q⟩⟩ ()
  rcases hk with⟨h1,h2⟩|h
  ·exact .inl ⟨h1,by rw[h2];rfl⟩
  ·exact .inr h
 have intE:∀{i j:Int} {t t':Tok} {b:Bool} (e:(i==j)=b) (prog:Program) (w:World) (E:Value->Shared->Prop) (Q:Bool->Shared->Prop),Q b s->wpAny `Y3 A.in1 (eqBool (.int i t) (.int j t')) Q E s:=λe prog w E Q hq=>wpAny_eqBool_int (by rw[e];exact hq)
 have tupE:∀{b:Bool} (e:decide (ps=qs)=b) (prog:Program) (w:World) (E:Value->Shared->Prop) (Q:Bool->Shared->Prop),Q b s->wpAny `Y3 A.in1 (eqBool (.ref p) (.ref p2)) Q E s:=λ{b} e prog w E Q hq=>SeqAt.eqAt_reads _ _ A.in1 s _ _ _ _ rd1 rd2 c1 c2 (by
  have:=B2 (Nat.min_le_left (PyData.tuple (zt ps)).depth (PyData.tuple (zt qs)).depth) zbh
  show A.units+1+_<cLine
  simp only at *
  lia) prog w E Q (by rw[zbw,e];exact hq)
 by_cases hi:i1=i2
 ·by_cases hn:n1=n2
  ·by_cases hq:ps=qs
   ·refine mk 3 false (L0 _) (by unfold ltK;rw[c0 hi,c0 hn];subst hq;exact ze4 _) (λprog w i x y h3 hx hy E Q hQ=>?_) (.inl ⟨rfl,rfl⟩)
    match i,h3,hx,hy with
    |0,_,hx,hy=>cases hx;cases hy;exact intE (by simp[hi]) prog w E Q hQ
    |1,_,hx,hy=>cases hx;cases hy;exact intE (by simp[hn]) prog w E Q hQ
    |2,_,hx,hy=>cases hx;cases hy;exact tupE (U0 hq) prog w E Q hQ
   ·refine mk 2 (ltL ps qs) () (by unfold ltK;rw[c0 hi,c0 hn]) (λprog w i x y h3 hx hy E Q hQ=>?_) (.inr ⟨_,_,rfl,rfl,tupE (A1 hq),λprog w E Q hQ=>ziL s1 s2 u1 u2 (by show A.units+1<cLine;lia) hQ⟩)
    match i,h3,hx,hy with
    |0,_,hx,hy=>cases hx;cases hy;exact intE (by simp[hi]) prog w E Q hQ
    |1,_,hx,hy=>cases hx;cases hy;exact intE (by simp[hn]) prog w E Q hQ
  ·refine mk 1 (decide (n1<n2)) () (by unfold ltK;rw[c0 hi,P0 hn]) (λprog w i x y h3 hx hy E Q hQ=>?_) (.inr ⟨_,_,rfl,rfl,intE (by simp[hn]),λprog w E Q hQ=>(PyProof.Rows.lt_int hQ:wpAny `Y3 A.in1 (compareOp .Lt (.int n1 tn1) (.int n2 tn2)) Q E s)⟩)
   match i,h3,hx,hy with
   |0,_,hx,hy=>cases hx;cases hy;exact intE (by simp[hi]) prog w E Q hQ
 ·exact mk 0 (decide (i1<i2)) () (by unfold ltK;rw[P0 hi]) (λprog w i x y h3 hx hy E Q hQ=>absurd h3 (Nat.not_lt_zero _)) (.inr ⟨_,_,rfl,rfl,intE (by simp[hi]),λprog w E Q hQ=>(PyProof.Rows.lt_int hQ:wpAny `Y3 A.in1 (compareOp .Lt (.int i1 ti1) (.int i2 ti2)) Q E s)⟩)
theorem zmz{k1 k2:Ky}:(zgf k1).eqv (zgf k2)=decide (k1=k2):=by
 obtain⟨i1,n1,ps⟩:=k1
 obtain⟨i2,n2,qs⟩:=k2
 unfold zgf
 have e:=zbw (xs:=ps) (ys:=qs)
 simp only[PyData.eqv,PyData.eqvAll,Bool.and_true] at e⊢
 rw[e]
 rw[Bool.eq_iff_iff]
 simp[Prod.mk.injEq]
theorem zjO{k:Ky}:(zgf k).depth<=62:=by
 have:=zbh (xs:=k.2.2)
 unfold zgf
 simp only[PyData.depth,PyData.depthAll] at *
 lia
theorem zoM{b:Addr}{k1 k2:Ky}{Q:Bool->Shared->Prop}(hu:A.units+62<cLine)(x:RawK s.heap a k1)(y:RawK s.heap b k2)(q:Q (decide (k1=k2)) s):wpAny `Y3 A (eqBool (.ref a) (.ref b)) Q E s:=by
 obtain⟨as,rd1⟩:=x.rd
 obtain⟨bs,rd2⟩:=y.rd
 exact SeqAt.eqAt_reads _ _ A s _ _ _ _ rd1 rd2 x.can y.can (by
  have:=B2 (Nat.min_le_left (zgf k1).depth (zgf k2).depth) zjO
  lia) prog w E Q (by rw[zmz];exact q)
theorem zdB{h:Heap}{T:Value}{M:Model}:∀{us:List Value},(∀u∈us,∃a f xs,u=Value.ref a/\IsTup h a xs/\xs[0]?=some f/\Looks M h (typeOf f) T)->∃fs,KatTups h us fs/\fs.length=us.length/\∀f∈fs,Looks M h (typeOf f) T
 |[],_=>⟨[],trivial,rfl,λ_ z=>nomatch z⟩
 |u::us,hh=>by
  obtain⟨fs,h1,h2,h3⟩:=zdB (us:=us) λv hv=>hh v (V0 _ hv)
  obtain⟨a,f,xs,rfl,⟨o,g,c,n,d⟩,e0,lk⟩:=hh u Q0
  refine⟨f::fs,KatTups.cons g c d e0 h1,by simp[h2],λf' hf=>?_⟩
  rcases R0.mp hf with rfl|hf
  ·exact lk
  ·exact h3 f' hf
theorem zgi(hu:X.A.units+70<cLine):CallR X (.builtin "sorted") (zjo X.K ltK KeyO):=by
 refine zdY (κ:=tuples' true) (0,0,[]) zi2 zhS zko λs s1 pins σ H I kp=>⟨λits ps hl h0 hk C hC=>?_,λb b' p q C E o1 o2 hC=>?_⟩
 ·obtain ⟨fs,h1,h2,h3⟩:=zdB (h:=s1.heap) (T:= .type "int") (M:=model X.prog X.w) (us:=its) λu hu=>by
   obtain⟨i,hi,e⟩:=E2 hu
   have hi':i<ps.length:=()
   obtain⟨b,rfl,ob⟩:=hk i u ps[i] (by rw[D0 hi,e]) (D0 hi')
   obtain⟨p,ti,tn,jts,t1,_⟩:=(ob.raw I kp).at_
   exact⟨b,_,_,rfl,t1,rfl,Looks.of_pure rfl⟩
  exact kat_kind h1 () h3 rfl hC
 ·have x:=o1.raw I kp
  have y:=o2.raw I kp
  obtain⟨i1,n1,ps⟩:=p
  obtain⟨i2,n2,qs⟩:=q
  obtain⟨p,ti1,tn1,jts,⟨o,g,_,n,d⟩,s1',u1,⟨as,rd1⟩,c1⟩:=x.at_
  obtain⟨p2,ti2,tn2,jts2,⟨o',g',_,n',d'⟩,s2',u2,⟨bs,rd2⟩,c2⟩:=y.at_
  refine kat_lt g d g' d' ?_
  show KatLex X.prog X.w X.A.in1.in1 true (decide (3<3)) C [(.int i1 ti1, .int i2 ti2),(.int n1 tn1, .int n2 tn2),(.ref p, .ref p2)] 0 s1
  refine kat_cons (wpAny_eqBool_int ?_)
  unfold ltK at hC
  simp only at hC
  by_cases hi:i1=i2
  ·rw[show(i1==i2)=true by simp[hi]]
   rw[c0 hi] at hC
   refine kat_yes (kat_cons (wpAny_eqBool_int ?_))
   by_cases hn:n1=n2
   ·rw[show(n1==n2)=true by simp[hn]]
    rw[c0 hn] at hC
    refine kat_yes (kat_cons (SeqAt.eqAt_reads _ _ X.A.in1.in1 s1 _ _ _ _ rd1 rd2 c1 c2 (by
     have:=B2 (Nat.min_le_left (PyData.tuple (zt ps)).depth (PyData.tuple (zt qs)).depth) zbh
     show X.A.units+1+1+_<cLine
     simp only at *
     lia) _ _ _ _ ?_))
    rw[zbw]
    by_cases hq:ps=qs
    ·rw[U0 hq]
     refine kat_yes (kat_nil ?_)
     subst hq
     rw[ze4] at hC
     exact hC
    ·rw[A1 hq]
     exact kat_no (kat_one _ _ (ziL s1' s2' u1 u2 (by show X.A.units+1+1<cLine;lia) hC))
   ·rw[show(n1==n2)=false by simp[hn]]
    rw[P0 hn] at hC
    exact kat_no (kat_one _ _ (PyProof.Rows.lt_int hC))
  ·rw[show(i1==i2)=false by simp[hi]]
   rw[P0 hi] at hC
   exact kat_no (oneLt_int hC)
theorem zgc(hu:X.A.units+70<cLine):CallR X (.builtin "sorted") (zjo X.K ltK KwO):=by
 refine zdY (κ:=tuples' false) (0,0,[]) zi2 zhS zko λs s1 pins σ H I kp=>⟨λits ps hl h0 hk C hC=>?_,λb b' p q C E o1 o2 hC=>?_⟩
 ·obtain ⟨fs,h1,h2,h3⟩:=zdB (h:=s1.heap) (T:= .type "tuple") (M:=model X.prog X.w) (us:=its) λu hu=>by
   obtain⟨i,hi,e⟩:=E2 hu
   have hi':i<ps.length:=()
   obtain⟨b,rfl,t,p,eb,ot,_⟩:=hk i u ps[i] (by rw[D0 hi,e]) (D0 hi')
   obtain⟨its',r1,t1,_⟩:=I.tuple (SqT.of eb)
   obtain⟨_,_,rfl,x1,x2⟩:=ze8 r1
   cases x1
   cases x2
   obtain⟨_,_,_,_,⟨o,g,c,_⟩,_⟩:=(ot.raw I kp).at_
   exact⟨b,_,_,rfl,zby t1 kp,rfl,by rw[←c];exact(Looks.ld g).andThen .now⟩
  exact kat_kind h1 () h3 rfl hC
 ·obtain ⟨t,w,eb,ot,ew⟩:=o1
  obtain⟨t',w',eb',ot',ew'⟩:=o2
  obtain⟨its,r1,t1,_⟩:=I.tuple (SqT.of eb)
  obtain⟨its',r1',t1',_⟩:=I.tuple (SqT.of eb')
  obtain⟨_,_,rfl,x1,x2⟩:=ze8 r1
  obtain⟨_,_,rfl,x1',x2'⟩:=ze8 r1'
  cases x1
  cases x2
  cases x1'
  cases x2'
  have k1:=ot.raw I kp
  have k2:=ot'.raw I kp
  obtain⟨o,g,_,n,d⟩:=zby t1 kp
  obtain⟨o',g',_,n',d'⟩:=zby t1' kp
  have ok:∀y∈p.2.2,PyData.strOk y=true:=let⟨_,_,_,h⟩:=ot;h
  have ok':∀y∈q.2.2,PyData.strOk y=true:=let⟨_,_,_,h⟩:=ot';h
  obtain⟨as,rd1⟩:=(zbX ew ok).reads I (.ref w) rfl
  obtain⟨bs,rd2⟩:=(zbX ew' ok').reads I (.ref w') rfl
  refine kat_lt g d g' d' ?_
  show KatLex X.prog X.w X.A.in1.in1 false (decide (2<2)) C [(.ref t, .ref t'),(.ref w, .ref w')] 0 s1
  refine kat_cons (zoM (by show X.A.units+1+1+62<cLine;lia) k1 k2 ?_)
  by_cases e:p=q
  ·rw[U0 e]
   refine kat_yes (kat_cons (SeqAt.eqAt_reads _ _ X.A.in1.in1 s1 _ _ _ _ (Reads.keeps kp rd1) (Reads.keeps kp rd2) (zbX ew ok).can (zbX ew' ok').can (by
    have:=B2 (Nat.min_le_left (PyData.tuple (zt p.2.2)).depth (PyData.tuple (zt q.2.2)).depth) zbh
    show X.A.units+1+1+_<cLine
    lia) _ _ _ _ ?_))
   rw[zbw,U0 (show p.2.2=q.2.2 by rw[e])]
   refine kat_yes (kat_nil ?_)
   subst e
   rw[zdf] at hC
   exact hC
  ·rw[A1 e]
   exact kat_no (kat_one _ _ (zpu (by show X.A.units+1+1+63<cLine;lia) k1 k2 hC))
end
section
variable[DecidableEq α]{mm:α->α->α×α}
structure MM(mm:α->α->α×α):Prop where
 two:∀a b,mm a b=(a,b)\/mm a b=(b,a)
 sym:∀a b,mm a b=mm b a
theorem MM.inj(h:MM mm){a b c d:α}(e:mm a b=mm c d):(a=c/\b=d)\/(a=d/\b=c):=by
 rcases h.two a b with x|x<;>rcases h.two c d with y|y<;>(rw[x,y] at e;cases e)
 ·exact .inl ⟨rfl,rfl⟩
 ·exact .inr ⟨rfl,rfl⟩
 ·exact .inr ⟨rfl,rfl⟩
 ·exact .inl ⟨rfl,rfl⟩
noncomputable def ed(mm:α->α->α×α):List α->List (α×α)
 |a::b::r=>mm a b::ed mm (b::r)
 |_=> []
noncomputable def atE(v:α)(p:α×α):Bool:=decide (p.1=v)||decide (p.2=v)
noncomputable def zpo(v:α)(w:List α):Nat:=(w.filter λa=>decide (a=v)).length
noncomputable def zga(a v:α):Nat:=if a=v then 1 else 0
theorem zc5{a b:α}{r:List α}:(a::b::r).getLast `j3=(b::r).getLast `j3:=rfl
theorem zgF{v a:α}{w:List α}:zpo v (a::w)=zga a v+zpo v w:=by
 unfold zpo zga
 by_cases h:a=v
 ·rw[c0 h,List.filter_cons_of_pos (by simpa using h),Y1];lia
 ·rw[P0 h,List.filter_cons_of_neg (by simpa using h)];lia
theorem zjn(h:MM mm){v a b:α}:atE v (mm a b)=(decide (a=v)||decide (b=v)):=by
 unfold atE
 rcases h.two a b with e|e<;>rw[e]
 exact Bool.or_comm _ _
theorem zhF(h:MM mm)(v:α):∀(a:α) (r:List α),(a::r).Nodup->((ed mm (a::r)).filter (atE v)).length+zga a v+zga ((a::r).getLast `j3) v=2*zpo v (a::r)
 |a,[],_=>by
  rw[zgF]
  show 0+zga a v+zga a v=2*(zga a v+0)
  lia
 |a,b::r,nd=>by
  have ih:=zhF h v b r (U1.mp nd).2
  have hab:a≠b:=λe=>(U1.mp nd).1 (by rw[e];exact Q0)
  rw[zc5,zgF]
  have e:((ed mm (a::b::r)).filter (atE v)).length=zga a v+zga b v+((ed mm (b::r)).filter (atE v)).length:=by
   show((mm a b::ed mm (b::r)).filter (atE v)).length=_
   have e1:=zjn h (v:=v) (a:=a) (b:=b)
   unfold zga
   by_cases h1:a=v
   ·have h2:¬b=v:=λz=>hab (h1.trans z.symm)
    rw[c0 h1,P0 h2,List.filter_cons_of_pos (by rw[e1,U0 h1];rfl),Y1];lia
   ·by_cases h2:b=v
    ·rw[P0 h1,c0 h2,List.filter_cons_of_pos (by rw[e1,U0 h2,Bool.or_true]),Y1];lia
    ·rw[P0 h1,P0 h2,List.filter_cons_of_neg (by rw[e1,A1 h1,A1 h2];decide)];lia
  rw[e]
  lia
theorem zqD(h:MM mm){p:α×α}:∀{w:List α},p∈ed mm w->∃a b,p=mm a b/\a∈w/\b∈w
 |[],z=>(nomatch z)
 |[_],z=>(nomatch z)
 |a::b::r,z=>by
  rcases R0.mp (show p∈mm a b::ed mm (b::r)from z)with z|z
  ·exact ⟨a,b,z,Q0,V0 _ Q0⟩
  ·obtain ⟨c,d,e,h1,h2⟩:=zqD h z
   exact⟨c,d,e,V0 _ h1,V0 _ h2⟩
theorem zd3(h:MM mm){a b:α}{w:List α}(ha:a∉w):mm a b∉ed mm w:=λz=>by
 obtain⟨c,d,e,h1,h2⟩:=zqD h z
 rcases h.inj e with⟨e1,_⟩|⟨e1,_⟩
 ·exact ha (e1▸h1)
 ·exact ha (e1▸h2)
theorem zfV(h:MM mm):∀{w:List α},w.Nodup->(ed mm w).Nodup
 |[],_=>List.nodup_nil
 |[_],_=>List.nodup_nil
 |a::b::r,nd=>U1.mpr ⟨zd3 h (U1.mp nd).1,zfV h (U1.mp nd).2⟩
theorem ziz(h:MM mm):∀(a:α) (r r':List α),(a::r).Nodup->(a::r').Nodup->(a::r).getLast `j3=(a::r').getLast `j3->(∀p,p∈ed mm (a::r)↔p∈ed mm (a::r'))->r=r'
 |a,[],[],_,_,_,_=>rfl
 |a,[],c::r',_,nd',e,_=>by
  exfalso
  rw[zc5] at e
  have:a∈c::r':=by
   have z:(c::r').getLast `j3∈c::r':=List.getLast_mem _
   rw[←e] at z
   exact z
  exact(U1.mp nd').1 this
 |a,b::r,[],nd,_,e,_=>by
  exfalso
  rw[zc5] at e
  have:a∈b::r:=by
   have z:(b::r).getLast `j3∈b::r:=List.getLast_mem _
   rw[e] at z
   exact z
  exact(U1.mp nd).1 this
 |a,b::r,c::r',nd,nd',e,hp=>by
  have n1:=(U1.mp nd).1
  have n2:=(U1.mp nd').1
  have e1:b=c:=by
   have z:=(hp (mm a b)).mp (show mm a b∈mm a b::ed mm (b::r)from Q0)
   rcases R0.mp (show mm a b∈mm a c::ed mm (c::r')from z)with z|z
   ·rcases h.inj z with⟨_,y⟩|⟨y,y'⟩
    ·exact y
    ·exact y'.trans y
   ·exact absurd z (zd3 h n2)
  subst e1
  have:=ziz h b r r' (U1.mp nd).2 (U1.mp nd').2 (by rw[zc5,zc5] at e;exact e) λp=>by
   have:=hp p
   constructor
   ·intro z
    rcases R0.mp (show p∈mm a b::ed mm (b::r')from this.mp (V0 _ z))with y|y
    ·subst y;exact absurd z (zd3 h n1)
    ·exact y
   ·intro z
    rcases R0.mp (show p∈mm a b::ed mm (b::r)from this.mpr (V0 _ z))with y|y
    ·subst y;exact absurd z (zd3 h n2)
    ·exact y
  rw[this]
theorem zeQ[DecidableEq β]{xs ys:List β}(n1:xs.Nodup)(n2:ys.Nodup)(h:∀x,x∈xs↔x∈ys):xs.length=ys.length:=
 ((List.perm_ext_iff_of_nodup n1 n2).mpr h).length_eq
def znf(mm:α->α->α×α)(xs:List α)(par:Nat->Nat)(F:List (α×α)):Prop:=∀p∈F,∃k a b,0<k/\par k<k/\xs[k]?=some a/\xs[par k]?=some b/\p=mm a b
theorem ziN(h:MM mm){xs:List α}(nx:xs.Nodup){F E:List (α×α)}(fo:znf mm xs par F){a:α}{r r':List α}(nd:(a::r).Nodup)(nd':(a::r').Nodup)
 (e:(a::r).getLast `j3=(a::r').getLast `j3) (s1:∀p∈ed mm (a::r),p∈F\/p∈E) (s2:∀p∈ed mm (a::r'),p∈F\/p∈E) (se:∀p∈E,p∈ed mm (a::r)↔p∈ed mm (a::r')):r=r':=by
 refine ziz h a r r' nd nd' e λp=>?_
 have key:∀m k:Nat,xs.length<=k+m->∀u v,0<k->par k<k->xs[k]?=some u->xs[par k]?=some v->(mm u v∈ed mm (a::r)↔mm u v∈ed mm (a::r')):=by
  intro m
  induction m with
  |zero=>
   intro k hk u v _ _ hu _
   rw[I0 ()] at hu;cases hu
  |succ m ih=>
   intro k hk u v k0 hpk hu hv
   by_cases hE:mm u v∈E
   ·exact se _ hE
   have oth:∀q,atE u q=true->q≠mm u v->(q∈ed mm (a::r)↔q∈ed mm (a::r')):=by
    intro q hq hne
    have inF:q∈F->(q∈ed mm (a::r)↔q∈ed mm (a::r')):=λhF=>by
     obtain⟨j,c,d,j0,hpj,hc,hd,rfl⟩:=fo q hF
     rw[zjn h] at hq
     rcases(Bool.or_eq_true _ _).mp hq with z|z
     ·have z:=Y0 z
      subst z
      have:j=k:=by
       have h1:j<xs.length:=by
        rcases D1 j xs.length with y|y
        ·exact y
        ·rw[I0 y] at hc;cases hc
       have h2:k<xs.length:=by
        rcases D1 k xs.length with y|y
        ·exact y
        ·rw[I0 y] at hu;cases hu
       rw[D0 h1] at hc
       rw[D0 h2] at hu
       exact(List.getElem_inj nx).mp ((o0 hc).trans (o0 hu).symm)
      subst this
      rw[hd] at hv;cases hv
      exact absurd rfl hne
     ·have z:=Y0 z
      subst z
      have:par j=k:=by
       have h1:par j<xs.length:=by
        rcases D1 (par j) xs.length with y|y
        ·exact y
        ·rw[I0 y] at hd;cases hd
       have h2:k<xs.length:=by
        rcases D1 k xs.length with y|y
        ·exact y
        ·rw[I0 y] at hu;cases hu
       rw[D0 h1] at hd
       rw[D0 h2] at hu
       exact(List.getElem_inj nx).mp ((o0 hd).trans (o0 hu).symm)
      exact ih j () c d j0 hpj hc hd
    constructor
    ·intro z
     rcases s1 q z with y|y
     ·exact (inF y).mp z
     ·exact (se q y).mp z
    ·intro z
     rcases s2 q z with y|y
     ·exact (inF y).mpr z
     ·exact (se q y).mpr z
   have d1:=zhF h u a r nd
   have d2:=zhF h u a r' nd'
   rw[e] at d1
   have n1:((ed mm (a::r)).filter (atE u)).Nodup:=(zfV h nd).sublist List.filter_sublist
   have n2:((ed mm (a::r')).filter (atE u)).Nodup:=(zfV h nd').sublist List.filter_sublist
   have au:atE u (mm u v)=true:=by rw[zjn h,U0 rfl];rfl
   constructor
   ·intro z
    rcases Decidable.em (mm u v∈ed mm (a::r'))with y|y
    ·exact y
    exfalso
    have:((ed mm (a::r)).filter (atE u)).length=(mm u v::(ed mm (a::r')).filter (atE u)).length:=zeQ n1 (U1.mpr ⟨λq=>y (J1.mp q).1,n2⟩) λq=>by
     rw[J1,R0,J1]
     constructor
     ·rintro ⟨q1,q2⟩
      by_cases eq:q=mm u v
      ·exact .inl eq
      ·exact .inr ⟨(oth q q2 eq).mp q1,q2⟩
     ·rintro (rfl|⟨q1,q2⟩)
      ·exact ⟨z,au⟩
      ·exact ⟨(oth q q2 (λw=>y (w▸q1))).mpr q1,q2⟩
    rw[Y1] at this
    lia
   ·intro z
    rcases Decidable.em (mm u v∈ed mm (a::r))with y|y
    ·exact y
    exfalso
    have:((ed mm (a::r')).filter (atE u)).length=(mm u v::(ed mm (a::r)).filter (atE u)).length:=zeQ n2 (U1.mpr ⟨λq=>y (J1.mp q).1,n1⟩) λq=>by
     rw[J1,R0,J1]
     constructor
     ·rintro ⟨q1,q2⟩
      by_cases eq:q=mm u v
      ·exact .inl eq
      ·exact .inr ⟨(oth q q2 eq).mpr q1,q2⟩
     ·rintro (rfl|⟨q1,q2⟩)
      ·exact ⟨z,au⟩
      ·exact ⟨(oth q q2 (λw=>y (w▸q1))).mp q1,q2⟩
    rw[Y1] at this
    lia
 have inF:p∈F->(p∈ed mm (a::r)↔p∈ed mm (a::r')):=λhF=>by
  obtain⟨k,u,v,k0,hp,hu,hv,rfl⟩:=fo p hF
  exact key xs.length k () u v k0 hp hu hv
 constructor
 ·intro z
  rcases s1 p z with y|y
  ·exact (inF y).mp z
  ·exact (se p y).mp z
 ·intro z
  rcases s2 p z with y|y
  ·exact (inF y).mpr z
  ·exact (se p y).mpr z
noncomputable def zfn:Nat->List (List Bool)
 |0=> [[]]
 |n+1=>(zfn n).map (true::·)++(zfn n).map (false::·)
theorem zgG:∀n,(zfn n).length=2^n
 |0=>rfl
 |n+1=>by rw[zfn,Z0,C0,C0,zgG n,Nat.pow_succ];lia
theorem zep:∀(l:List Bool),l∈zfn l.length
 |[]=>K0.mpr rfl
 |b::l=>by
  rw[Y1,zfn,F1,X0,X0]
  cases b with
  |true=>exact .inl ⟨l,zep l,rfl⟩
  |false=>exact .inr ⟨l,zep l,rfl⟩
theorem zbY{β:Type}[DecidableEq β]:∀{xs ys:List β},xs.Nodup->(∀x∈xs,x∈ys)->xs.length<=ys.length
 |[],ys,_,_=>X1 _
 |x::xs,ys,nd,h=>by
  have hx:=h x Q0
  have:=zbY (xs:=xs) (ys:=ys.erase x) (U1.mp nd).2 λy hy=>by
   refine(List.mem_erase_of_ne (λe:y=x=>(U1.mp nd).1 (e▸hy))).mpr (h y (V0 _ hy))
  rw[List.length_erase_of_mem hx] at this
  have hp:0<ys.length:=List.length_pos_of_mem hx
  rw[Y1]
  lia
theorem zoa(h:MM mm){xs:List α}(nx:xs.Nodup){F E:List (α×α)}(fo:znf mm xs par F){a g:α}{ws:List (List α)}(nw:ws.Nodup)
 (hw:∀w∈ws,∃r,w=a::r/\w.Nodup/\w.getLast?=some g/\∀p∈ed mm w,p∈F\/p∈E):ws.length<=2^E.length:=by
 have inj:(ws.map λw=>E.map λp=>decide (p∈ed mm w)).Nodup:=by
  refine V2.mpr (nw.imp_of_mem λ{w w'} hm hm' hne e=>hne ?_)
  obtain⟨r,rfl,nd,l,s⟩:=hw w hm
  obtain⟨r',rfl,nd',l',s'⟩:=hw w' hm'
  rw[List.getLast?_eq_some_getLast `j3] at l l'
  rw[ziN h nx fo nd nd' ((o0 l).trans (o0 l').symm) s s' λp hp=>?_]
  have:=List.map_inj_left.mp e p hp
  exact decide_eq_decide.mp this
 have:=zbY inj (ys:=zfn E.length) λx hx=>by
  obtain⟨w,_,rfl⟩:=X0.mp hx
  have:=zep (E.map λp=>decide (p∈ed mm w))
  rwa[C0] at this
 rwa[C0,zgG] at this
end
noncomputable def mmS(x y:Str):Str×Str:=(if ltS y x=true then y else x,if ltS x y=true then y else x)
theorem zaw:MM mmS where
 two:=λa b=>by
  unfold mmS
  cases h:ltS a b with
  |true=>rw[zaU h];exact .inl rfl
  |false=>
   by_cases e:a=b
   ·subst e;rw[h];exact .inl rfl
   ·rw[za6 e h];exact .inr rfl
 sym:=λa b=>by
  unfold mmS
  cases h:ltS a b with
  |true=>rw[zaU h];rfl
  |false=>
   by_cases e:a=b
   ·subst e;rw[h]
   ·rw[za6 e h];rfl
theorem zoC{a b:Str}(h:ltS a b=true):mmS a b=(a,b):=by
 unfold mmS
 rw[zaU h,h];rfl
def Spr(xs:List Str)(ps:List (Str×Str))(k e:Nat):Prop:=∃(par:Nat->Nat) (F E:List (Str×Str)),(∀p∈ps,p∈F\/p∈E)/\(∀p∈F,∃j a b,0<j/\j<k/\par j<j/\xs[j]?=some a/\xs[par j]?=some b/\p=mmS a b)/\E.length<=e
structure SW(g:Str)(ps:List (Str×Str))(w:List Str):Prop where
 nd:w.Nodup
 last:w.getLast?=some g
 ties:∀p∈ed mmS w,p∈ps
theorem SW.ne{w:List Str}(h:SW g ps w):∃x r,w=x::r:=by
 cases w with
 |nil=>have:=h.last;cases this
 |cons x r=>exact ⟨x,r,rfl⟩
theorem SW.goal:SW g ps [g]:=⟨`j3,rfl,λ_ z=>(nomatch z)⟩
theorem SW.cons{g x y:Str}{ps:List (Str×Str)}{r:List Str}(h:SW g ps (x::r))(hy:y∉x::r)(t:mmS y x∈ps):SW g ps (y::x::r):=
 ⟨U1.mpr ⟨hy,h.nd⟩,by rw[List.getLast?_cons_cons];exact h.last,λp hp=>by
   rcases R0.mp (show p∈mmS y x::ed mmS (x::r)from hp)with z|z
   ·exact z▸t
   ·exact h.ties p z⟩
theorem SW.tail(h:SW g ps (y::x::r)):SW g ps (x::r)/\y∉x::r/\mmS y x∈ps:=
 ⟨⟨(U1.mp h.nd).2,by have:=h.last;rwa[List.getLast?_cons_cons] at this,λp hp=>h.ties p (V0 _ hp)⟩,(U1.mp h.nd).1,h.ties _ Q0⟩
theorem SW.one(h:SW g ps [x]):x=g:=o0 h.last
theorem SW.at_goal(h:SW g ps (g::r)):r=[]:=by
 cases r with
 |nil=>rfl
 |cons x r=>
  have:=h.last
  rw[List.getLast?_cons_cons] at this
  exact absurd (List.mem_of_getLast? this) (U1.mp h.nd).1
theorem SW.mem(hg:g∈hs)(hp:∀p∈ps,p.1∈hs/\p.2∈hs):∀{w:List Str},SW g ps w->∀x∈w,x∈hs
 |[],h,_,z=>(nomatch z)
 |[a],h,x,z=>by rw[K0.mp z,h.one];exact hg
 |a::b::r,h,x,z=>by
  obtain⟨h1,h2,h3⟩:=h.tail
  rcases R0.mp z with z|z
  ·subst z
   rcases zaw.two x b with e|e
   ·have:=(hp _ h3).1;rw[e] at this;exact this
   ·have:=(hp _ h3).2;rw[e] at this;exact this
  ·exact SW.mem hg hp h1 x z
theorem zsk{xs:List Str}{e:Nat}(nx:xs.Nodup)(sp:Spr xs ps k e){a:Str}{ws:List (List Str)}(nw:ws.Nodup)(hw:∀w∈ws,SW g ps w/\w.head?=some a):ws.length<=2^e:=by
 obtain⟨par,F,E,h1,h2,h3⟩:=sp
 refine B2 (zoa zaw nx (par:=par) (F:=F) (E:=E) (a:=a) (g:=g) (λp hp=>?_) nw λw hm=>?_) (Nat.pow_le_pow_right ⋯ h3)
 ·obtain ⟨j,c,d,j0,jk,r⟩:=h2 p hp
  exact⟨j,c,d,j0,r⟩
 ·obtain ⟨s,hh⟩:=hw w hm
  obtain⟨x,r,rfl⟩:=s.ne
  have e:x=a:=o0 hh
  subst e
  exact⟨r,rfl,s.nd,s.last,λp hp=>h1 p (s.ties p hp)⟩
theorem zk8{α:Type}[DecidableEq α]{c:Nat}:∀{hs:List α} {ws:List (List α)},ws.Nodup->(∀w∈ws,∃x∈hs,w.head?=some x)->(∀x∈hs,(ws.filter λw=>decide (w.head?=some x)).length<=c)->ws.length<=hs.length*c
 |[],ws,_,h,_=>by
  cases ws with
  |nil=>exact X1 _
  |cons w ws=>obtain ⟨x,hx,_⟩:=h w Q0;exact(nomatch hx)
 |x::hs,ws,nd,h,hc=>by
  have ih:=zk8 (hs:=hs) (ws:=ws.filter λw=>!decide (w.head?=some x)) (nd.sublist List.filter_sublist) (λw hw=>by
   obtain⟨hw1,hw2⟩:=J1.mp hw
   obtain⟨y,hy,e⟩:=h w hw1
   rcases R0.mp hy with z|z
   ·subst z;rw[e] at hw2;simp at hw2
   ·exact ⟨y,z,e⟩) λy hy=>by
    refine B2 (List.Sublist.length_le ?_) (hc y (V0 _ hy))
    exact List.Sublist.filter _ List.filter_sublist
  have h1:=hc x Q0
  have h2:ws.length=(ws.filter λw=>decide (w.head?=some x)).length+(ws.filter λw=>!decide (w.head?=some x)).length:=by
   rw[←List.countP_eq_length_filter,←List.countP_eq_length_filter]
   have:=List.length_eq_countP_add_countP (p:=λw=>decide (w.head?=some x)) (l:=ws)
   simpa using this
  rw[Y1,Nat.add_mul,Nat.one_mul]
  lia
noncomputable def Fw:Nat->Nat
 |0=>1
 |k+1=>1+(k+1)*Fw k
noncomputable def zfQ(n:Nat)(ws:List (List Str)):Nat:=(ws.map λw=>Fw (n -w.length)).sum
theorem ziY{a b:List (List Str)}:zfQ n (a ++b)=zfQ n a+zfQ n b:=by
 unfold zfQ;rw[F2,List.sum_append]
theorem zjf{n L:Nat}:∀{ws:List (List Str)},(∀w∈ws,w.length=L)->zfQ n ws=ws.length*Fw (n -L)
 |[],_=>by show 0=0*_;rw[Nat.zero_mul]
 |w::ws,h=>by
  have h1:=zjf (n:=n) λx hx=>h x (V0 _ hx)
  show Fw (n -w.length)+zfQ n ws=(ws.length+1)*_
  rw[h1,h w Q0,Nat.add_mul,Nat.one_mul,Nat.add_comm]
structure WOk(hs w:List Str):Prop where
 ne:1<=w.length
 nd:w.Nodup
 mem:∀y∈w,y∈hs
theorem WOk.len{w:List Str}(h:WOk hs w)(h10:hs.length<=10):w.length<=10:=B2 (zD h.nd h.mem) h10
structure Bf(g:Str)(hs:List Str)(ps:List (Str×Str))(ws:List (List Str))(n:Nat):Prop where
 nd:ws.Nodup
 sw:∀w∈ws,SW g ps w
 root:[g]∈ws
 src:∀y r,y::r∈ws->r≠ []->r∈ws.take n
 cl:∀y x r,x::r∈ws.take n->y∈hs->mmS y x∈ps->y∉x::r->y::x::r∈ws
structure Df(g:Str)(ps:List (Str×Str))(M:List Str->Option (List Str))(L F:List (List Str)):Prop where
 nd:L.Nodup
 fnd:F.Nodup
 fsub:∀w∈F,w∈L
 sw:∀w∈L,SW g ps w/\M w≠none
 root:[g]∈L
 src:∀y r,y::r∈L->r≠ []->r∈L/\r∉F
 cl:∀y x r,x::r∈L->x::r∉F->mmS y x∈ps->y∉x::r->M (y::x::r)≠none->y::x::r∈L
structure DfW(g:Str)(ps:List (Str×Str))(M:List Str->Option (List Str))(x:Str)(r ds:List Str)(L F:List (List Str)):Prop where
 nd:L.Nodup
 fnd:F.Nodup
 fsub:∀w∈F,w∈L
 sw:∀w∈L,SW g ps w/\M w≠none
 root:[g]∈L
 src:∀y q,y::q∈L->q≠ []->q∈L/\q∉F
 me:x::r∈L/\x::r∉F
 kids:∀y,y::x::r∈L->y∈ds
 cl:∀y a q,a::q∈L->a::q∉F->a::q≠x::r->mmS y a∈ps->y∉a::q->M (y::a::q)≠none->y::a::q∈L
 clw:∀y∈ds,y∉x::r->M (y::x::r)≠none->y::x::r∈L
section
variable{M:List Str->Option (List Str)}{ds:List Str}{F:List (List Str)}
theorem Df.start(h:M [g]≠none):Df g ps M [[g]] [[g]]:=
 ⟨`j3,`j3,λ_ z=>z,λw hw=>by rw[K0.mp hw];exact⟨SW.goal,h⟩,K0.mpr rfl,λy r h hr=>absurd (List.cons.inj (K0.mp h)).2 hr,λy x r h n=>absurd h n⟩
theorem Df.pop(D:Df g ps M L (F ++ [x::r])):DfW g ps M x r [] L F:=by
 have hm:x::r∈F ++ [x::r]:=O0 _ (K0.mpr rfl)
 obtain⟨f1,f2,f3⟩:=X2.mp D.fnd
 have hnf:x::r∉F:=λz=>f3 _ z _ (K0.mpr rfl) rfl
 refine⟨D.nd,f1,λw hw=>D.fsub w (W1 _ hw),D.sw,D.root,λy q h hq=>⟨(D.src y q h hq).1,λz=>(D.src y q h hq).2 (W1 _ z)⟩,⟨D.fsub _ hm,hnf⟩,λy h=>absurd hm (D.src y _ h `j3).2,λy a q h1 h2 h3=>D.cl y a q h1 λz=>?_,λ_ z=>(nomatch z)⟩
 rcases F1.mp z with z|z
 ·exact h2 z
 ·exact h3 (K0.mp z)
theorem DfW.skip(D:DfW g ps M x r ds L F)(h:y∈x::r\/M (y::x::r)=none):DfW g ps M x r (ds ++ [y]) L F:=
 ⟨D.nd,D.fnd,D.fsub,D.sw,D.root,D.src,D.me,λz hz=>W1 _ (D.kids z hz),D.cl,λz hz h1 h2=>by
   rcases F1.mp hz with hz|hz
   ·exact D.clw z hz h1 h2
   ·rw[K0.mp hz] at h1 h2
    rcases h with h|h
    ·exact absurd h h1
    ·exact absurd h h2⟩
theorem DfW.add(D:DfW g ps M x r ds L F)(hd:y∉ds)(hy:y∉x::r)(ht:mmS y x∈ps)(hM:M (y::x::r)≠none):DfW g ps M x r (ds ++ [y]) (L ++ [y::x::r]) (F ++ [y::x::r]):=by
 have hn:y::x::r∉L:=λz=>hd (D.kids y z)
 have hne:x::r≠y::x::r:=λz=>by have:=congrArg List.length z;simp at this
 refine⟨X2.mpr ⟨D.nd,`j3,λa ha b hb z=>hn (by rw[←K0.mp hb,←z];exact ha)⟩,X2.mpr ⟨D.fnd,`j3,λa ha b hb z=>hn (by rw[←K0.mp hb,←z];exact D.fsub a ha)⟩,λw hw=>?_,λw hw=>?_,W1 _ D.root,λz q hz hq=>?_,⟨W1 _ D.me.1,λz=>?_⟩,λz hz=>?_,λz a q h1 h2 h3 h4 h5 h6=>?_,λz hz h1 h2=>?_⟩
 ·rcases F1.mp hw with z|z
  ·exact W1 _ (D.fsub w z)
  ·exact O0 _ z
 ·rcases F1.mp hw with z|z
  ·exact D.sw w z
  ·rw[K0.mp z];exact⟨(D.sw _ D.me.1).1.cons hy ht,hM⟩
 ·have:∀q,q∈L/\q∉F->q∈L ++ [y::x::r]/\q∉F ++ [y::x::r]:=λq h=>⟨W1 _ h.1,λw=>by
   rcases F1.mp w with w|w
   ·exact h.2 w
   ·exact hn (K0.mp w▸h.1)⟩
  rcases F1.mp hz with w|w
  ·exact this q (D.src z q w hq)
  ·have e:=(List.cons.inj (K0.mp w)).2
   subst e
   exact this _ D.me
 ·rcases F1.mp z with z|z
  ·exact D.me.2 z
  ·exact hne (K0.mp z)
 ·rcases F1.mp hz with w|w
  ·exact W1 _ (D.kids z w)
  ·exact O0 _ (K0.mpr (List.cons.inj (K0.mp w)).1)
 ·rcases F1.mp h1 with w|w
  ·exact W1 _ (D.cl z a q w (λv=>h2 (W1 _ v)) h3 h4 h5 h6)
  ·exact absurd (O0 _ w) h2
 ·rcases F1.mp hz with w|w
  ·exact W1 _ (D.clw z w h1 h2)
  ·exact O0 _ (K0.mpr (by rw[K0.mp w]))
theorem DfW.done(D:DfW g ps M x r ds L F)(h:∀y,mmS y x∈ps->y∈ds):Df g ps M L F:=
 ⟨D.nd,D.fnd,D.fsub,D.sw,D.root,D.src,λy a q h1 h2 h3 h4 h5=>by
   by_cases e:a::q=x::r
   ·cases e
    exact D.clw y (h y h3) h4 h5
   ·exact D.cl y a q h1 h2 e h3 h4 h5⟩
theorem Df.all(D:Df g ps M L [])(hM:∀y a q,M (y::a::q)≠none->M (a::q)≠none):∀w,w∈L↔SW g ps w/\M w≠none:=λw=>⟨D.sw w,λs=>by
 induction w with
 |nil=>obtain ⟨x,r,e⟩:=s.1.ne;cases e
 |cons y r ih=>
  cases r with
  |nil=>rw[s.1.one];exact D.root
  |cons x r=>
   obtain⟨h1,h2,h3⟩:=s.1.tail
   exact D.cl y x r (ih ⟨h1,hM _ _ _ s.2⟩) `j3 h3 h2 s.2⟩
end
theorem zkW(hK:X.K=K)(h:QE X e te):QI X tg e (zmX K te):=by subst hK;exact zbG h
inductive ChAt(H:Hp):List (Key×V)->List (Str×Option (List Str))->Prop
 |nil:ChAt H [] []
 |cons {x:Str} {v:V} {o:Option (List Str)} {kvs:List (Key×V)} {cs:List (Str×Option (List Str))}:zo2 H v o->ChAt H kvs cs->ChAt H ((Sum.inr x,v)::kvs) ((x,o)::cs)
structure Zp3(z TI TO0 i1 i2 i3:Addr):Prop where
 TIz:TI≠z
 TOz:TO0≠z
 i1z:i1≠z
 i2z:i2≠z
 i3z:i3≠z
 TITO:TI≠TO0
 TIi1:TI≠i1
 TIi2:TI≠i2
 TIi3:TI≠i3
 TOi1:TO0≠i1
 TOi2:TO0≠i2
 TOi3:TO0≠i3
 i12:i1≠i2
 i13:i1≠i3
 i23:i2≠i3
structure Pp where
 one:Str
 to:Str
 nr:Int
 way:Option (List Str)
 marks:List Str
structure PpOk(hs:List Str)(ps:List (Str×Str))(p:Pp):Prop where
 one:p.one∈hs
 to:p.to∈hs
 tied:p.to∈zb2 ps p.one
 nr:1<=p.nr
 mnm:∀x∈p.marks,zf x=true
 ml:p.marks.length<=90
 non:p.way=none->p.marks=[]
 way:∀w,p.way=some w->1<=w.length/\w.length<=10/\∀x∈w,zf x=true
inductive Ch(hs:List Str)(lks hds:List D):Str->List Str->List Pp->Prop
 |one {to g:Str} {nr:Int} {m:List Str} (h1:1<=nr) (h2:zC [g] (some to) (zW hs hds g) []=some m):Ch hs lks hds to [g] [⟨g,to,nr,some [g],m⟩]
 |more {to y x:Str} {ws:List Str} {nr:Int} {m:List Str} {q:Pp} {P:List Pp} (h:Ch hs lks hds y (x::ws) (q::P)) (h0:zdE (zI (y::x::ws) q.marks (zW hs lks y))=false) (h1:1<=nr)
   (h2:zC (y::x::ws) (some to) (zW hs hds y) q.marks=some m):Ch hs lks hds to (y::x::ws) (⟨y,to,nr,some (y::x::ws),m⟩::q::P)
section
variable{to:Str}{w:List Str}{P:List Pp}
end
section
variable{P:Nat->Value->Prop}{St:Nat->Heap->Prop}
end
section
open PySem.W PyProof.V
end
theorem znX{a b:Str}(h1:leS a b=true)(h2:leS b a=true):a=b:=by
 unfold leS at *
 rw[Bool.not_eq_true'] at *
 by_cases e:a=b
 ·exact e
 ·rw[za6 e h2] at h1;cases h1
theorem zgB:∀{ts:List Str},sortedS ts=true->ts.Pairwise (λa b=>leS a b=true)
 |[],_=> .nil
 |[a],_=>List.pairwise_singleton _ _
 |a::b::ts,h=>by
  have h':(!ltCps b.cps.toList a.cps.toList&&risingS b ts)=true:=h
  rw[E1] at h'
  have hr:sortedS (b::ts)=true:=h'.2
  have hab:leS a b=true:=by
   have h1:ltS b a=false:=by
    have:=h'.1
    rw[ltCps_eq] at this
    simpa using this
   unfold leS
   rw[h1];rfl
  have ih:=zgB hr
  refine List.pairwise_cons.mpr ⟨λz hz=>?_,ih⟩
  rcases R0.mp hz with rfl|hz
  ·exact hab
  ·exact zjH a b z hab ((List.pairwise_cons.mp ih).1 z hz)
theorem zpF{l:List Str}(hp:ts.Perm l)(hs:sortedS ts=true):ts=srt l:=
 (hp.trans (zz l).symm).eq_of_pairwise (λa b _ _ h1 h2=>znX h1 h2) (zgB hs) (List.pairwise_mergeSort zjH zk6 l)
structure Mst(rs:List D)(Pr:Nat->List Str->Prop):Prop where
 skip:∀i t,Pr i t->Pr (i+1) t
 next:∀i t w m cs,Pr i t->rs[i]?=some (.tup [.tup cs, .tup [.str w, .str m]])->Pr (i+1) (zjb t w m)
 ok:∀i t,i<=rs.length->Pr i t->(∀y∈t,zf y=true)/\t.length<=60
section
variable{δ ε ζ η θ:Type}
end
section
open PySem.W
theorem zeX{r d:Addr}{R:Value->Shared->Prop}(K:KdlSrc prog w T r d ks.length (λi v=>ks[i]?=some v) OK)(hh:A.handled=none)(hok:OK s.heap)(hS:StrsAre ks ss)(h64:ks.length<64)
 (q:∀(D:Addr) (out:Array Value) (ss':List Str) (h':Heap) (tk e:Nat),StrsAre out.toList ss'->ss'.Perm ss->sortedS ss'=true->(∀b o,s.heap.get? b=some o->h'.get? b=some o)->s.heap.objs.size<=D->h'.get? D=some (seqObj "list" out e)->R (.ref D) {s with heap:=h',toks:=tk}):
 wpAny `Y3 A (call (.builtin "sorted") [.ref r]) R E s:=by
 refine Calls.call_function_entry kind_sorted plain_sorted entry_sorted (args_sorted1 _) ?_
 unfold Builtin.«sorted»
 refine A0 (m:=checkCount "sorted" 1 1 _) (F0 (A0 (zjM (A:=A.in1) K hh hok (by rw[K3];lia) λh1 tk acc kp gr0 hacc=>?_)))
 have ea:acc.toList=ks:=by
  apply List.ext_getElem?
  intro i
  rcases D1 i ks.length with h|h
  ·have hi:i<acc.size:=by rw[hacc.1];exact h
   rw[Array.getElem?_toList,Z1 hi]
   exact(hacc.2 i acc[i] (by rw[Z1 hi])).symm
  ·rw[I0 h,I0 (by rw[C1,hacc.1];exact h)]
 rw[ea]
 refine A0 (wpAny_newList ?_ (by rw[K3];lia))
 have hD:(h1.push (seqObj "list" ks.toArray 0)).get? h1.objs.size=some (seqObj "list" ks.toArray 0):=T0 _ rfl
 have k2:∀b o,s.heap.get? b=some o->(h1.push (seqObj "list" ks.toArray 0)).get? b=some o:=λb o e=>G0 _ (kp b o e)
 have gr:s.heap.objs.size<=h1.objs.size:=A3 gr0
 show wpAny _ _ _ _ _ {s with heap:=h1.push (seqObj "list" ks.toArray 0),toks:=tk}
 refine A0 (O2 (G2 slot_list_sort ⟨_,hD,rfl⟩ entry_list_sort (list_sort_treeK strKind_oneLt (s:={s with heap:=h1.push (seqObj "list" ks.toArray 0),toks:=tk}) hD hS.keysOf (λv1 v2 rest e=>?_) h64 λst' hp hs=>?_) (args_list_sort _)))
 ·subst e
  exact keyKind_strs hS
 ·obtain ⟨ss',a1,a2,a3⟩:=sorted_out_str hS hp hs
  obtain⟨e,he⟩:=sortedHeap_at (h:=h1.push (seqObj "list" ks.toArray 0)) (vs:=ks) (out:=Array.map (λx=>x.snd) (arrOf st')) hD
  refine⟨_,rfl,F0 ⟨_,rfl,q h1.objs.size _ ss' _ tk e a1 a2 a3 (λb o hb=>?_) gr he⟩⟩
  have lb:=W0 hb
  rw[sortedHeap_old (P1 (A2 lb gr)) (W0 (k2 b o hb))]
  exact k2 b o hb
theorem zhf(hc:X.calm=true):CallR X (.builtin "sorted") (λxs H Q=>∃(d:Addr) (kvs:List (Key×V)) (ss:List Str),xs=[.ref d]/\H d=some (.dK kvs)/\kvs.map (·.1)=ss.map Sum.inr/\ss.length<64/\
 ∀(ss':List Str) l,ss'.Perm ss->ss'.Pairwise (λa b=>ltS a b=true)->H l=none->Q (.ref l) (upd H l (.lst (ss'.map V.str)))):=by
 intro pins s σ H xs us Q I r h
 obtain⟨d,kvs,ss,rfl,e,hk,h64,q⟩:=h
 obtain⟨u,rfl,ru⟩:=za8 r
 cases ru
 obtain⟨hz,nsys,vs,rel,o,es,ep,g,ex,dat,ko,pr,nd⟩:=zmV I.hok e
 have raw:RawD s.heap d (es.toList.map (·.key)) ep:=⟨o,es,g,ex,dat,rfl⟩
 have vk:Vals (ss.map V.str) (es.toList.map (·.key)):=by
  have h1:=zfO pr
  have h2:ss.map V.str=vs.map λkv=>kV kv.1:=by
   have:=zhd rel
   rw[hk] at this
   have:=congrArg (List.map kV) this
   rw[G3,G3] at this
   exact this
  rw[h2];exact h1
 have hnd:ss.Nodup:=by
  rw[←zhd rel,hk] at nd
  exact(V2.mp nd).imp λh z=>h (by rw[z])
 have hS:=za1 vk
 have hl:=vk.length
 rw[C0] at hl
 refine zeX (zoI (ks:=es.toList.map (·.key)) (ep:=ep) nsys) (I.ok.hd hc) raw hS () λD out ss' h' tk c a1 a2 a3 kp hD he=>?_
 refine⟨.ref D,_,I.laid (a:=D) (o:= .lst (ss'.map V.str)) (t':=tk) kp hD ⟨?_,out.toList,c,?_,?_⟩,rfl,q ss' D a2 (zeg ss' a3 (a2.nodup_iff.mpr hnd)) (I.hok.fresh hD)⟩
 ·rw[C0,a2.length_eq];exact A3 (zj ())
 ·have mk:∀{vs:List Value} {zs:List Str},StrsAre vs zs->Vals (zs.map V.str) vs:=by
   intro vs zs h
   induction h with
   |nil=>exact .nil
   |cons x t _ ih=>exact .cons ⟨t,rfl⟩ ih
  exact mk a1
 ·rw[Array.toArray_toList];exact he
end
section
variable{P:Nat->Value->Prop}{St:Nat->Heap->Prop}
end
theorem zgz{N:List α}(hN:N.Nodup){x:α}(a:N[i]?=some x)(b:N[j]?=some x):i=j:=by
 obtain⟨h1,e1⟩:=List.getElem?_eq_some_iff.mp a
 obtain⟨h2,e2⟩:=List.getElem?_eq_some_iff.mp b
 exact(List.getElem_inj hN).mp (e1.trans e2.symm)
structure RawKm(h:Heap)(b:Addr)(k:Ky):Prop where
 at_:∃t u,IsTup h b #[.ref t,u]/\RawK h t k
inductive TrX(K:W.Frag)(H:Hp):V->PyData->Prop
 |non:TrX K H .non .none
 |int (i:Int):TrX K H (.int i) (.int i)
 |str (x:Str) (h:PyData.strOk x=true):TrX K H (.str x) (.str x)
 |tup {p:Addr} {vs:List V} {ds:List PyData} (e:SqT K H p vs) (hl:vs.length=ds.length) (h:∀(i:Nat) (v:V) (d:PyData),vs[i]?=some v->ds[i]?=some d->TrX K H v d):TrX K H (.ref p) (.tuple ds)
 |lst {p:Addr} {vs:List V} {ds:List PyData} (e:H p=some (.lst vs)) (hl:vs.length=ds.length) (h:∀(i:Nat) (v:V) (d:PyData),vs[i]?=some v->ds[i]?=some d->TrX K H v d):TrX K H (.ref p) (.list ds)
noncomputable abbrev Hr:=Int×Option WM
noncomputable abbrev Tb:=List (Str×Hr)
structure TbOk(hs:List Str)(ok:Str->Hr->Prop)(tm:Tb):Prop where
 nd:(tm.map (·.1)).Nodup
 mem:∀p∈tm,p.1∈hs/\ok p.1 p.2
section
variable{b:Addr}{k:WKey}{xs:List (WKey×Addr×Value)}
end
inductive Alk(H:Hp):List (Key×V)->List (Key×V)->Prop
 |nil:Alk H [] []
 |cons {k:Key} {v v':V} {d:PyData} {r r':List (Key×V)}:Tr H v d->Tr H v' d->d.depth<=60->Alk H r r'->Alk H ((k,v)::r) ((k,v')::r')
section
open Sem (wp)
open MeetsSeq MeetsSeq2 MeetsSeq3 Builtin
end
abbrev Rise(xs:Array Nat):Prop:=xs.toList.Pairwise (·<·)
theorem Rise.at{xs:Array Nat}(hr:Rise xs)(hi:i<xs.size)(hk:k<xs.size)(h:i<k):xs[i]<xs[k]:=by
 have:=List.pairwise_iff_getElem.mp hr i k (by simpa using hi) (by simpa using hk) h
 simpa using this
theorem zfL{xs:Array Nat}{j:Nat}(hr:Rise xs):∀(f lo hi:Nat),lo<=hi->hi<=xs.size->hi -lo<=f->(∀(i:Nat) (h:i<xs.size),i<lo->xs[i]<j)->(∀(i:Nat) (h:i<xs.size),hi<=i->j<=xs[i])->SetTable.below.go xs j f lo hi<=xs.size/\(∀(i:Nat) (h:i<xs.size),i<SetTable.below.go xs j f lo hi->xs[i]<j)/\(∀(i:Nat) (h:i<xs.size),SetTable.below.go xs j f lo hi<=i->j<=xs[i])
 |0,lo,hi,h1,h2,h3,ha,hb=>by
  have:lo=hi:=()
  subst this
  exact⟨h2,ha,hb⟩
 |f+1,lo,hi,h1,h2,h3,ha,hb=>by
  unfold SetTable.below.go
  by_cases h:lo<hi
  ·rw[c0 h]
   have hm:(lo+hi)/2<xs.size:=()
   have hg:xs.getD ((lo+hi)/2) j=xs[(lo+hi)/2]:=by simp[Array.getD,hm]
   simp only[hg]
   by_cases hc:xs[(lo+hi)/2]<j
   ·rw[c0 hc]
    refine zfL hr f _ _ () h2 () (λi h' hl=>?_) hb
    by_cases he:i=(lo+hi)/2
    ·subst he;exact hc
    ·exact Nat.lt_trans (hr.at h' hm ()) hc
   ·rw[P0 hc]
    refine zfL hr f _ _ () () () ha (λi h' hl=>?_)
    by_cases he:i=(lo+hi)/2
    ·subst he;lia
    ·have:=hr.at hm h' (by lia:(lo+hi)/2<i);lia
  ·rw[P0 h]
   have:lo=hi:=()
   subst this
   exact⟨h2,ha,hb⟩
theorem zcy{xs:Array Nat}(hr:Rise xs):SetTable.below xs j<=xs.size/\(∀(i:Nat) (h:i<xs.size),i<SetTable.below xs j->xs[i]<j)/\(∀(i:Nat) (h:i<xs.size),SetTable.below xs j<=i->j<=xs[i]):=
 zfL hr _ _ _ (X1 _) (L0 _) () (λ_ _ h=>absurd h (Nat.not_lt_zero _)) (λi h h'=>())
theorem zlZ{xs:Array Nat}(hr:Rise xs)(h:j∈xs.toList):xs[SetTable.below xs j]?=some j:=by
 obtain⟨i,hi,e⟩:=E2 h
 have hi':i<xs.size:=by simpa using hi
 have e':xs[i]=j:=by simpa using e
 obtain⟨h1,h2,h3⟩:=zcy (j:=j) hr
 have hb:SetTable.below xs j=i:=by
  rcases Nat.lt_trichotomy (SetTable.below xs j) i with c|c|c
  ·have hlt:SetTable.below xs j<xs.size:=()
   have a:=h3 _ hlt (L0 _)
   have b:=hr.at hlt hi' c
   lia
  ·exact c
  ·have:=h2 i hi' c;lia
 rw[hb,Z1 hi',e']
theorem zl8(hr:Rise t.place)(h:j∈t.place.toList):t.slot j= .live (SetTable.below t.place j):=by
 unfold SetTable.slot
 simp[zlZ hr h]
theorem zkb(hd:t.dummies= #[])(h:j∉t.place.toList):t.slot j= .empty:=by
 unfold SetTable.slot
 have h1:t.place[SetTable.below t.place j]?≠some j:=λe=>h (by
  have:=Array.mem_of_getElem? e
  simpa using this)
 have h2:SetTable.has t.dummies j=false:=by
  rw[hd];unfold SetTable.has;simp
 simp[h1,h2]
noncomputable def z6(t:SetTable)(h:Int):Nat->SetTable.Probe
 |0=>t.probeStart h
 |n+1=>t.advance (z6 t h n)
noncomputable abbrev zac(t:SetTable)(h:Int)(n:Nat):Nat:=(z6 t h n).j
theorem zdC(t:SetTable)(h:Int):∀n,(z6 t h n).dummy=none
 |0=>rfl
 |n+1=>by
  show(t.advance (z6 t h n)).dummy=none
  unfold SetTable.advance
  split
  ·exact zdC t h n
  ·exact zdC t h n
theorem zdd{t t':SetTable}(e:t'.mask=t.mask)(h:Int):∀n,z6 t' h n=z6 t h n
 |0=>by simp[z6,SetTable.probeStart,e]
 |n+1=>by
  show t'.advance (z6 t' h n)=t.advance (z6 t h n)
  rw[zdd e h n];simp[SetTable.advance,e]
noncomputable def zV(mask:Nat)(h:Int):Nat->Nat×Nat
 |0=>(SetTable.bits h%(mask+1),SetTable.bits h)
 |k+1=>SetTable.leap mask (zV mask h k).1 (zV mask h k).2
noncomputable def zcp(mask:Nat)(q:Nat×Nat):SetTable.Probe:={j:=q.1,more:=SetTable.runEnd mask q.1 -q.1,i:=q.1,perturb:=q.2,dummy:=none}
theorem zmb(mask i:Nat):SetTable.runEnd mask i -i<=9:=by unfold SetTable.runEnd;split<;>lia
theorem zbQ{mask:Nat}(h:i<=mask):SetTable.runEnd mask i<=mask/\i<=SetTable.runEnd mask i:=by unfold SetTable.runEnd;split<;>lia
theorem zer{t:SetTable}{h:Int}{n:Nat}{q:Nat×Nat}(e:z6 t h n=zcp t.mask q):∀d,d<=SetTable.runEnd t.mask q.1 -q.1->z6 t h (n+d)={zcp t.mask q with j:=q.1+d,more:=SetTable.runEnd t.mask q.1 -q.1 -d}
 |0,_=>by simpa[zcp] using e
 |d+1,hd=>by
  show t.advance (z6 t h (n+d))=_
  rw[zer e d ()]
  unfold SetTable.advance
  simp only[zcp]
  rw[c0 ()]
  congr 1
theorem zi1{h:Int}{q:Nat×Nat}(e:z6 t h n=zcp t.mask q):z6 t h (n+(SetTable.runEnd t.mask q.1 -q.1)+1)=zcp t.mask (SetTable.leap t.mask q.1 q.2):=by
 show t.advance (z6 t h (n+(SetTable.runEnd t.mask q.1 -q.1)))=_
 rw[zer e _ (L0 _)]
 unfold SetTable.advance
 simp only[zcp]
 rw[P0 ()]
theorem zlc(t:SetTable)(h:Int):∀k,∃n,n<=10*k/\z6 t h n=zcp t.mask (zV t.mask h k)
 |0=>⟨0,(),rfl⟩
 |k+1=>by
  obtain⟨n,hn,e⟩:=zlc t h k
  refine⟨_,?_,zi1 e⟩
  have:=zmb t.mask (zV t.mask h k).1
  lia
theorem zgK(mask:Nat)(h:Int):∀k,(zV mask h k).2=SetTable.bits h/32^k
 |0=>by simp[zV]
 |k+1=>by
  show(zV mask h k).2/32=_
  rw[zgK mask h k,Nat.div_div_eq_div_mul,Nat.pow_succ]
theorem zpA(h:Int):SetTable.bits h<2^64:=by
 unfold SetTable.bits
 have:=Int.emod_lt_of_pos h (show(0:Int)<2^64 by decide)
 have h0:=Int.emod_nonneg h (show(2^64:Int)≠0 by decide)
 lia
theorem zdL(mask:Nat)(h:Int):∀k,(zV mask h k).1<=mask
 |0=>Nat.lt_succ_iff.mp (Nat.mod_lt _ (Nat.succ_pos _))
 |k+1=>Nat.lt_succ_iff.mp (Nat.mod_lt _ (Nat.succ_pos _))
noncomputable def zcb(mask:Nat):Nat->Nat->Nat
 |0,i=>i
 |d+1,i=>(zcb mask d i*5+1)%(mask+1)
theorem zgM{mask:Nat}{h:Int}:∀d,(zV mask h (13+d)).1=zcb mask d (zV mask h 13).1
 |0=>rfl
 |d+1=>by
  have hp:(zV mask h (13+d)).2=0:=by
   rw[zgK]
   apply Nat.div_eq_of_lt
   have h1:=zpA h
   have h2:32^13<=32^(13+d):=Nat.pow_le_pow_right ⋯ ()
   have h3:(2:Nat)^64<32^13:=⋯
   lia
  show((zV mask h (13+d)).1*5+1+(zV mask h (13+d)).2/32)%(mask+1)=_
  rw[hp,zgM d]
  rfl
def zaE(m:Nat):Prop:=m=7\/m=15\/m=31\/m=63\/m=127\/m=255
theorem zb8(m:Nat)(a:Nat)(i:Nat):∀d,zcb m (a+d) i=zcb m d (zcb m a i)
 |0=>rfl
 |d+1=>by
  show(zcb m (a+d) i*5+1)%(m+1)=(zcb m d (zcb m a i)*5+1)%(m+1)
  rw[zb8 m a i d]
noncomputable def zjG(m:Nat):Nat->Nat->List Nat
 |0,_=> []
 |k+1,i=>i::zjG m k ((i*5+1)%(m+1))
theorem zgq{m j:Nat}:∀(k i:Nat),j∈zjG m k i->∃d<k,zcb m d i=j
 |0,_,h=>nomatch h
 |k+1,i,h=>by
  rcases R0.mp h with h|h
  ·exact ⟨0,(),h.symm⟩
  ·obtain ⟨d,hd,e⟩:=zgq k _ h
   refine⟨1+d,(),?_⟩
   rw[zb8];exact e
noncomputable def zrs(m:Nat):Bool:=(List.range (m+1)).all λj=>(zjG m (m+1) 0).contains j
theorem zsa{m:Nat}(h:zrs m=true)(h0:zcb m (m+1) 0=0)(hi:i<=m)(hj:j<=m):∃d≤m,zcb m d i=j:=by
 have g:∀x≤m,∃d<m+1,zcb m d 0=x:=λx hx=>by
  have h1:=C3.mp h x (by simp;lia)
  exact zgq _ _ (by simpa using h1)
 obtain⟨a,ha,ea⟩:=g i hi
 obtain⟨b,hb,eb⟩:=g j hj
 by_cases c:a<=b
 ·refine ⟨b -a,(),?_⟩
  rw[←ea,←zb8,show a+(b -a)=b by lia,eb]
 ·refine ⟨m+1 -a+b,(),?_⟩
  rw[←ea,←zb8,show a+(m+1 -a+b)=(m+1)+b by lia,zb8,h0,eb]
theorem zr9{m:Nat}(h:zaE m)(hi:i<=m)(hj:j<=m):∃d≤m,zcb m d i=j:=by
 rcases h with h|h|h|h|h|h<;>subst h<;>exact zsa `Z3 `Z3 hi hj
theorem zgp{m:Nat}(hm:zaE m)(h:Int)(hj:j<=m):∃k,k<=13+m/\(zV m h k).1=j:=by
 obtain⟨d,hd,e⟩:=zr9 hm (zdL m h 13) hj
 exact⟨13+d,(),by rw[zgM,e]⟩
theorem znx(hm:zaE t.mask)(h:Int)(hj:j<=t.mask):∃n,n<10*SetTable.turns t.mask/\zac t h n=j:=by
 obtain⟨k,hk,e⟩:=zgp hm h hj
 obtain⟨n,hn,e'⟩:=zlc t h k
 refine⟨n,by unfold SetTable.turns;lia,?_⟩
 show(z6 t h n).j=j
 rw[e'];exact e
def Reach(t:SetTable)(h:Int)(j:Nat):Prop:=∃n,zac t h n=j/\∀m<n,zac t h m∈t.place.toList
structure LayT(t:SetTable)(hs:List Int):Prop where
 size:t.place.size=hs.length
 rise:Rise t.place
 bnd:∀j∈t.place.toList,j<=t.mask
 dum:t.dummies= #[]
 mask:zaE t.mask
 reach:∀p∈t.place.toList.zip hs,Reach t p.2 p.1
theorem Reach.grow{t':SetTable}{h:Int}(e:t'.mask=t.mask)(hp:∀k∈t.place.toList,k∈t'.place.toList)(r:Reach t h j):Reach t' h j:=by
 obtain⟨n,e1,f⟩:=r
 exact⟨n,by rw[zac,zdd e];exact e1,λm hm=>by rw[zac,zdd e];exact hp _ (f m hm)⟩
theorem zna{P:Nat->Prop}:∀n,P n->∃m,m<=n/\P m/\∀k<m,¬P k:=by
 intro n
 induction n using Nat.strongRecOn with
 |ind n ih=>
  intro h
  by_cases c:∃k,k<n/\P k
  ·obtain ⟨k,hk,pk⟩:=c
   obtain⟨m,hm,r⟩:=ih k hk pk
   exact⟨m,(),r⟩
  ·exact ⟨n,L0 _,h,λk hk pk=>c ⟨k,hk,pk⟩⟩
theorem zcY:∀(m:Nat) (l:List Nat),(∀j<m,j∈l)->m<=l.length
 |0,l,_=>X1 _
 |m+1,l,h=>by
  have hm:m∈l:=h m ()
  have h1:=zcY m (l.erase m) (λj hj=>(List.mem_erase_of_ne ()).mpr (h j ()))
  have h2:=List.length_erase_of_mem hm
  have h3:0<l.length:=List.length_pos_of_mem hm
  lia
theorem zpr{l:List Nat}{m:Nat}(h:l.length<=m):∃j,j<=m/\j∉l:=by
 refine Classical.byContradiction λc=>?_
 have:=zcY (m+1) l (λj hj=>Classical.byContradiction λn=>c ⟨j,(),n⟩)
 lia
theorem LayT.first{hs:List Int}(L:LayT t hs)(hf:hs.length<=t.mask)(h:Int):∃ne,ne<10*SetTable.turns t.mask/\zac t h ne∉t.place.toList/\∀m<ne,zac t h m∈t.place.toList:=by
 obtain⟨j,hj,hn⟩:=zpr (l:=t.place.toList) (m:=t.mask) (by rw[C1,L.size];exact hf)
 obtain⟨n,hn',e⟩:=znx L.mask h hj
 obtain⟨m,hm,p,q⟩:=zna (P:=λn=>zac t h n∉t.place.toList) n (by show zac t h n∉_;rw[e];exact hn)
 exact⟨m,(),p,λk hk=>Classical.byContradiction λc=>q k hk c⟩
theorem zeG(t:SetTable)(h:Int):∀n,(z6 t h n).j+(z6 t h n).more<=t.mask
 |0=>by
  have h1:=zbQ (mask:=t.mask) (i:=SetTable.bits h%(t.mask+1)) (Nat.lt_succ_iff.mp (Nat.mod_lt _ (Nat.succ_pos _)))
  show SetTable.bits h%(t.mask+1)+(SetTable.runEnd t.mask (SetTable.bits h%(t.mask+1)) -SetTable.bits h%(t.mask+1))<=t.mask
  lia
 |n+1=>by
  have ih:=zeG t h n
  show(t.advance (z6 t h n)).j+(t.advance (z6 t h n)).more<=t.mask
  unfold SetTable.advance
  split
  ·show (z6 t h n).j+1+((z6 t h n).more -1)<=t.mask
   lia
  ·have h1:=zbQ (mask:=t.mask) (i:=(SetTable.leap t.mask (z6 t h n).i (z6 t h n).perturb).1) (Nat.lt_succ_iff.mp (Nat.mod_lt _ (Nat.succ_pos _)))
   show(SetTable.leap t.mask (z6 t h n).i (z6 t h n).perturb).1+(SetTable.runEnd t.mask (SetTable.leap t.mask (z6 t h n).i (z6 t h n).perturb).1 -(SetTable.leap t.mask (z6 t h n).i (z6 t h n).perturb).1)<=t.mask
   lia
theorem zrP(t:SetTable)(h:Int)(n:Nat):zac t h n<=t.mask:=by
 have:=zeG t h n
 show(z6 t h n).j<=t.mask
 lia
theorem zll{t:SetTable}{hs:List Int}{h:Int}{ne:Nat}(L:LayT t hs)(hashAt:Nat->Int)(he:zac t h ne∉t.place.toList)(hf:∀m<ne,zac t h m∈t.place.toList):∀f n,n<=ne->ne<n+f->
 (SetTable.probe.go t hashAt h f (z6 t h n)=some (.empty (zac t h ne) none)/\∀m,n<=m->m<ne->hashAt (SetTable.below t.place (zac t h m))≠h)\/
 (∃m,n<=m/\m<ne/\SetTable.probe.go t hashAt h f (z6 t h n)=some (.candidate (zac t h m) (SetTable.below t.place (zac t h m)) (z6 t h (m+1)))/\hashAt (SetTable.below t.place (zac t h m))=h/\∀m',n<=m'->m'<m->hashAt (SetTable.below t.place (zac t h m'))≠h)
 |0,n,h1,h2=>()
 |f+1,n,h1,h2=>by
  unfold SetTable.probe.go
  by_cases c:n=ne
  ·subst c
   refine .inl ⟨?_,λm a b=>()⟩
   rw[show(z6 t h n).j=zac t h n from rfl,zkb L.dum he]
   simp only[zdC]
  ·have hl:=hf n ()
   rw[show(z6 t h n).j=zac t h n from rfl,zl8 L.rise hl]
   simp only[]
   by_cases c2:hashAt (SetTable.below t.place (zac t h n))=h
   ·refine .inr ⟨n,L0 _,(),?_,c2,λm' a b=>()⟩
    rw[c0 (by simpa using c2)]
    rfl
   ·rw[P0 (by simpa using c2)]
    rw[show t.advance (z6 t h n)=z6 t h (n+1)from rfl]
    rcases zll L hashAt he hf f (n+1) () ()with⟨e,r⟩|⟨m,a,b,e,q,r⟩
    ·refine .inl ⟨e,λm a b=>?_⟩
     by_cases c3:m=n
     ·subst c3;exact c2
     ·exact r m () b
    ·refine .inr ⟨m,(),b,e,q,λm' a' b'=>?_⟩
     by_cases c3:m'=n
     ·subst c3;exact c2
     ·exact r m' () b'
theorem zic{xs:Array α}{p:Nat}{x:α}(hp:p<=xs.size):(SetTable.insertAt xs p x).toList=xs.toList.take p ++x::xs.toList.drop p:=by
 unfold SetTable.insertAt
 simp[Array.toList_extract,List.extract_eq_drop_take]
 exact List.take_of_length_le `j3
theorem zhC{l:List α}{p:Nat}{y:α}:y∈l.take p\/y∈l.drop p↔y∈l:=by
 rw[←F1,List.take_append_drop]
theorem LayT.put{hs:List Int}(L:LayT t hs){h:Int}(hj:j∉t.place.toList)(hb:j<=t.mask)(r:Reach t h j):
 (t.put j).2<=hs.length/\(t.put j).1.mask=t.mask/\LayT (t.put j).1 (hs.take (t.put j).2 ++h::hs.drop (t.put j).2):=by
 obtain⟨b1,b2,b3⟩:=zcy (xs:=t.place) (j:=j) L.rise
 have e2:(t.put j).2=SetTable.below t.place j:=rfl
 have ep:(t.put j).1.place.toList=t.place.toList.take (SetTable.below t.place j)++j::t.place.toList.drop (SetTable.below t.place j):=by
  show(SetTable.insertAt t.place (SetTable.below t.place j) j).toList=_
  exact zic b1
 have em:(t.put j).1.mask=t.mask:=rfl
 have hmem:∀k,k∈(t.put j).1.place.toList↔k=j\/k∈t.place.toList:=λk=>by
  rw[ep,F1,R0,←zhC (l:=t.place.toList) (p:=SetTable.below t.place j)]
  constructor
  ·rintro (a|a|a)
   ·exact .inr (.inl a)
   ·exact .inl a
   ·exact .inr (.inr a)
  ·rintro (a|a|a)
   ·exact .inr (.inl a)
   ·exact .inl a
   ·exact .inr (.inr a)
 have hlt:∀k∈t.place.toList.take (SetTable.below t.place j),k<j:=λk hk=>by
  obtain⟨i,hi,e⟩:=E2 hk
  rw[C2,C1] at hi
  rw[List.getElem_take] at e
  have:=b2 i () ()
  simp at e
  lia
 have hgt:∀k∈t.place.toList.drop (SetTable.below t.place j),j<k:=λk hk=>by
  obtain⟨i,hi,e⟩:=E2 hk
  rw[List.length_drop,C1] at hi
  rw[List.getElem_drop] at e
  have h3:=b3 (SetTable.below t.place j+i) () ()
  simp at e
  have hne:k≠j:=λc=>hj (c▸List.mem_of_mem_drop hk)
  lia
 refine⟨by rw[e2,←L.size];exact b1,em,?_⟩
 rw[e2]
 have hl1:(t.place.toList.take (SetTable.below t.place j)).length=(hs.take (SetTable.below t.place j)).length:=by
  rw[C2,C2,C1,L.size]
 refine{size:=?_,rise:=?_,bnd:=?_,dum:=?_,mask:=by rw[em];exact L.mask,reach:=?_}
 ·rw[←C1,ep]
  simp only[Z0,Y1,C2,List.length_drop,C1,L.size]
 ·show (t.put j).1.place.toList.Pairwise (·<·)
  rw[ep,List.pairwise_append]
  refine⟨L.rise.sublist (List.take_sublist _ _),?_,?_⟩
  ·rw[List.pairwise_cons]
   exact⟨hgt,L.rise.sublist (List.drop_sublist _ _)⟩
  ·intro a ha b hb'
   rcases R0.mp hb' with c|c
   ·subst c;exact hlt a ha
   ·exact Nat.lt_trans (hlt a ha) (hgt b c)
 ·intro k hk
  rcases(hmem k).mp hk with c|c
  ·subst c;rw[em];exact hb
  ·rw[em];exact L.bnd k c
 ·show (if SetTable.has t.dummies j then _ else t.dummies)= #[]
  rw[L.dum]
  simp[SetTable.has]
 ·intro p hp
  have hg:∀k∈t.place.toList,k∈(t.put j).1.place.toList:=λk hk=>(hmem k).mpr (.inr hk)
  rw[ep,List.zip_append hl1,List.zip_cons_cons] at hp
  have hz:t.place.toList.zip hs=(t.place.toList.take (SetTable.below t.place j)).zip (hs.take (SetTable.below t.place j))++(t.place.toList.drop (SetTable.below t.place j)).zip (hs.drop (SetTable.below t.place j)):=by
   rw[←List.zip_append hl1,List.take_append_drop,List.take_append_drop]
  rcases F1.mp hp with c|c
  ·exact (L.reach p (by rw[hz];exact F1.mpr (.inl c))).grow em hg
  ·rcases R0.mp c with c|c
   ·subst c;exact r.grow em hg
   ·exact (L.reach p (by rw[hz];exact F1.mpr (.inr c))).grow em hg
noncomputable def tM(mask:Nat):SetTable:={mask:=mask,place:= #[],dummies:= #[],finger:=0,led:=false,moves:=0,plain:=false}
abbrev zbO(owner:Array (Option Nat))(j:Nat):Prop:=∃k,owner[j]?=some (some k)
structure OwnOk(mask:Nat)(owner:Array (Option Nat))(hs:List Int):Prop where
 size:owner.size=mask+1
 lt:∀(j k:Nat),owner[j]?=some (some k)->k<hs.length
 all:∀k<hs.length,∃j:Nat,owner[j]?=some (some k)
 inj:∀(j j' k:Nat),owner[j]?=some (some k)->owner[j']?=some (some k)->j=j'
 reach:∀(j k:Nat) (h:Int),owner[j]?=some (some k)->hs[k]?=some h->∃n,zac (tM mask) h n=j/\∀m<n,zbO owner (zac (tM mask) h m)
theorem OwnOk.free{mask:Nat}{hs:List Int}(O:OwnOk mask owner hs)(hl:hs.length<=mask):∃j,j<=mask/\¬zbO owner j:=by
 refine Classical.byContradiction λc=>?_
 have h1:∀k,∃j:Nat,k<hs.length->owner[j]?=some (some k):=λk=>by
  by_cases hk:k<hs.length
  ·obtain ⟨j,e⟩:=O.all k hk;exact⟨j,λ_=>e⟩
  ·exact ⟨0,λh=>absurd h hk⟩
 obtain⟨f,hf⟩:=Classical.skolem.mp h1
 have:=zcY (mask+1) ((List.range hs.length).map f) (λj hj=>by
  have ho:zbO owner j:=Classical.byContradiction λn=>c ⟨j,(),n⟩
  obtain⟨k,e⟩:=ho
  have hk:=O.lt j k e
  exact X0.mpr ⟨k,E3.mpr hk,O.inj _ _ _ (hf k hk) e⟩)
 rw[C0,List.length_range] at this
 lia
theorem zdg{mask:Nat}(hs:owner.size=mask+1)(hj:j<=mask):(owner.getD j (some 0)).isNone=false↔zbO owner j:=by
 have hlt:j<owner.size:=()
 rw[show owner.getD j (some 0)=owner[j] by simp[Array.getD,hlt]]
 constructor
 ·intro h
  cases e:owner[j] with
  |none=>rw[e] at h;simp at h
  |some k=>exact ⟨k,by rw[Z1 hlt,e]⟩
 ·rintro ⟨k,e⟩
  rw[Z1 hlt] at e
  have:owner[j]=some k:=by injection e
  rw[this];rfl
theorem zgm{mask:Nat}{owner:Array (Option Nat)}{h:Int}(hs:owner.size=mask+1):∀(f k0:Nat),SetTable.layClean.free mask owner f (zV mask h k0).1 (zV mask h k0).2=none->∀k,k0<=k->k<k0+f->zbO owner (zV mask h k).1
 |0,k0,_,k,h1,h2=>()
 |f+1,k0,e,k,h1,h2=>by
  unfold SetTable.layClean.free at e
  have hi:=zdL mask h k0
  have hr:=zbQ hi
  split at e
  ·exact absurd e `j3
  ·rename_i hn
   by_cases c:k=k0
   ·subst c
    have:=List.find?_eq_none.mp hn 0 (E3.mpr ())
    rw[Nat.add_zero] at this
    exact(zdg hs hi).mp (Bool.eq_false_iff.mpr this)
   ·exact zgm hs f (k0+1) e k () ()
theorem zgO{mask:Nat}{owner:Array (Option Nat)}{h:Int}{j:Nat}(hs:owner.size=mask+1):∀(f k0 n:Nat),z6 (tM mask) h n=zcp mask (zV mask h k0)->(∀m<n,zbO owner (zac (tM mask) h m))->SetTable.layClean.free mask owner f (zV mask h k0).1 (zV mask h k0).2=some j->∃n',zac (tM mask) h n'=j/\(∀m<n',zbO owner (zac (tM mask) h m))/\¬zbO owner j/\j<=mask
 |0,k0,n,_,_,e=>by unfold SetTable.layClean.free at e;exact absurd e `j3
 |f+1,k0,n,en,hf,e=>by
  unfold SetTable.layClean.free at e
  have hi:=zdL mask h k0
  have hr:=zbQ hi
  have run:∀d,d<=SetTable.runEnd mask (zV mask h k0).1 -(zV mask h k0).1->zac (tM mask) h (n+d)=(zV mask h k0).1+d:=λd hd=>by
   have:=zer (t:=tM mask) en d hd
   show(z6 (tM mask) h (n+d)).j=_
   rw[this]
  split at e
  ·rename_i d hd
   injection e with e
   rw[List.find?_range_eq_some] at hd
   obtain⟨hd1,hd2,hd3⟩:=hd
   have hdl:d<=SetTable.runEnd mask (zV mask h k0).1 -(zV mask h k0).1:=by
    have:=E3.mp hd2;lia
   refine⟨n+d,by rw[run d hdl,e],λm hm=>?_,λc=>?_,()⟩
   ·by_cases hmn:m<n
    ·exact hf m hmn
    ·have hm':m=n+(m -n):=()
     rw[hm',run (m -n) ()]
     have:=hd3 (m -n) ()
     exact(zdg hs ()).mp (by simpa using this)
   ·rw[←e] at c
    have:=(zdg hs ()).mpr c
    rw[this] at hd1
    exact absurd hd1 ⋯
  ·rename_i hn
   have hall:∀d,d<=SetTable.runEnd mask (zV mask h k0).1 -(zV mask h k0).1->zbO owner ((zV mask h k0).1+d):=λd hd=>by
    have:=List.find?_eq_none.mp hn d (E3.mpr ())
    exact(zdg hs ()).mp (Bool.eq_false_iff.mpr this)
   refine zgO hs f (k0+1) (n+(SetTable.runEnd mask (zV mask h k0).1 -(zV mask h k0).1)+1) (zi1 (t:=tM mask) en) (λm hm=>?_) e
   by_cases hmn:m<n
   ·exact hf m hmn
   ·have hm':m=n+(m -n):=()
    rw[hm',run (m -n) ()]
    exact hall _ ()
theorem zoL{mask:Nat}{hs:List Int}(hm:zaE mask)(O:OwnOk mask owner hs)(hl:hs.length<=mask)(h:Int):∃j n,SetTable.layClean.free mask owner (SetTable.turns mask) (SetTable.bits h%(mask+1)) (SetTable.bits h)=some j/\zac (tM mask) h n=j/\(∀m<n,zbO owner (zac (tM mask) h m))/\¬zbO owner j/\j<=mask:=by
 cases e:SetTable.layClean.free mask owner (SetTable.turns mask) (SetTable.bits h%(mask+1)) (SetTable.bits h)with
 |none=>
  obtain⟨j,hj,hn⟩:=O.free hl
  obtain⟨k,hk,ek⟩:=zgp hm h hj
  exact absurd (ek▸zgm (h:=h) O.size _ 0 e k (X1 _) (by unfold SetTable.turns;lia)) hn
 |some j=>
  obtain⟨n,a,b,c,d⟩:=zgO (h:=h) O.size _ 0 0 rfl (λm hm=>()) e
  exact⟨j,n,rfl,a,b,c,d⟩
theorem OwnOk.add{mask:Nat}{hs:List Int}{h:Int}(O:OwnOk mask owner hs)(ej:zac (tM mask) h n=j)(hf:∀m<n,zbO owner (zac (tM mask) h m))(hn:¬zbO owner j)(hj:j<=mask):OwnOk mask (owner.setIfInBounds j (some hs.length)) (hs ++ [h]):=by
 have hjs:j<owner.size:=by rw[O.size];lia
 have at':∀(i k:Nat),(owner.setIfInBounds j (some hs.length))[i]?=some (some k)↔(i=j/\k=hs.length)\/(i≠j/\owner[i]?=some (some k)):=λi k=>by
  rw[Array.getElem?_setIfInBounds]
  by_cases c:j=i
  ·subst c
   simp[hjs]
   exact eq_comm
  ·have c':¬i=j:=λh=>c h.symm
   simp[c,c']
 have old:∀(i k:Nat),owner[i]?=some (some k)->(owner.setIfInBounds j (some hs.length))[i]?=some (some k):=λi k e=>(at' i k).mpr (.inr ⟨λc=>hn (c▸⟨k,e⟩),e⟩)
 refine{size:=by simp[O.size],lt:=?_,all:=?_,inj:=?_,reach:=?_}
 ·intro i k e
  rw[Z0]
  rcases(at' i k).mp e with⟨_,c⟩|⟨_,c⟩
  ·simp[c]
  ·have:=O.lt i k c;simp;lia
 ·intro k hk
  rw[Z0,List.length_singleton] at hk
  by_cases c:k=hs.length
  ·exact ⟨j,(at' j k).mpr (.inl ⟨rfl,c⟩)⟩
  ·obtain ⟨i,e⟩:=O.all k ()
   exact⟨i,old i k e⟩
 ·intro i i' k e e'
  rcases(at' i k).mp e with⟨c1,c2⟩|⟨c1,c2⟩<;>rcases (at' i' k).mp e' with⟨d1,d2⟩|⟨d1,d2⟩
  ·lia
  ·have:=O.lt _ _ d2;lia
  ·have:=O.lt _ _ c2;lia
  ·exact O.inj _ _ _ c2 d2
 ·intro i k h' e eh
  rcases(at' i k).mp e with⟨c1,c2⟩|⟨c1,c2⟩
  ·subst c1;subst c2
   rw[L1 (L0 _)] at eh
   simp at eh
   subst eh
   exact⟨n,ej,λm hm=>let ⟨k,e⟩:=hf m hm;⟨k,old _ _ e⟩⟩
  ·have hk:=O.lt _ _ c2
   rw[N1 hk] at eh
   obtain⟨n',a,b⟩:=O.reach i k h' c2 eh
   exact⟨n',a,λm hm=>let ⟨k,e⟩:=b m hm;⟨k,old _ _ e⟩⟩
theorem zio{mask:Nat}(hm:zaE mask):∀(rest dn:List Int) (owner:Array (Option Nat)),OwnOk mask owner dn->(dn ++rest).length<=mask->∃owner',rest.foldl (λ(acc:Option (Array (Option Nat)×Nat)) h=>(do
 let(owner,k) ←acc
 let j ←SetTable.layClean.free mask owner (SetTable.turns mask) (SetTable.bits h%(mask+1)) (SetTable.bits h)
 pure (owner.setIfInBounds j (some k),k+1))) (some (owner,dn.length))=some (owner',(dn ++rest).length)/\OwnOk mask owner' (dn ++rest)
 |[],dn,owner,O,hl=>⟨owner,`j3,by simpa using O⟩
 |h::rest,dn,owner,O,hl=>by
  rw[Z0,Y1] at hl
  obtain⟨j,n,e,a,b,c,d⟩:=zoL hm O () h
  obtain⟨owner',e',O'⟩:=zio hm rest (dn ++ [h]) (owner.setIfInBounds j (some dn.length)) (O.add a b c d) (by simp;lia)
  refine⟨owner',?_,by simpa using O'⟩
  rw[List.foldl_cons]
  rw[show(dn ++h::rest)=dn ++ [h]++rest by simp]
  rw[←e']
  congr 1
  simp[e]
theorem OwnOk.nil(mask:Nat):OwnOk mask (Array.replicate (mask+1) none) []:=by
 have h0:∀(j k:Nat),(Array.replicate (mask+1) (none:Option Nat))[j]?=some (some k)->False:=λj k e=>by
  rw[Array.getElem?_replicate] at e
  split at e<;>simp at e
 exact{size:=`j3,lt:=λj k e=>(h0 j k e).elim,all:=λk hk=>by simp at hk,inj:=λ_ _ _ e=>(h0 _ _ e).elim,reach:=λ_ _ _ e=>(h0 _ _ e).elim}
theorem ziM{mask:Nat}(hm:zaE mask){hashes:Array Int}(hl:hashes.size<=mask):∃owner,SetTable.layClean mask hashes=some owner/\OwnOk mask owner hashes.toList:=by
 obtain⟨owner,e,O⟩:=zio hm hashes.toList [] _ (OwnOk.nil mask) (by simpa using hl)
 refine⟨owner,?_,by simpa using O⟩
 unfold SetTable.layClean
 rw[←Array.foldl_toList]
 rw[show(0:Nat)=([]:List Int).length from rfl]
 rw[e]
 rfl
theorem zgy{α:Type}:∀(l:List α),(List.range l.length).filterMap (l[·]?)=l
 |[]=>rfl
 |a::l=>by
  rw[Y1,List.range_succ_eq_map,List.filterMap_cons]
  simp only[List.getElem?_cons_zero,List.filterMap_map]
  congr 1
  exact(zgy l)
theorem ziH{t':SetTable}(e:t'.mask=t.mask)(h:Int)(n:Nat):zac t' h n=zac t h n:=by rw[zac,zdd e]
theorem ziA{mask:Nat}{led plain:Bool}(hm:zaE mask){es:Array (Int×Value)}(hl:es.size<=mask):
 ∃(t:SetTable) (order:Array Nat),SetTable.laid mask finger moves led plain (es.map (·.1))=some (t,order)/\t.mask=mask/\(order.filterMap (es[·]?)).toList.Perm es.toList/\LayT t ((order.filterMap (es[·]?)).toList.map (·.1))/\t.led=led/\t.plain=plain/\order.toList.Perm (List.range es.size):=by
 obtain⟨owner,eo,O⟩:=ziM hm (hashes:=es.map (·.1)) (by simpa using hl)
 generalize hL:(List.range (mask+1)).filterMap (λj=>(owner.getD j none).map (j,·))=live
 have hmem:∀(j k:Nat),(j,k)∈live↔owner[j]?=some (some k):=λj k=>by
  rw[←hL,List.mem_filterMap]
  constructor
  ·rintro ⟨i,hi,e⟩
   have hlt:i<owner.size:=by rw[O.size];exact E3.mp hi
   rw[show owner.getD i none=owner[i] by simp[Array.getD,hlt]] at e
   obtain⟨k',ek,e2⟩:=Option.map_eq_some_iff.mp e
   injection e2 with e3 e4
   subst e3;subst e4
   rw[Z1 hlt,ek]
  ·intro e
   have hlt:j<owner.size:=(Array.getElem?_eq_some_iff.mp e).1
   refine⟨j,E3.mpr (by rw[←O.size];exact hlt),?_⟩
   rw[show owner.getD j none=owner[j] by simp[Array.getD,hlt]]
   rw[Z1 hlt] at e
   have:owner[j]=some k:=by injection e
   rw[this];rfl
 have hpw:live.Pairwise (λa b=>a.1<b.1):=by
  rw[←hL]
  refine List.Pairwise.filterMap _ (λa a' h b hb b' hb'=>?_) List.pairwise_lt_range
  obtain⟨x,_,e⟩:=Option.map_eq_some_iff.mp hb
  obtain⟨x',_,e'⟩:=Option.map_eq_some_iff.mp hb'
  subst e;subst e';exact h
 have hsz:(es.map (·.1)).toList.length=es.size:=`j3
 have hnd:(live.map (·.2)).Nodup:=by
  show(live.map (·.2)).Pairwise (·≠·)
  rw[V2]
  refine hpw.imp_of_mem (λ{a b} ha hb h c=>?_)
  have e1:=(hmem a.1 a.2).mp ha
  have e2:=(hmem b.1 b.2).mp hb
  rw[←c] at e2
  have:=O.inj _ _ _ e1 e2
  lia
 have hperm:(live.map (·.2)).Perm (List.range es.size):=by
  refine(List.perm_ext_iff_of_nodup hnd List.nodup_range).mpr λk=>?_
  rw[E3,←hsz]
  constructor
  ·intro h
   obtain⟨q,hq,e⟩:=X0.mp h
   subst e
   exact O.lt _ _ ((hmem q.1 q.2).mp hq)
  ·intro h
   obtain⟨j,e⟩:=O.all k h
   exact X0.mpr ⟨(j,k),(hmem j k).mpr e,rfl⟩
 have hat:∀q∈live,∃e,es[q.2]?=some e/\zbO owner q.1/\owner[q.1]?=some (some q.2):=λq hq=>by
  have e:=(hmem q.1 q.2).mp hq
  have hk:=O.lt _ _ e
  rw[hsz] at hk
  exact⟨es[q.2],Z1 hk,⟨_,e⟩,e⟩
 have hfm:∀l:List (Nat×Nat),(∀q∈l,∃e,es[q.2]?=some e)->(l.map (·.2)).filterMap (es[·]?)=l.map (λq=>(es[q.2]?).getD (0, .none)):=λl=>by
  induction l with
  |nil=>intro _;rfl
  |cons q l ih=>
   intro h
   obtain⟨e,he⟩:=h q (.head _)
   rw[V1,V1,List.filterMap_cons,he]
   simp only[Option.getD_some]
   rw[ih λx hx=>h x (.tail _ hx)]
 refine⟨{mask:=mask,place:=(live.map (·.1)).toArray,dummies:= #[],finger:=finger,led:=led,moves:=moves,plain:=plain},(live.map (·.2)).toArray,?_,rfl,?_,?_,rfl,rfl,hperm⟩
 ·unfold SetTable.laid
  rw[eo]
  simp only[bind,Option.bind,pure]
  rw[hL]
 ·rw[Array.toList_filterMap]
  have h1:=hperm.filterMap (λi=>es.toList[i]?)
  rw[show es.size=es.toList.length by simp,zgy] at h1
  simpa using h1
 ·have e1:(((live.map (·.2)).toArray.filterMap (es[·]?)).toList.map (·.1))=live.map (λq=>((es[q.2]?).getD (0, .none)).1):=by
   rw[Array.toList_filterMap]
   show(((live.map (·.2))).filterMap (es[·]?)).map (·.1)=_
   rw[hfm live (λq hq=>let ⟨e,h,_⟩:=hat q hq;⟨e,h⟩),G3]
   rfl
  rw[e1]
  refine{size:=`j3,rise:=?_,bnd:=?_,dum:=rfl,mask:=hm,reach:=?_}
  ·show (live.map (·.1)).Pairwise (·<·)
   rw[V2];exact hpw
  ·intro j hj
   obtain⟨q,hq,e⟩:=X0.mp (show j∈live.map (·.1)from hj)
   subst e
   obtain⟨_,_,_,eo'⟩:=hat q hq
   have hlt:q.1<owner.size:=(Array.getElem?_eq_some_iff.mp eo').1
   rw[O.size] at hlt
   show q.1<=mask
   lia
  ·intro p hp
   have hp':p∈(live.map (·.1)).zip (live.map (λq=>((es[q.2]?).getD (0, .none)).1)):=hp
   rw[List.zip_map'] at hp'
   obtain⟨q,hq,e⟩:=X0.mp hp'
   subst e
   obtain⟨x,ex,_,eo'⟩:=hat q hq
   obtain⟨n,a,b⟩:=O.reach q.1 q.2 x.1 eo' (by
    rw[Array.toList_map,N0,Array.getElem?_toList,ex];rfl)
   show Reach _ (((es[q.2]?).getD (0, .none)).1) q.1
   rw[ex]
   refine⟨n,(ziH (t:=tM mask) ?_ x.1 n).trans a,λm hm'=>?_⟩
   ·rfl
   ·obtain ⟨k,e⟩:=b m hm'
    rw[←ziH (t:=tM mask) (t':={mask:=mask,place:=(live.map (·.1)).toArray,dummies:= #[],finger:=finger,led:=led,moves:=moves,plain:=plain}) rfl x.1 m] at e
    exact X0.mpr ⟨(_,k),(hmem _ k).mpr e,rfl⟩
theorem zkD{mask:Nat}{led plain:Bool}(hm:zaE mask){es:Array (Int×Value)}(hl:es.size<=mask):
 ∃(t:SetTable) (order:Array Nat),SetTable.laid mask finger moves led plain (es.map (·.1))=some (t,order)/\t.mask=mask/\(order.filterMap (es[·]?)).toList.Perm es.toList/\LayT t ((order.filterMap (es[·]?)).toList.map (·.1))/\t.led=led/\t.plain=plain:=by
 obtain⟨t,o,e1,e2,e3,e4,e5,e6,_⟩:=ziA (finger:=finger) (moves:=moves) (led:=led) (plain:=plain) hm hl
 exact⟨t,o,e1,e2,e3,e4,e5,e6⟩
section
noncomputable abbrev zfo:=List Str
abbrev ztM(prog:Program)(w:World)(h:Heap)(k:zfo)(a:Addr):Prop:=IsTupleKey (PySem.strKind prog w) h k a
noncomputable abbrev zjy(prog:Program)(w:World)(k:zfo):Int:=tupleKeyHash (PySem.strKind prog w) k
noncomputable def zav(w:World):Bool:=w.params.followText "set-order"
noncomputable def zqz(prog:Program)(w:World)(x:zfo×Addr):Int×Value:=(zjy prog w x.1, .ref x.2)
structure TkSet(prog:Program)(w:World)(h:Heap)(o:Obj)(es:Array (Int×Value))(ep:Nat)(t:SetTable)(xs:List (zfo×Addr)):Prop where
 ex:o.ExactSet
 dat:o.data= .set es ep t
 ents:es.toList=xs.map (zqz prog w)
 lay:LayT t (xs.map λx=>zjy prog w x.1)
 few:xs.length*5<t.mask*3
 led:t.led=!zav w
 plain:xs≠ []->t.plain=false
 nd:(xs.map (·.1)).Nodup
 is:∀x∈xs,ztM prog w h x.1 x.2/\x.1≠ []
variable{o:Obj}{es:Array (Int×Value)}{xs:List (zfo×Addr)}{k:zfo}
end
theorem zaT{f:α->β}{l l':List β}(p:l.Perm l'):∀xs:List α,l'=xs.map f->∃ys:List α,ys.Perm xs/\l=ys.map f:=by
 induction p with
 |nil=>intro xs e;exact⟨xs, .refl _,e⟩
 |cons x p ih=>
  intro xs e
  cases xs with
  |nil=>exact absurd e `j3
  |cons a xs=>
   rw[V1] at e
   injection e with e1 e2
   obtain⟨ys,py,ey⟩:=ih xs e2
   exact⟨a::ys,py.cons a,by rw[V1,e1,ey]⟩
 |swap x y l=>
  intro xs e
  match xs,e with
  |[],e=>exact absurd e `j3
  |[a],e=>exact absurd e `j3
  |a::b::xs,e=>
   rw[V1,V1] at e
   injection e with e1 e2
   injection e2 with e2 e3
   exact⟨b::a::xs, .swap _ _ _,by rw[V1,V1,e1,e2,e3]⟩
 |trans p1 p2 ih1 ih2=>
  intro xs e
  obtain⟨ys,py,ey⟩:=ih2 xs e
  obtain⟨zs,pz,ez⟩:=ih1 ys ey
  exact⟨zs,pz.trans py,ez⟩
theorem LayT.same{t':SetTable}{hs:List Int}(L:LayT t hs)(em:t'.mask=t.mask)(ep:t'.place=t.place)(ed:t'.dummies=t.dummies):LayT t' hs:=
 {size:=by rw[ep];exact L.size,rise:=by rw[ep];exact L.rise,bnd:=by rw[ep,em];exact L.bnd,dum:=by rw[ed];exact L.dum,mask:=by rw[em];exact L.mask,
  reach:=λp hp=>(L.reach p (by rw[←ep];exact hp)).grow em (λk hk=>by rw[ep];exact hk)}
section
variable{o:Obj}{es:Array (Int×Value)}{xs:List (zfo×Addr)}{k:zfo}
theorem znV(S:Addr)(wanted:Nat):setRelay S wanted=(do
 let(es,_,t) ←setState S
 if SetTable.sizeAbove wanted>sizeLine then unsupported "set:memory"
 let(es,t) ←(do
  let some (t,order):=t.relaid (es.map (·.1)) wanted|unsupported "internal:set-table-without-room"
  let es':=order.filterMap (es[·]?)
  if es'.size !=es.size then unsupported "internal:set-table-lost-an-element"
  pure (es',t))
 storeSet S es t):=rfl
theorem zhL(ho:h.get? S=some o)(hd:o.data= .set es ep t)(es':Array (Int×Value))(t':SetTable):(h.update S (Obj.putSet es' t')).get? S=some {o with data:= .set es' (ep+1) t'}:=by
 have:=Heap.get?_update_self (Obj.putSet es' t') ho (by rw[putSet_of es' t' hd];rfl)
 rw[putSet_of es' t' hd] at this;exact this
end
section
variable{P:Nat->Value->Prop}{St:Nat->Heap->Prop}
end
noncomputable abbrev siR:List Char:=['r','o','t','a','r','e','t','i','_','t','e','s']
theorem zmj:Manifest.owners.lookup (String.ofList siR.reverse)=some Manifest.sig_set_iterator:=by kernel_rfl
theorem zbU:Slot "set_iterator" "__next__" "set_iterator.__next__":= .of (owner:="set_iterator") (n:="__next__") (by rw[typeLookup_type,builtinLookup_eq_fast];kernel_rfl) `Z3 `Z3 `Z3 (by first|exact .inl `Z3|exact .inr `Z3) (by rw[isSubtype_type];kernel_rfl)
theorem zjK:entryFor table "set_iterator.__next__"=some Builtin.«set_iterator.__next__»:=entryFor_of_tree (by kernel_rfl)
theorem zjS(a:Value):argsOk "set_iterator.__next__" ⟨[a],[]⟩:=by
 unfold argsOk;rw[signature?_of (id:="set_iterator.__next__") (n:="__txen__".toList) (o:=siR) (by kernel_rfl) zmj];kernel_rfl
theorem znp:entryFor table "set.__iter__"=some Builtin.«frozenset.__iter__»:=entryFor_alias (id':="frozenset.__iter__") (by kernel_rfl) (by first|rfl|decide +kernel) `Z3 (by kernel_rfl)
theorem zi6:Slot "set_iterator" "__iter__" "set_iterator.__iter__":= .of (owner:="set_iterator") (n:="__iter__") (by rw[typeLookup_type,builtinLookup_eq_fast];kernel_rfl) `Z3 `Z3 `Z3 (by first|exact .inl `Z3|exact .inr `Z3) (by rw[isSubtype_type];kernel_rfl)
theorem zo5:entryFor table "set_iterator.__iter__"=some Builtin.«dict_keyiterator.__iter__»:=entryFor_alias (id':="dict_keyiterator.__iter__") (by kernel_rfl) rfl `Z3 (by kernel_rfl)
theorem zqj(a:Value):argsOk "set_iterator.__iter__" ⟨[a],[]⟩:=by
 unfold argsOk;rw[signature?_of (id:="set_iterator.__iter__") (n:="__reti__".toList) (o:=siR) (by kernel_rfl) zmj];kernel_rfl
theorem zqk{src:Source}(hn:n≠0){Q:Nat->Shared->Prop}(h:∀i,i<n->∀d,Q i {s with drawn:=d}):wpAny `Y3 A (choose src n) Q E s:=λΓ p _=>by
 unfold choose
 rw[Sem.wp_choose]
 exact⟨hn,h _ (Nat.mod_lt _ (Nat.pos_of_ne_zero hn)) _⟩
theorem zdK{α:Type}:∀{xs:List α} {i:Nat} {x:α},xs[i]?=some x->(x::xs.eraseIdx i).Perm xs
 |[],_,_,h=>by cases h
 |y::xs,0,x,h=>by cases h;exact .refl _
 |y::xs,i+1,x,h=>by
  rw[List.eraseIdx_cons_succ]
  exact(List.Perm.swap _ _ _).trans ((zdK (xs:=xs) (i:=i) h).cons y)
theorem zf0{α:Type}:∀(n:Nat) (xs:List α) (s:Shared) (Q:List α->Shared->Prop),n=xs.length->(∀ys d,ys.Perm xs->Q ys {s with drawn:=d})->wpAny `Y3 A (drawOrder n xs) Q E s
 |0,xs,s,Q,hn,h=>by
  have:xs=[]:=List.length_eq_zero_iff.mp hn.symm
  subst this
  unfold drawOrder
  exact F0 (h [] s.drawn (.refl _))
 |n+1,[],s,Q,hn,h=>by cases hn
 |n+1,x::xs,s,Q,hn,h=>by
  unfold drawOrder
  refine A0 (zqk `j3 λi hi d=>?_)
  obtain⟨z,hz⟩:∃z,(x::xs)[i]?=some z:=⟨_,D0 hi⟩
  rw[hz]
  have pe:=zdK hz
  refine A0 (zf0 n _ _ _ ?_ λys d' hp=>?_)
  ·have:=pe.length_eq;simp only[Y1] at this hn⊢;lia
  ·exact F0 (h (z::ys) d' ((hp.cons z).trans pe))
theorem zlj{α:Type}{f:Nat->Nat}:∀(fuel k:Nat) (left:List α) (out:Array α),left.length<=fuel->(pickOrder.go f fuel k left out).toList.Perm (out.toList ++left)
 |0,k,left,out,h=>by
  have:left=[]:=List.length_eq_zero_iff.mp ()
  subst this
  unfold pickOrder.go
  simp
 |fuel+1,k,left,out,h=>by
  unfold pickOrder.go
  cases hl:left[f k%left.length]? with
  |none=>
   have:left=[]:=by
    cases left with
    |nil=>rfl
    |cons a l=>exact absurd hl (by rw[D0 (Nat.mod_lt _ `j3)];simp)
   subst this
   simp
  |some x=>
   dsimp only
   have pe:=zdK hl
   refine(zlj fuel (k+1) _ _ (by have:=pe.length_eq;simp only[Y1] at this;lia)).trans ?_
   rw[Array.toList_push,List.append_assoc]
   exact List.Perm.append_left _ pe
theorem zen{f:Nat->Nat}(xs:Array α):(pickOrder f xs).toList.Perm xs.toList:=by
 unfold pickOrder
 have:=zlj (f:=f) xs.size 0 xs.toList #[] `j3
 simpa using this
section
variable{oS:Obj}{es:Array (Int×Value)}
def IsSi(h:Heap)(I:Addr)(f:Value)(i:Nat)(S:Addr)(n ep:Nat):Prop:=∃o,h.get? I=some o/\o.cls= .type "set_iterator"/\o.data= .fields #[f, .int i 0, .ref S, .int n 0, .int ep 0]
theorem IsSi.at{f:Value}(y:IsSi h I f i S n ep)(e:∀o,h.get? I=some o->h'.get? I=some o):IsSi h' I f i S n ep:=let⟨o,ho,r⟩:=y;⟨o,e _ ho,r⟩
theorem IsSi.ty{f:Value}(y:IsSi s.heap I f i S n ep):s.TypeIs (.ref I) "set_iterator":=let⟨o,ho,hc,_⟩:=y;⟨o,ho,hc⟩
theorem IsSi.set{f f':Value}{i':Nat}(y:IsSi h I f i S n ep){v:Value}(hk:(#[f, .int i 0, .ref S, .int n 0, .int ep 0]:Array Value).setIfInBounds k v= #[f', .int i' 0, .ref S, .int n 0, .int ep 0]):IsSi (h.update I (Obj.mapFields (·.setIfInBounds k v))) I f' i' S n ep:=by
 obtain⟨o,ho,hc,hd⟩:=y
 exact⟨_,Heap.get?_update_self _ ho (Obj.isFreed_of_fields (Obj.data_mapFields hd _)),(Obj.cls_mapFields ..).trans hc,by rw[Obj.data_mapFields hd];rw[hk]⟩
theorem zg7{f:Value}(y:IsSi s.heap I f i S n ep)(h:Q (.ref I) s):wpAny `Y3 A (pyIter (.ref I)) Q E s:=by
 refine wpAny_pyIter_slot y.ty zi6 (G2 zi6 y.ty zo5 ?_ (zqj _))
 show wpAny _ _ (ret (.ref I)) _ _ s
 exact F0 ⟨_,rfl,"set_iterator",_,y.ty,zbU.lookup,h⟩
theorem zks{R:Option Value->Shared->Prop}{f:Value}{i k:Nat}(hh:A.handled=none)(y:IsSi s.heap I f i S n ep){h1:Heap}(hb:Heap.SameBut I s.heap h1)(q:∀h',Heap.ExtBut I s.heap h'->R none {s with heap:=h'}):
 wpAny `Y3 A.in1 (newExc (.type "StopIteration") []>>=raiseNew) (λ(fin:PySem.Fin) s'=>False) (λe s'=>wpAny `Y3 A (isInstance e (.type "StopIteration")>>=λb=>if b=true then pure none else throw e) R E s') {s with heap:=h1}:=by
 refine A0 (by
  simp only[newExc,newTuple]
  refine A0 (j1 (A0 (m:=firstArgMember _ _) (wpAny_of_eq (a:=Value.none) (by first|rfl|(simp only[firstArgMember];rfl)) (j1 ?_ (by size_fits)))) (by size_fits))
  simp only[raiseNew]
  refine A0 (wpAny_handled ?_)
  rw[show A.in1.handled=none from hh]
  refine A0 (F0 (wpAny_throw ?_));refine A0 (wpAny_isInstance (T:="StopIteration") (b:=true) ⟨_,T0 _ rfl,rfl⟩ isSubtype_stop ?_)
  exact F0 (q _ ((hb.extBut.push _).push _)))
theorem zc9{Q:Bool->Shared->Prop}(q:Q (zav w) s):wpAny `Y3 A setsByText Q E s:=by
 unfold setsByText
 exact A0 (wpAny_askSetting (F0 q))
theorem zoB(ho:s.heap.get? S=some oS)(hd:oS.data= .set es ep t)(hf:t.fits es.size=true)(hb:zav w=true){given:Nat}{Q:Option (Value×Nat)->Shared->Prop}(q:Q (((pickOrder (w.params.setOrder S ep) es)[given]?).map λe=>(e.2,slot)) s):
 wpAny `Y3 A (setNext S slot given ep) Q E s:=by
 unfold setNext
 refine A0 (Q2 ho hd hf (A0 (zc9 ?_)))
 rw[hb,c0 rfl]
 rw[P0 `j3]
 refine A0 ?_
 unfold setWalk
 refine A0 (Q2 ho hd hf (A0 (zc9 ?_)))
 rw[hb,c0 rfl]
 exact A0 (wpAny_askSetting (F0 (F0 q)))
theorem znu(ho:s.heap.get? S=some oS)(hd:oS.data= .set es ep t)(hf:t.fits es.size=true)(hb:zav w=false)(h1:es.size<=1)(hl:t.led=true){given:Nat}{Q:Option (Value×Nat)->Shared->Prop}
 (q:Q (match es[SetTable.below t.place slot]?,t.place[SetTable.below t.place slot]? with|some (_,x),some j=>some (x,j+1)|_,_=>none) s):
 wpAny `Y3 A (setNext S slot given ep) Q E s:=by
 unfold setNext
 refine A0 (Q2 ho hd hf (A0 (zc9 ?_)))
 rw[hb,P0 ⋯]
 rw[P0 (λh=>by
  have h:(!t.plain&&decide (es.size>1))=true:=h
  rw[A1 (),Bool.and_false] at h;cases h)]
 refine A0 (show wpAny `Y3 A (if(!t.led&&!es.isEmpty)=true then unsupported "set:maker-not-led"else pure Unit.unit) _ _ _ from ?_)
 rw[P0 (by rw[hl];simp)]
 exact F0 (F0 q)
theorem zrK(ho:s.heap.get? S=some oS)(hd:oS.data= .set es ep t)(hf:t.fits es.size=true){place:Nat}{x:Int×Value}(hx:es[place]?=some x)(q:Q x.2 s):
 wpAny `Y3 A (setNextDrawn S place ep) Q E s:=by
 unfold setNextDrawn
 refine A0 (Q2 ho hd hf ?_)
 refine wpAny_ite_split (λz=>by simp at z) (λ_=>?_)
 rw[hx]
 exact F0 q
theorem zkZ{f:Value}{R:Option Value->Shared->Prop}(y:IsSi s.heap I f i S n ep)(ho:s.heap.get? S=some oS)(hd:oS.data= .set es ep t)(hf:t.fits es.size=true)(hn:es.size=n){slot:Int}{u:Tok}(ef:f= .int slot u)
 (h:wpAny `Y3 A.in1 (setNext S slot.toNat i ep) (λr s1=>s1=s/\match r with
   |some (x,next)=>∀h',IsSi h' I (.int next 0) (i+1) S n ep->Heap.SameBut I s.heap h'->R (some x) {s with heap:=h'}
   |none=>A.handled=none/\∀h',Heap.ExtBut I s.heap h'->R none {s with heap:=h'}) (λ_ _=>False) s):wpAny `Y3 A (pyNext (.ref I)) R E s:=by
 subst ef
 obtain⟨o,hoI,hc,hdI⟩:=id y
 unfold pyNext
 refine A0 (wpAny_attempt (Y2 (name:=Str.ofString "__next__") y.ty zbU (G2 zbU y.ty zjK ?_ (zjS _))))
 unfold Builtin.«set_iterator.__next__»
 refine A0 (F0 (A0 (wpAny_fieldsOf hoI hdI (A0 (wpAny_setEntries_of ho hd hf ?_)))))
 refine wpAny_ite_split (λz=>by rw[hn] at z;simp at z) (λ_=>?_)
 refine A0 (K1 h ?_ λ_ _ z=>z.elim)
 rintro r s1 ⟨rfl,hr⟩
 cases r with
 |some xn=>
  obtain⟨x,next⟩:=xn
  dsimp only at hr
  show wpAny _ _ (setField (.ref I) 0 (rawInt next)>>=_) _ _ _
  refine A0 (wpAny_setField hoI hdI `j3 ?_)
  have y1:IsSi (s1.heap.update I (Obj.mapFields (·.setIfInBounds 0 (rawInt next)))) I (.int next 0) i S n ep:=y.set rfl
  obtain⟨o1,ho1,hc1,hd1⟩:=id y1
  refine A0 (wpAny_setField (s:={s1 with heap:=s1.heap.update I (Obj.mapFields (·.setIfInBounds 0 (rawInt next)))}) ho1 hd1 `j3 ?_)
  refine F0 ⟨_,rfl,F0 (hr _ ?_ ?_)⟩
  ·exact y1.set (by simp[rawInt])
  ·exact (K2 ..).trans (K2 ..)
 |none=>
  obtain⟨hh,hr⟩:=hr
  refine A0 (wpAny_setField hoI hdI `j3 ?_)
  exact K1 (zks (R:=R) (k:=0) hh y (K2 ..) hr) (λfin s' z=>z.elim) λe s' z=>z
theorem zsd(hh:A.handled=none)(hIS:S≠I)(hd:oS.data= .set es ep t)(hf:t.fits es.size=true)(hn:es.size=n)(hb:zav w=true):
 Walks prog w A I [I,S] [I] n (λi v=>((pickOrder (w.params.setOrder S ep) es).toList.map (·.2))[i]?=some v) (λi h=>IsSi h I (.int 0 0) i S n ep/\h.get? S=some oS):=by
 have sz:(pickOrder (w.params.setOrder S ep) es).toList.length=n:=by rw[(zen es).length_eq];simpa using hn
 refine⟨λb hb=>by simp at hb;simp[hb],λi h h' st hk=>⟨st.1.at λo e=>hk I `j3 o e,hk S `j3 _ st.2⟩,λi s Q E hi st hQ=>?_,λs Q E st hQ=>?_,λi s Q E st hQ=>zg7 st.1 hQ⟩
 ·obtain ⟨e,he⟩:∃e,(pickOrder (w.params.setOrder S ep) es)[i]?=some e:=⟨_,Z1 (by rw[←C1];lia)⟩
  refine zkZ (slot:=((0:Nat):Int)) (u:=0) st.1 st.2 hd hf hn rfl (zoB st.2 hd hf hb ⟨rfl,?_⟩)
  rw[he]
  intro h' y' hs
  refine hQ _ h' s.toks ?_ ⟨y',hs.extBut S _ hIS st.2⟩ λb o hb e=>hs.extBut b o (λh=>hb (by simp[h])) e
  rw[N0,Array.getElem?_toList,he];rfl
 ·refine zkZ (slot:=((0:Nat):Int)) (u:=0) st.1 st.2 hd hf hn rfl (zoB st.2 hd hf hb ⟨rfl,?_⟩)
  rw[Array.getElem?_eq_none (by rw[←C1];lia)]
  exact⟨hh,λh' he=>hQ h' s.toks λb o hb e=>he b o (λh=>hb (by simp[h])) e⟩
theorem zrD(hh:A.handled=none)(hIS:S≠I)(hd:oS.data= .set es ep t)(hf:t.fits es.size=true)(hn:es.size=n)(hb:zav w=false)(h1:n<=1)(hl:t.led=true)(hr:Rise t.place)(hz:t.place.size=n):
 Walks prog w A I [I,S] [I] n (λi v=>(es.toList.map (·.2))[i]?=some v) (λi h=>(∃slot:Nat,IsSi h I (.int slot 0) i S n ep/\((i=0/\slot=0)\/(i=1/\SetTable.below t.place slot=1)))/\h.get? S=some oS):=by
 refine⟨λb hb=>by simp at hb;simp[hb],λi h h' st hk=>⟨let⟨sl,y,z⟩:=st.1;⟨sl,y.at λo e=>hk I `j3 o e,z⟩,hk S `j3 _ st.2⟩,λi s Q E hi st hQ=>?_,λs Q E st hQ=>?_,λi s Q E st hQ=>let ⟨sl,y,z⟩:=st.1;zg7 y hQ⟩
 ·obtain ⟨⟨slot,y,hs⟩,hS⟩:=st
  have hn1:n=1:=()
  rcases hs with⟨rfl,rfl⟩|⟨rfl,_⟩
  ·have hp0:0<t.place.size:=()
   have b0:SetTable.below t.place 0=0:=by
    obtain⟨q1,q2,q3⟩:=zcy (j:=0) hr
    rcases Nat.eq_zero_or_pos (SetTable.below t.place 0)with z|z
    ·exact z
    ·exact absurd (q2 0 hp0 z) ()
   refine zkZ (slot:=((0:Nat):Int)) (u:=0) y hS hd hf hn rfl (znu hS hd hf hb () hl ⟨rfl,?_⟩)
   rw[show((0:Nat):Int).toNat=0 from rfl,b0,Z1 (show 0<es.size by lia),Z1 hp0]
   dsimp only
   intro h' y' hs
   refine hQ _ h' s.toks ?_ ⟨⟨_,y', .inr ⟨rfl,?_⟩⟩,hs.extBut S _ hIS hS⟩ λb o hb e=>hs.extBut b o (λh=>hb (by simp[h])) e
   ·rw[N0,Array.getElem?_toList,Z1 (show 0<es.size by lia)];rfl
   ·obtain ⟨q1,q2,q3⟩:=zcy (j:=t.place[0]+1) hr
    have:SetTable.below t.place (t.place[0]+1)≠0:=λz=>by
     have:=q3 0 hp0 ();lia
    lia
  ·lia
 ·obtain ⟨⟨slot,y,hs⟩,hS⟩:=st
  refine zkZ (slot:=(slot:Int)) (u:=0) y hS hd hf hn rfl (znu hS hd hf hb () hl ⟨rfl,?_⟩)
  have:n<=SetTable.below t.place slot:=by
   rcases hs with⟨z,rfl⟩|⟨z,e⟩
   ·lia
   ·lia
  rw[L3,Array.getElem?_eq_none (show es.size<=_ by lia)]
  exact⟨hh,λh' he=>hQ h' s.toks λb o hb e=>he b o (λh=>hb (by simp[h])) e⟩
def ztl(h:Heap)(tp:Addr)(pl:List Nat):Prop:=∃o n,h.get? tp=some o/\o.cls= .type "tuple"/\o.data= .seq (pl.map λ(i:Nat)=>Value.int i 0).toArray n
theorem zrX{tp:Addr}{pl:List Nat}(hh:A.handled=none)(hIS:S≠I)(hIt:tp≠I)(hd:oS.data= .set es ep t)(hf:t.fits es.size=true)(hn:es.size=n)(hp:pl.Perm (List.range n)):
 Walks prog w A I [I,tp,S] [I] n (λi v=>(pl.map λk=>(es.getD k (0, .none)).2)[i]?=some v) (λi h=>IsSi h I (.ref tp) i S n ep/\ztl h tp pl/\h.get? S=some oS):=by
 have lp:pl.length=n:=by rw[hp.length_eq,List.length_range]
 refine⟨λb hb=>by simp at hb;simp[hb],λi h h' st hk=>⟨st.1.at λo e=>hk I `j3 o e,let⟨o,m,e,r⟩:=st.2.1;⟨o,m,hk tp `j3 o e,r⟩,hk S `j3 _ st.2.2⟩,λi s Q E hi st hQ=>?_,λs Q E st hQ=>?_,λi s Q E st hQ=>zg7 st.1 hQ⟩
 ·obtain ⟨y,⟨ot,m,hot,hct,hdt⟩,hS⟩:=st
  obtain⟨o,hoI,hc,hdI⟩:=id y
  obtain⟨k,ek⟩:∃k,pl[i]?=some k:=⟨_,D0 ()⟩
  have hk:k<es.size:=by rw[hn];exact E3.mp (hp.mem_iff.mp (B1 ek))
  unfold pyNext
  refine A0 (wpAny_attempt (Y2 (name:=Str.ofString "__next__") y.ty zbU (G2 zbU y.ty zjK ?_ (zjS _))))
  unfold Builtin.«set_iterator.__next__»
  refine A0 (F0 (A0 (wpAny_fieldsOf hoI hdI (A0 (wpAny_setEntries_of hS hd hf ?_)))))
  refine wpAny_ite_split (λz=>by rw[hn] at z;simp at z) (λ_=>?_)
  refine A0 (wpAny_seqItems hot hdt ?_)
  have eg:((pl.map λ(i:Nat)=>Value.int i 0).toArray)[((i:Int)).toNat]?=some (.int (k:Int) 0):=by rw[L3,List.getElem?_toArray,N0,ek];rfl
  dsimp only
  rw[eg]
  refine A0 (zrK (place:=((k:Int)).toNat) hS hd hf (x:=es[k]) (by rw[L3];exact Z1 hk) ?_)
  refine A0 (wpAny_setField hoI hdI `j3 ?_)
  refine F0 ⟨_,rfl,F0 (hQ _ _ s.toks ?_ ⟨y.set (by simp[rawInt]),⟨ot,m,?_,hct,hdt⟩,?_⟩ λb o' hb e=>?_)⟩
  ·rw[N0,ek];simp[hk]
  ·exact (K2 s.heap I _).extBut tp _ hIt hot
  ·exact (K2 s.heap I _).extBut S _ hIS hS
  ·exact (K2 s.heap I _).extBut b o' (λh=>hb (by simp[h])) e
 ·obtain ⟨y,⟨ot,m,hot,hct,hdt⟩,hS⟩:=st
  obtain⟨o,hoI,hc,hdI⟩:=id y
  unfold pyNext
  refine A0 (wpAny_attempt (Y2 (name:=Str.ofString "__next__") y.ty zbU (G2 zbU y.ty zjK ?_ (zjS _))))
  unfold Builtin.«set_iterator.__next__»
  refine A0 (F0 (A0 (wpAny_fieldsOf hoI hdI (A0 (wpAny_setEntries_of hS hd hf ?_)))))
  refine wpAny_ite_split (λz=>by rw[hn] at z;simp at z) (λ_=>?_)
  refine A0 (wpAny_seqItems hot hdt ?_)
  have eg:((pl.map λ(i:Nat)=>Value.int i 0).toArray)[((n:Int)).toNat]?=none:=by rw[L3,List.getElem?_toArray,I0 (by rw[C0];lia)]
  dsimp only
  rw[eg]
  refine A0 (wpAny_setField hoI hdI `j3 ?_)
  have y1:IsSi (s.heap.update I (Obj.mapFields (·.setIfInBounds 0 (rawInt 0)))) I (.int 0 0) n S n ep:=y.set rfl
  obtain⟨o1,ho1,hc1,hd1⟩:=id y1
  refine A0 (wpAny_setField (s:={s with heap:=s.heap.update I (Obj.mapFields (·.setIfInBounds 0 (rawInt 0)))}) ho1 hd1 `j3 ?_)
  refine K1 (zks (R:=Q) (k:=0) hh y ((K2 ..).trans (K2 ..)) λh' he=>hQ h' s.toks λb o hb e=>he b o (λh=>hb (by simp[h])) e) (λfin s' z=>z.elim) λe s' z=>z
end
structure SRaw{α:Type}(w:World)(ent:α->Int×Value)(o:Obj)(es:Array (Int×Value))(ep:Nat)(t:SetTable)(xs:List α):Prop where
 ex:o.ExactSet
 dat:o.data= .set es ep t
 ents:es.toList=xs.map ent
 fits:t.fits es.size=true
 led:t.led=!zav w
 plain:xs≠ []->t.plain=false
 rise:Rise t.place
section
variable[Inhabited α]{ent:α->Int×Value}{o:Obj}{es:Array (Int×Value)}{xs:List α}
omit [Inhabited α] in
theorem SRaw.size(T:SRaw w ent o es ep t xs):es.size=xs.length:=by rw[←C1,T.ents,C0]
omit [Inhabited α] in
theorem SRaw.psize(T:SRaw w ent o es ep t xs):t.place.size=xs.length:=by
 have:=T.fits
 simp only[SetTable.fits,E1,beq_iff_eq] at this
 rw[this.1,T.size]
def zoU(ent:α->Int×Value)(ys:List α)(i:Nat)(v:Value):Prop:=∃y,ys[i]?=some y/\v=(ent y).2
theorem zdF{P P':Nat->Value->Prop}{St:Nat->Heap->Prop}(W:Walks prog w A I fp wr n P St)(h:∀i v,i<n->P i v->P' i v):Walks prog w A I fp wr n P' St:=
 ⟨W.sub,W.frame,λi s Q E hi st hQ=>W.item i s Q E hi st λv h' tk p st' k=>hQ v h' tk (h i v hi p) st' k,W.done,W.self⟩
theorem zl0(B:Around)(hB:B.handled=none)(ho:s.heap.get? S=some o)(T:SRaw w ent o es ep t xs)(hz:xs.length<=1000)
 (q:∀(h':Heap) (I:Addr) (d:_) (fp:List Addr) (St:Nat->Heap->Prop) (ys:List α),ys.Perm xs->s.heap.objs.size<=I->(∀b o,s.heap.get? b=some o->h'.get? b=some o)->(∀b∈fp,b=S\/s.heap.objs.size<=b)->
   (∀b∈fp,b<h'.objs.size)->Walks prog w B I fp [I] xs.length (zoU ent ys) St->St 0 h'->Q (.ref I) {s with heap:=h',drawn:=d}):wpAny `Y3 A (pyIter (.ref S)) Q E s:=by
 have ty:s.TypeIs (.ref S) "set":=⟨o,ho,T.ex.1⟩
 have Slt:S<s.heap.objs.size:=W0 ho
 have hf:=T.fits
 have hs:=T.size
 refine wpAny_pyIter_slot ty F.slot_set_iter (G2 F.slot_set_iter ty znp ?_ (F.args_set_iter_1 _))
 unfold Builtin.«frozenset.__iter__»
 refine A0 (A0 (F0 (F0 ?_)))
 refine A0 (A0 (wpAny_setEntries_of ho T.dat hf (F0 ?_)))
 have fin:∀(h1:Heap) (d:_) (f:Value),(∀b o,s.heap.get? b=some o->h1.get? b=some o)->Q (.ref h1.objs.size) {s with heap:=h1.push {cls:= .type "set_iterator",data:= .fields #[f, .int 0 0, .ref S, .int xs.length 0, .int ep 0]},drawn:=d}->
  wpAny `Y3 A.in1 (setEpoch S>>=λe=>newFields "set_iterator" [f,rawInt 0, .ref S,rawInt es.size,rawInt e]>>=λv=>ret v) (λfin s'=>∃v,fin=Fin.done (.ret v)/\∃T' r,s'.TypeIs v T'/\typeLookup (.type T') "__next__"=pure (some r)/\Q v s') E {s with heap:=h1,drawn:=d}:=λh1 d f kp q'=>by
  unfold setEpoch
  refine A0 (A0 (Q2 (s:={s with heap:=h1,drawn:=d}) (kp _ _ ho) T.dat hf (F0 ?_)))
  unfold newFields
  refine A0 (j1 (F0 ⟨_,rfl,"set_iterator",_,⟨_,T0 _ rfl,rfl⟩,zbU.lookup,?_⟩))
  rw[hs]
  exact q'
 have siAt:∀(h1:Heap) (f:Value),IsSi (h1.push {cls:= .type "set_iterator",data:= .fields #[f, .int 0 0, .ref S, .int xs.length 0, .int ep 0]}) h1.objs.size f 0 S xs.length ep:=λh1 f=>⟨_,T0 _ rfl,rfl,rfl⟩
 unfold setDrawn
 refine A0 (A0 (Q2 ho T.dat hf (A0 (zc9 (F0 ?_)))))
 by_cases hb:zav w=true
 ·rw[hb]
  rw[P0 `j3]
  refine A0 (F0 ?_)
  obtain⟨ys,py,ey⟩:=zaT (f:=ent) ((zen (f:=w.params.setOrder S ep) es).trans (by rw[T.ents])) xs rfl
  refine fin s.heap s.drawn (rawInt 0) (λb o e=>e) (q _ _ _ [s.heap.objs.size,S] _ ys py (L0 _) (λb o e=>G0 _ e) (λb hb=>?_) (λb hb=>?_) (zdF (zsd hB (P1 Slt) T.dat hf hs hb) λi v _ p=>?_) ⟨siAt _ _,G0 _ ho⟩)
  ·rcases R0.mp hb with h|h
   ·exact .inr (Nat.le_of_eq h.symm)
   ·exact .inl (K0.mp h)
  ·rw[Heap.size_push];rcases R0.mp hb with h|h
   ·rw[h];exact Nat.lt_succ_self _
   ·rw[K0.mp h];exact Nat.lt_succ_of_lt Slt
  ·rw[ey,G3,N0] at p
   cases e:ys[i]? with
   |none=>rw[e] at p;cases p
   |some y=>rw[e] at p;exact⟨y,e,(o0 p).symm⟩
 ·have hb:zav w=false:=by simpa using hb
  rw[hb]
  by_cases h1:xs.length<=1
  ·rw[P0 (λh=>by
    have h:(!false&&(!t.plain&&decide (es.size>1)))=true:=h
    rw[A1 (),Bool.and_false,Bool.and_false] at h;cases h)]
   refine A0 (F0 ?_)
   refine fin s.heap s.drawn (rawInt 0) (λb o e=>e) (q _ _ _ [s.heap.objs.size,S] _ xs (.refl _) (L0 _) (λb o e=>G0 _ e) (λb hb=>?_) (λb hb=>?_) (zdF (zrD hB (P1 Slt) T.dat hf hs hb h1 (by rw[T.led,hb];rfl) T.rise T.psize) λi v _ p=>?_) ⟨⟨0,siAt _ _, .inl ⟨rfl,rfl⟩⟩,G0 _ ho⟩)
   ·rcases R0.mp hb with h|h
    ·exact .inr (Nat.le_of_eq h.symm)
    ·exact .inl (K0.mp h)
   ·rw[Heap.size_push];rcases R0.mp hb with h|h
    ·rw[h];exact Nat.lt_succ_self _
    ·rw[K0.mp h];exact Nat.lt_succ_of_lt Slt
   ·rw[T.ents,G3,N0] at p
    cases e:xs[i]? with
    |none=>rw[e] at p;cases p
    |some y=>rw[e] at p;exact⟨y,e,(o0 p).symm⟩
  ·have hpl:t.plain=false:=T.plain (λz=>by rw[z] at h1;simp at h1)
   refine wpAny_ite_split (λ_=>?_) (λz=>absurd (show(!false&&(!t.plain&&decide (es.size>1)))=true by rw[hpl,U0 ()];rfl) z)
   refine A0 (zf0 es.size (List.range es.size) _ _ (by rw[List.length_range]) λpl d hp=>?_)
   rw[hs] at hp
   refine A0 (wpAny_newTuple ?_ (by rw[C0,hp.length_eq,List.length_range,K3];lia))
   have hp':(pl.map λk=>xs.getD k default).Perm xs:=by
    have:=hp.map λk=>xs.getD k default
    refine this.trans ?_
    have e:(List.range xs.length).map (λk=>xs.getD k default)=xs:=by
     refine List.ext_getElem? λi=>?_
     rw[N0]
     rcases D1 i xs.length with h|h
     ·rw[List.getElem?_range h,D0 h];simp[h]
     ·rw[I0 h,I0 (by simpa using h)];rfl
    rw[e]
   generalize hh1:s.heap.push {cls:= .type "tuple",data:= .seq (pl.map λ(i:Nat)=>rawInt i).toArray}=h1
   have kp:∀b o,s.heap.get? b=some o->h1.get? b=some o:=λb o e=>by rw[←hh1];exact G0 _ e
   have sz1:h1.objs.size=s.heap.objs.size+1:=by rw[←hh1,Heap.size_push]
   have tp1:ztl h1 s.heap.objs.size pl:=by rw[←hh1];exact⟨_,0,T0 _ rfl,rfl,rfl⟩
   obtain⟨ot,m,hot,hct,hdt⟩:=id tp1
   refine fin h1 d (.ref s.heap.objs.size) kp (q _ _ _ [h1.objs.size,s.heap.objs.size,S] _ _ hp' (by rw[sz1];exact Nat.le_succ _) (λb o e=>G0 _ (kp b o e)) (λb hb=>?_) (λb hb=>?_) (zdF (zrX (tp:=s.heap.objs.size) (pl:=pl) hB (by rw[sz1];exact P1 (Nat.lt_succ_of_lt Slt)) (by rw[sz1];exact P1 (Nat.lt_succ_self _)) T.dat hf hs hp) λi v hi p=>?_) ⟨siAt _ _,⟨ot,m,G0 _ hot,hct,hdt⟩,G0 _ (kp _ _ ho)⟩)
   ·rcases R0.mp hb with h|h
    ·exact .inr (by rw[h,sz1];exact Nat.le_succ _)
    ·rcases R0.mp h with h|h
     ·exact .inr (Nat.le_of_eq h.symm)
     ·exact .inl (K0.mp h)
   ·rw[Heap.size_push];rcases R0.mp hb with h|h
    ·rw[h];exact Nat.lt_succ_self _
    ·rcases R0.mp h with h|h
     ·rw[h,sz1];exact Nat.lt_succ_of_lt (Nat.lt_succ_self _)
     ·rw[K0.mp h,sz1];exact Nat.lt_succ_of_lt (Nat.lt_succ_of_lt Slt)
   ·rw[N0] at p
    cases e:pl[i]? with
    |none=>rw[e] at p;cases p
    |some k=>
     rw[e] at p
     have hk:k<xs.length:=E3.mp (hp.mem_iff.mp (B1 e))
     refine⟨xs[k],by rw[N0,e];simp[hk],?_⟩
     have p:=(o0 p).symm
     rw[p]
     have he:es[k]?=some (ent xs[k]):=by rw[←Array.getElem?_toList,T.ents,N0,D0 hk];rfl
     show(es.getD k (0,Value.none)).snd=_
     rw[Array.getD_eq_getD_getElem?,he];rfl
end
section
open PySem.W
section
variable[Inhabited α]{ent:α->Int×Value}{r:Addr}{o:Obj}{es:Array (Int×Value)}{xs:List α}
theorem zlB{Q:Bool->Shared->Prop}(hT:s.TypeIs (.ref r) "set")(h:Q false s):wpAny `Y3 A (Builtin.List.listLengthHint (.ref r)) Q E s:=by
 unfold Builtin.List.listLengthHint
 refine A0 (wpAny_specialOf hT F.slot_set_len.lookup ?_)
 generalize hid:("set.__len__":String)=id0
 wp_delta
 rw[show splitId id0=some ("set","__len__")from by subst hid;decide +kernel]
 subst hid
 refine A0 (wpAny_isInstance (T:="set") (b:=true) hT (by rw[isSubtype_type];kernel_rfl) ?_)
 refine wpAny_ite_split (λhab=>absurd hab ⋯) (λ_=>?_)
 refine wpAny_ite_split (λ_=>?_) (λhab=>absurd `Z3 hab)
 refine A0 (wpAny_typeOf hT ?_)
 exact F0 h
theorem zh6(hh:A.handled=none)(ho:s.heap.get? r=some o)(T:SRaw w ent o es ep t xs)(hz:xs.length<=1000)(S:Addr)(hSr:S≠r)(res:Value)(c₀:Nat)(hS:s.heap.get? S=some {cls:= .type "list",data:= .seq #[] c₀})
 (hR:∀h' tk d ys acc' c',ys.Perm xs->(∀b o,b≠S->s.heap.get? b=some o->h'.get? b=some o)->h'.get? S=some {cls:= .type "list",dict:=none,data:= .seq acc' c',slots:= #[]}->ItemsOf (zoU ent ys) acc' xs.length->R (.ok (.ret res)) {s with heap:=h',toks:=tk,drawn:=d}):
 wpAny `Y3 A.in1 (Builtin.List.listExtendWith (.ref S) (.ref r) res)
  (λfin s'=>match fin with| .done f=>R (.ok f) s'| .again c'=>c'.quiet=true/\codeAny `Y3 A c' R s') (λe s'=>R (.error e) s') s:=by
 have hn:xs.length<=sizeLine:=by rw[K3];lia
 have ty:s.TypeIs (.ref r) "set":=⟨o,ho,T.ex.1⟩
 have Slt:=W0 hS
 unfold Builtin.List.listExtendWith
 refine A0 (wpAny_typeOf (T:="set") ty ?_)
 have h1:Builtin.List.listSameRef (.ref S) (.ref r)=false:=by simp[Builtin.List.listSameRef,hSr]
 simp only[h1,show(Value.type "set"==Value.type "list")=false from by decide,show(Value.type "set"==Value.type "tuple")=false from by decide,Bool.or_false,M3,if_false]
 refine A0 (zl0 A.in1 hh ho T hz λh' I d fp St ys py hI kp hfp hlt W st=>?_)
 have hSf:S∉fp:=λhm=>by
  rcases hfp S hm with z|z
  ·exact hSr z
  ·exact absurd Slt (Nat.not_lt.mpr z)
 have key:∀(h:Heap) (c₁ tk:Nat),St 0 h->(∀b o,b≠S->s.heap.get? b=some o->h.get? b=some o)->
  h.get? S=some {cls:= .type "list",data:= .seq #[] c₁}->codeAny `Y3 A (.builtin "list.extend.loop" ⟨[.ref S, .ref I,res],[]⟩) R {s with heap:=h,toks:=tk,drawn:=d}:=by
  intro h c₁ tk hst hk hS₁
  refine codeAny_extend_loopS W.toS hn S hSf res xs.length 0 _ #[] c₁ rfl (X1 _) hst hS₁ (ItemsOf.nil _) λs' acc' c' hm hS' hacc=>?_
  rw[Moved.eq_with hm]
  refine hR s'.heap s'.toks d ys acc' c' py (λb o hb e=>hm.heap b o (λhmem=>?_) (hk b o hb e)) hS' hacc
  rcases R0.mp hmem with e'|hmem
  ·exact hb e'
  ·exact absurd (W0 e) (by rw[K0.mp hmem];exact Nat.not_lt.mpr hI)
 have hS₁:=kp _ _ hS
 refine A0 (O2 (zlB ⟨o,kp _ _ ho,T.ex.1⟩ ?_))
 refine wpAny_ite_split (λ_=>?_) (λ_=>F0 ⟨plainId_quiet F.plain_extend_loop _,key _ c₀ _ st (λb o _ e=>kp b o e) hS₁⟩)
 refine A0 (wpAny_rule ?_)
 refine A0 ?_
 show wpAny _ _ (updateSeq S (·.push .none)>>=λ_=>updateSeq S (·.pop)) _ _ _
 refine A0 (wpAny_updateSeq hS₁ rfl ?_)
 have hS₂:=Heap.get?_update_self (Obj.mapSeq (·.push Value.none)) hS₁ rfl
 refine wpAny_updateSeq (hz:=by seq_fits) hS₂ rfl ?_
 have hS₃:=Heap.get?_update_self (Obj.mapSeq (·.pop)) hS₂ rfl
 refine F0 ⟨plainId_quiet F.plain_extend_loop _,key _ _ _ ?_ (λb o hb e=>?_) hS₃⟩
 ·refine W.frame 0 _ _ st λb hb o e=>?_
  have hbS:b≠S:=λh=>hSf (h▸hb)
  exact(Heap.get?_update_other _ _ (Ne.symm hbS)).trans ((Heap.get?_update_other _ _ (Ne.symm hbS)).trans e)
 ·exact (Heap.get?_update_other _ _ (Ne.symm hb)).trans ((Heap.get?_update_other _ _ (Ne.symm hb)).trans (kp b o e))
theorem ziy{R:List Value->Shared->Prop}(hh:A.handled=none)(ho:s.heap.get? r=some o)(T:SRaw w ent o es ep t xs)(hz:xs.length<=1000)
 (q:∀(h':Heap) (tk:Nat) (d:_) (ys:List α),ys.Perm xs->(∀b o,s.heap.get? b=some o->h'.get? b=some o)->s.heap.objs.size<h'.objs.size->R (ys.map λy=>(ent y).2) {s with heap:=h',toks:=tk,drawn:=d}):wpAny `Y3 A (collect (.ref r)) R E s:=by
 have lt:r<s.heap.objs.size:=W0 ho
 have g0:(s.heap.push {cls:= .type "list",data:= .seq ([]:List Value).toArray}).get? s.heap.objs.size=some {cls:= .type "list",data:= .seq #[]}:=T0 _ rfl
 have lst:∀{ys:List α} {acc:Array Value},ys.Perm xs->ItemsOf (zoU ent ys) acc xs.length->acc.toList=ys.map λy=>(ent y).2:=λ{ys acc} py ia=>by
  apply List.ext_getElem?
  intro i
  rw[N0]
  rcases D1 i ys.length with h|h
  ·have hi:i<acc.size:=by rw[ia.1,←py.length_eq];exact h
   rw[Array.getElem?_toList,Z1 hi]
   obtain⟨y,e1,e2⟩:=ia.2 i acc[i] (by rw[Z1 hi])
   rw[e2,e1];rfl
  ·rw[I0 h,I0 (by rw[C1,ia.1,←py.length_eq];exact h)];rfl
 have key:=zh6 (prog:=prog) (A:=A) (s:={s with heap:=s.heap.push {cls:= .type "list",data:= .seq ([]:List Value).toArray}}) (R:=λ(f:Result) (s':Shared)=>∃(h':Heap) (tk:Nat) (d:_) (ys:List α) (acc':Array Value) (c':Nat),f= .ok (.ret (.ref s.heap.objs.size))/\s'={s with heap:=h',toks:=tk,drawn:=d}/\ys.Perm xs/\(∀b o,s.heap.get? b=some o->h'.get? b=some o)/\h'.get? s.heap.objs.size=some {cls:= .type "list",dict:=none,data:= .seq acc' c',slots:= #[]}/\ItemsOf (zoU ent ys) acc' xs.length)
  hh (G0 _ ho) T hz s.heap.objs.size (Nat.ne_of_gt lt) (.ref s.heap.objs.size) 0 g0 (λh' tk d ys acc' c' py kp gS ia=>⟨h',tk,d,ys,acc',c',rfl,rfl,py,λb o e=>kp b o (P1 (W0 e)) (G0 _ e),gS,ia⟩)
 unfold collect
 refine A0 (wpAny_runValue (codeAny_builtin entry_proto_collect' (by
  rw[Around.under_plainId F.plain_proto_collect _]
  show wpAny _ A.in1 (newList []>>=λl=>again (.builtin "list.__iadd__" ⟨[l, .ref r],[]⟩)) _ _ s
  refine A0 (j1 (F0 ⟨plainId_quiet F.plain_list_iadd _,codeAny_builtin entry_list_iadd' (by
   rw[Around.under_plainId F.plain_list_iadd _]
   show wpAny _ A.in1 (Builtin.List.listExtendWith (.ref s.heap.objs.size) (.ref r) (.ref s.heap.objs.size)) _ _ _
   refine K1 key (λfin s' x=>?_) λe s' x=>?_
   ·cases fin with
    |done f=>
     obtain⟨h',tk,d,ys,acc',c',e,rfl,py,kp,gS,ia⟩:=x;cases e
     show wpAny _ A (load s.heap.objs.size>>=_) _ _ _
     refine A0 (wpAny_load gS (F0 ?_))
     show R acc'.toList _
     rw[lst py ia]
     exact q h' tk d ys py kp (W0 gS)
    |again c₁=>
     refine⟨x.1,codeAny_mono x.2 λf s₂ y=>?_⟩
     obtain⟨h',tk,d,ys,acc',c',rfl,rfl,py,kp,gS,ia⟩:=y
     show wpAny _ A (load s.heap.objs.size>>=_) _ _ _
     refine A0 (wpAny_load gS (F0 ?_))
     show R acc'.toList _
     rw[lst py ia]
     exact q h' tk d ys py kp (W0 gS)
   ·obtain ⟨_,_,_,_,_,_,e',_⟩:=x
    cases e')⟩)))))
end
end
section
open PySem.W PyProof.V
end
section
noncomputable def zaK(w:World)(x:Str×Tok):Int×Value:=(hashStr w x.1, .str x.1 x.2)
structure TxSet(w:World)(o:Obj)(es:Array (Int×Value))(ep:Nat)(t:SetTable)(xs:List (Str×Tok)):Prop where
 ex:o.ExactSet
 dat:o.data= .set es ep t
 ents:es.toList=xs.map (zaK w)
 lay:LayT t (xs.map λx=>hashStr w x.1)
 few:xs.length*5<t.mask*3
 led:t.led=!zav w
 plain:xs≠ []->t.plain=false
 nd:(xs.map (·.1)).Nodup
variable{o:Obj}{es:Array (Int×Value)}{xs:List (Str×Tok)}
theorem TxSet.size(T:TxSet w o es ep t xs):es.size=xs.length:=by rw[←C1,T.ents,C0]
theorem TxSet.psize(T:TxSet w o es ep t xs):t.place.size=xs.length:=by rw[T.lay.size,C0]
theorem TxSet.fits(T:TxSet w o es ep t xs):t.fits es.size=true:=by
 have:=T.few
 simp only[SetTable.fits,SetTable.fill,T.lay.dum,T.psize,T.size,E1,beq_iff_eq,decide_eq_true_eq,Array.size_empty,true_and]
 lia
theorem TxSet.raw(T:TxSet w o es ep t xs):SRaw w (zaK w) o es ep t xs:=⟨T.ex,T.dat,T.ents,T.fits,T.led,T.plain,T.lay.rise⟩
theorem zn4(e:es.toList=xs.map (zaK w)):ElemsOf (PySem.strKind prog w) es.toList:=by
 rw[e]
 intro y hy
 obtain⟨z,_,rfl⟩:=X0.mp hy
 exact⟨⟨z.1,by show Value.isStrOf z.1 (.str z.1 z.2)=true;simp[Value.isStrOf],rfl⟩,rfl⟩
theorem zlp{hs:List Int}(L:LayT t hs){h:Int}{ne:Nat}(hne:ne<10*SetTable.turns t.mask)(he:zac t h ne∉t.place.toList)(hf:∀m<ne,zac t h m∈t.place.toList):t.freeSlot h=some (zac t h ne,false):=by
 unfold SetTable.freeSlot
 rcases zll L (λ_=>h+1) he hf (10*SetTable.turns t.mask) 0 (X1 _) ()with⟨e,r⟩|⟨m,m1,m2,e,q,r⟩
 ·have e':SetTable.probe t (λ_=>h+1) h (t.probeStart h)=some (.empty (zac t h ne) none):=by
   unfold SetTable.probe;exact e
  rw[e'];rfl
 ·lia
theorem zmT(hf:t.fits es.size=true)(ents:es.toList=xs.map (zaK w))(led:t.led=!zav w)(plain:t.plain=false)(nd:(xs.map (·.1)).Nodup){mask:Nat}(hw:SetTable.sizeAbove wanted=mask+1)(hm:zaE mask)(few:xs.length*5<mask*3):
 ∃(es':Array (Int×Value)) (t':SetTable) (xs':List (Str×Tok)),relayAll t es wanted=(es',t',false)/\xs'.Perm xs/\es'.toList=xs'.map (zaK w)/\LayT t' (xs'.map λx=>hashStr w x.1)/\t'.mask=mask/\t'.led=(!zav w)/\t'.plain=false:=by
 have hz:es.size=xs.length:=by rw[←C1,ents,C0]
 obtain⟨t2,order,e1,e2,e3,e4,e5,e6,e7⟩:=ziA (finger:=t.finger) (moves:=t.movedTo mask) (led:=t.led) (plain:=t.plain) hm (es:=es) (by rw[hz];lia)
 have er:t.relaid (es.map (·.1)) wanted=some (t2,order):=by
  unfold SetTable.relaid
  rw[hw]
  exact e1
 have hsz:(order.filterMap (es[·]?)).size=es.size:=by rw[←C1,e3.length_eq,C1]
 have e3':=e3
 rw[ents] at e3'
 obtain⟨ys,py,ey⟩:=zaT e3' xs rfl
 have l4:LayT t2 (ys.map λx=>hashStr w x.1):=by rw[ey,G3] at e4;exact e4
 refine⟨order.filterMap (es[·]?),t2,ys,?_,py,ey,l4,e2,by rw[e5,led],by rw[e6,plain]⟩
 unfold relayAll
 rw[er]
 dsimp only
 rw[c0]
 rw[E1]
 constructor
 ·unfold coversAll
  rw[List.isPerm_iff]
  exact e7
 ·have:=l4.size
  rw[C0] at this
  simp only[SetTable.fits,SetTable.fill,l4.dum,this,hsz,hz,py.length_eq,e2,E1,beq_iff_eq,decide_eq_true_eq,Array.size_empty,true_and]
  lia
theorem znc(ho:s.heap.get? S=some o)(T:TxSet w o es ep t xs)(hfew:xs.length<76){Q:Bool->Shared->Prop}
 (qO:x∈xs.map (·.1)->Q false s)
 (qN:x∉xs.map (·.1)->∀h' o' es' ep' t' xs',Heap.SameBut S s.heap h'->h'.get? S=some o'->TxSet w o' es' ep' t' xs'->xs'.Perm ((x,tk)::xs)->Q true {s with heap:=h'}):
 wpAny `Y3 A (setAddHashed S (.str x tk) (hashStr w x)) Q E s:=by
 have hkey:(PySem.strKind prog w).is x (.str x tk)=true:=by show Value.isStrOf x (.str x tk)=true;simp[Value.isStrOf]
 have hel:=zn4 (prog:=prog) T.ents
 have hb:es.size<scanBound:=by rw[T.size];exact A2 hfew ⋯
 unfold setAddHashed setAddHashedIn
 refine O2 (A0 (Q2 ho T.dat T.fits ?_))
 dsimp only
 rw[byScan_of (knd:=PySem.strKind prog w) rfl hb hel]
 simp only[↓reduceIte]
 unfold setAddByScan
 refine A0 ?_
 refine A0 (wpAny_rule ?_)
 refine A0 (wpAny_setScan_of (knd:=PySem.strKind prog w) hkey ho T.dat T.fits hel ?_)
 have mem:x∈xs.map (·.1)↔∃e∈es.toList,(PySem.strKind prog w).is x e.2=true:=by
  rw[T.ents]
  constructor
  ·intro h
   obtain⟨y,hy,e⟩:=X0.mp h
   exact⟨_,X0.mpr ⟨y,hy,rfl⟩,by subst e;show Value.isStrOf y.1 (.str y.1 y.2)=true;simp[Value.isStrOf]⟩
  ·rintro ⟨e,he,q⟩
   obtain⟨y,hy,rfl⟩:=X0.mp he
   obtain⟨u,hu⟩:=Value.isStrOf_shape (show Value.isStrOf x (.str y.1 y.2)=true from q)
   injection hu with hu
   exact X0.mpr ⟨y,hy,hu⟩
 cases hr:List.findIdx? (λe=>(PySem.strKind prog w).is x e.2) es.toList with
 |some j=>
  dsimp only
  obtain⟨hj,hpj,_⟩:=List.findIdx?_eq_some_iff_getElem.mp hr
  exact F0 (F0 (qO (mem.mpr ⟨_,Z2 hj,hpj⟩)))
 |none=>
  dsimp only
  have hk:x∉xs.map (·.1):=λh=>by
   obtain⟨e,he,q⟩:=mem.mp h
   have:=List.findIdx?_eq_none_iff.mp hr e he
   rw[q] at this;cases this
  obtain⟨ne,hne,he,hf⟩:=T.lay.first (by have:=T.few;rw[C0];lia) (hashStr w x)
  have m127:t.mask<=255:=by rcases T.lay.mask with e|e|e|e|e|e<;>lia
  have fs:=zlp T.lay hne he hf
  generalize hj:zac t (hashStr w x) ne=j at he fs
  have hb':j<=t.mask:=by rw[←hj];exact zrP _ _ _
  obtain⟨p1,p2,p3⟩:=T.lay.put he hb' ⟨ne,hj,hf⟩
  rw[C0] at p1
  have psz:=T.size
  have few0:=T.few
  have pm:((x,tk)::xs).Perm (xs.take (t.put j).2 ++(x,tk)::xs.drop (t.put j).2):=by
   have:=(List.perm_middle (a:=(x,tk)) (l₁:=xs.take (t.put j).2) (l₂:=xs.drop (t.put j).2)).symm
   rw[List.take_append_drop] at this
   exact this
  generalize hxs1:xs.take (t.put j).2 ++(x,tk)::xs.drop (t.put j).2=xs1 at pm
  have l1:xs1.length=xs.length+1:=by rw[←pm.length_eq];rfl
  have ents1:(SetTable.insertAt es (t.put j).2 (hashStr w x, .str x tk)).toList=xs1.map (zaK w):=by
   rw[zic (by rw[psz];exact p1),T.ents,←hxs1,F2,V1,List.map_take,List.map_drop];rfl
  have z1:(SetTable.insertAt es (t.put j).2 (hashStr w x,Value.str x tk)).size=xs1.length:=by rw[←C1,ents1,C0]
  have lay1:LayT (t.put j).1 (xs1.map λx=>hashStr w x.1):=by
   rw[←hxs1,F2,V1,List.map_take,List.map_drop];exact p3
  have nd1:(xs1.map (·.1)).Nodup:=((pm.map (·.1)).nodup_iff).mp (U1.mpr ⟨hk,T.nd⟩)
  have hfit:(t.put j).1.fits (SetTable.insertAt es (t.put j).2 (hashStr w x,Value.str x tk)).size=true:=by
   have:=lay1.size
   rw[C0] at this
   simp only[SetTable.fits,SetTable.fill,lay1.dum,this,z1,p2,E1,beq_iff_eq,decide_eq_true_eq,Array.size_empty,true_and]
   lia
  have hL:layNew t es (hashStr w x) (.str x tk)=(SetTable.insertAt es (t.put j).2 (hashStr w x, .str x tk),(t.put j).1,false,false):=by
   unfold layNew
   rw[fs]
   dsimp only
   unfold SetTable.orStandIn
   rw[c0 hfit,hfit]
   rfl
  rw[hL]
  dsimp only
  have led1:(t.put j).1.led=!zav w:=T.led
  have fin:∀t2:SetTable,t2.mask=t.mask->t2.place=(t.put j).1.place->t2.dummies=(t.put j).1.dummies->t2.led=t.led->t2.plain=false->
   wpAny `Y3 A (do
    storeSet S (SetTable.insertAt es (t.put j).2 (hashStr w x, .str x tk)) t2
    if(!false&&t2.tooFull)=true then do
       (match(relayAll t2 (SetTable.insertAt es (t.put j).2 (hashStr w x, .str x tk)) (SetTable.grown (SetTable.insertAt es (t.put j).2 (hashStr w x,Value.str x tk)).size)).2.2 with|true=>rule "set.scan.the-table-gave-way"|false=>pure Unit.unit)
       storeSet S (relayAll t2 (SetTable.insertAt es (t.put j).2 (hashStr w x, .str x tk)) (SetTable.grown (SetTable.insertAt es (t.put j).2 (hashStr w x,Value.str x tk)).size)).1 (relayAll t2 (SetTable.insertAt es (t.put j).2 (hashStr w x, .str x tk)) (SetTable.grown (SetTable.insertAt es (t.put j).2 (hashStr w x,Value.str x tk)).size)).2.1
       pure (some true)
     else pure (some true)) (λa s'=>wpAny `Y3 A (match a with|some added=>pure added|none=>setAddHashedIn S (.str x tk) (hashStr w x) 99999) Q E s') E s:=by
   intro t2 em epl ed el ep2
   have lay2:LayT t2 (xs1.map λx=>hashStr w x.1):=lay1.same (by rw[em];exact p2.symm) epl ed
   have hfill:t2.fill=xs1.length:=by
    have:=lay2.size
    rw[C0] at this
    simp[SetTable.fill,lay2.dum,this]
   generalize hes1:SetTable.insertAt es (t.put j).2 (hashStr w x,Value.str x tk)=es1 at *
   have hfit2:t2.fits es1.size=true:=by
    have:=lay2.size
    rw[C0] at this
    simp only[SetTable.fits,hfill,em,z1,this,E1,beq_iff_eq,decide_eq_true_eq,true_and]
    lia
   refine A0 (wpAny_storeSet_of ho T.dat ?_ (by rw[z1,l1,K3];lia))
   generalize hh1:s.heap.update S (Obj.putSet es1 t2)=h1
   have sb:Heap.SameBut S s.heap h1:=by rw[←hh1];exact K2 s.heap S _
   have ho1:h1.get? S=some {o with data:= .set es1 (ep+1) t2}:=by rw[←hh1];exact zhL ho T.dat _ _
   by_cases c:t2.tooFull=true
   ·rw[c0 (by rw[c];rfl)]
    have c':xs1.length*5≥t.mask*3:=by
     unfold SetTable.tooFull at c
     rw[hfill,em] at c
     exact Y0 c
    have wanted:∃mask,SetTable.sizeAbove (SetTable.grown es1.size)=mask+1/\zaE mask/\xs1.length*5<mask*3:=by
     rcases T.lay.mask with e|e|e|e|e|e
     ·have:xs.length=4:=()
      rw[z1,l1,this];exact⟨31,`Z3, .inr (.inr (.inl rfl)),⋯⟩
     ·have:xs.length=8:=()
      rw[z1,l1,this];exact⟨63,`Z3, .inr (.inr (.inr (.inl rfl))),⋯⟩
     ·have:xs.length=18:=()
      rw[z1,l1,this];exact⟨127,`Z3, .inr (.inr (.inr (.inr (.inl rfl)))),⋯⟩
     ·have:xs.length=37:=()
      rw[z1,l1,this];exact⟨255,`Z3, .inr (.inr (.inr (.inr (.inr rfl)))),⋯⟩
     ·lia
     ·lia
    obtain⟨mask,w1,w2,w3⟩:=wanted
    obtain⟨es2,t3,xs2,r1,r2,r3,r4,r5,r6,r7⟩:=zmT (w:=w) (xs:=xs1) hfit2 ents1 (by rw[el,T.led]) ep2 nd1 w1 w2 w3
    rw[r1]
    dsimp only
    have z2:es2.size=xs1.length:=by rw[←C1,r3,C0,r2.length_eq]
    refine A0 (F0 (A0 (wpAny_storeSet_of (s:={s with heap:=h1}) ho1 rfl ?_ (by rw[z2,l1,K3];lia))))
    refine F0 (F0 (qN hk _ _ es2 (ep+1+1) t3 xs2 (sb.trans (K2 _ S _)) (zhL ho1 rfl _ _) ?_ (r2.trans pm.symm)))
    exact{ex:=T.ex,dat:=rfl,ents:=r3,lay:=r4,few:=by rw[r2.length_eq,r5];exact w3,led:=r6,plain:=λ_=>r7,nd:=((r2.map _).nodup_iff).mpr nd1}
   ·rw[P0 (by simpa using c)]
    have c':xs1.length*5<t.mask*3:=by
     unfold SetTable.tooFull at c
     rw[hfill,em] at c
     simpa using c
    exact F0 (F0 (qN hk _ _ es1 (ep+1) t2 xs1 sb ho1 {ex:=T.ex,dat:=rfl,ents:=ents1,lay:=lay2,few:=by rw[em];exact c',led:=by rw[el,T.led],plain:=λ_=>ep2,nd:=nd1} pm.symm))
  refine A0 (F0 ?_)
  by_cases hp:t.plain=true
  ·rw[c0 (show(t.put j).1.plain=true from hp)]
   refine A0 (F0 ?_)
   exact fin {(t.put j).1 with plain:=false} p2 rfl rfl rfl rfl
  ·rw[P0 (show¬(t.put j).1.plain=true from hp)]
   refine A0 (F0 ?_)
   exact fin (t.put j).1 p2 rfl rfl rfl (show t.plain=false by simpa using hp)
end
structure TkRaw(prog:Program)(w:World)(o:Obj)(es:Array (Int×Value))(ep:Nat)(t:SetTable)(xs:List (zfo×Addr)):Prop where
 ex:o.ExactSet
 dat:o.data= .set es ep t
 ents:es.toList=xs.map (zqz prog w)
 lay:LayT t (xs.map λx=>zjy prog w x.1)
 few:xs.length*5<t.mask*3
 led:t.led=!zav w
 plain:xs≠ []->t.plain=false
 nd:(xs.map (·.1)).Nodup
section
variable{o:Obj}{es:Array (Int×Value)}{xs:List (zfo×Addr)}
end
section
open PySem.W
section
variable{r:Addr}{o:Obj}{es:Array (Int×Value)}{xs:List (zfo×Addr)}
end
end
noncomputable abbrev zed(w:World):Obj:={cls:= .type "set",dict:=none,data:= .set #[] 0 (.fresh 0 0 (!zav w))}
section
open PySem.W PyProof.V
theorem Inv.dr{σ:List (Option V)}(I:Inv X pins σ H s)(d:_):Inv X pins σ H {s with drawn:=d}:=⟨I.ok,I.os,I.bare,I.base,I.loc,I.cell,I.free,I.freeC,I.pin,I.hok,I.len⟩
end
section
open PySem.W
theorem zgw:∀ys:List (Str×Tok),StrsAre (ys.map λy=>(zaK w y).2) (ys.map (·.1))
 |[]=> .nil
 |y::ys=> .cons y.1 y.2 (zgw ys)
theorem zeV{r:Addr}{o:Obj}{es:Array (Int×Value)}{xs:List (Str×Tok)}{R:Value->Shared->Prop}(hh:A.handled=none)(ho:s.heap.get? r=some o)(T:SRaw w (zaK w) o es ep t xs)(h64:xs.length<64)
 (q:∀(D:Addr) (out:Array Value) (ss':List Str) (h':Heap) (tk e:Nat) (d:_),StrsAre out.toList ss'->ss'.Perm (xs.map (·.1))->sortedS ss'=true->(∀b o,s.heap.get? b=some o->h'.get? b=some o)->s.heap.objs.size<=D->h'.get? D=some (seqObj "list" out e)->R (.ref D) {s with heap:=h',toks:=tk,drawn:=d}):
 wpAny `Y3 A (call (.builtin "sorted") [.ref r]) R E s:=by
 refine Calls.call_function_entry kind_sorted plain_sorted entry_sorted (args_sorted1 _) ?_
 unfold Builtin.«sorted»
 refine A0 (m:=checkCount "sorted" 1 1 _) (F0 (A0 (ziy (A:=A.in1) hh ho T () λh1 tk d ys py kp gr0=>?_)))
 have hS:=zgw (w:=w) ys
 have ly:(ys.map λy=>(zaK w y).2).length=ys.length:=C0 ..
 have lx:ys.length<64:=by rw[py.length_eq];exact h64
 generalize hks:(ys.map λy=>(zaK w y).2)=ks at *
 refine A0 (wpAny_newList ?_ (by rw[K3];lia))
 have hD:(h1.push (seqObj "list" ks.toArray 0)).get? h1.objs.size=some (seqObj "list" ks.toArray 0):=T0 _ rfl
 have k2:∀b o,s.heap.get? b=some o->(h1.push (seqObj "list" ks.toArray 0)).get? b=some o:=λb o e=>G0 _ (kp b o e)
 have gr:s.heap.objs.size<=h1.objs.size:=A3 gr0
 show wpAny _ _ _ _ _ {s with heap:=h1.push (seqObj "list" ks.toArray 0),toks:=tk,drawn:=d}
 refine A0 (O2 (G2 slot_list_sort ⟨_,hD,rfl⟩ entry_list_sort (list_sort_treeK strKind_oneLt (s:={s with heap:=h1.push (seqObj "list" ks.toArray 0),toks:=tk,drawn:=d}) hD hS.keysOf (λv1 v2 rest e=>?_) () λst' hp hs=>?_) (args_list_sort _)))
 ·subst e
  exact keyKind_strs hS
 ·obtain ⟨ss',a1,a2,a3⟩:=sorted_out_str hS hp hs
  obtain⟨e,he⟩:=sortedHeap_at (h:=h1.push (seqObj "list" ks.toArray 0)) (vs:=ks) (out:=Array.map (λx=>x.snd) (arrOf st')) hD
  refine⟨_,rfl,F0 ⟨_,rfl,q h1.objs.size _ ss' _ tk e d a1 (a2.trans (py.map _)) a3 (λb o hb=>?_) gr he⟩⟩
  have lb:=W0 hb
  rw[sortedHeap_old (P1 (A2 lb gr)) (W0 (k2 b o hb))]
  exact k2 b o hb
noncomputable def StX(w:World)(a:Addr)(ks:List Str):HO:= .ext λh=>∃o es ep t xs,h.get? a=some o/\TxSet w o es ep t xs/\(xs.map (·.1)).Perm ks
theorem zge(hc:X.calm=true):CallR X (.builtin "sorted") (λxs H Q=>∃(p:Addr) (ks:List Str),xs=[.ref p]/\H p=some (StX X.w p ks)/\ks.length<64/\
 ∀(ss':List Str) l,ss'.Perm ks->ss'.Pairwise (λa b=>ltS a b=true)->H l=none->Q (.ref l) (upd H l (.lst (ss'.map V.str)))):=by
 intro pins s σ H xs us Q I r h
 obtain⟨p,ks,rfl,hH,h64,q⟩:=h
 obtain⟨u,rfl,ru⟩:=za8 r
 cases ru
 obtain⟨⟨o,es,ep,t,xs,go,T,pk⟩,_⟩:=I.hok p _ hH
 have hl:xs.length=ks.length:=by rw[←pk.length_eq,C0]
 refine zeV (A:=X.A) (I.ok.hd hc) go T.raw () λD out ss' h' tk c d a1 a2 a3 kp hD he=>?_
 have a2':=a2.trans pk
 refine⟨.ref D,_,(I.laid (a:=D) (o:= .lst (ss'.map V.str)) (t':=tk) kp hD ⟨?_,out.toList,c,?_,?_⟩).dr d,rfl,q ss' D a2' (zeg ss' a3 (a2.nodup_iff.mpr T.nd)) (I.hok.fresh hD)⟩
 ·rw[C0,a2'.length_eq];exact A3 (zj ())
 ·have mk:∀{vs:List Value} {zs:List Str},StrsAre vs zs->Vals (zs.map V.str) vs:=by
   intro vs zs h
   induction h with
   |nil=>exact .nil
   |cons x t _ ih=>exact .cons ⟨t,rfl⟩ ih
  exact mk a1
 ·rw[Array.toArray_toList];exact he
theorem zit{led:Bool}(hl:led=!zav w):TxSet w {cls:= .type "set",dict:=none,data:= .set #[] 0 (.fresh 0 0 led)} #[] 0 (.fresh 0 0 led) [] where
 ex:=⟨rfl,rfl,rfl⟩
 dat:=rfl
 ents:=rfl
 lay:={size:=rfl,rise:=List.Pairwise.nil,bnd:=(λj hj=>by simp[SetTable.fresh] at hj),dum:=rfl,mask:= .inl rfl,reach:=(λz hz=>by simp at hz)}
 few:=(by decide:0<21)
 led:=hl
 plain:=λh=>absurd rfl h
 nd:=List.Pairwise.nil
theorem zhs(h:Q (.ref s.heap.objs.size) {s with heap:=s.heap.push (zed w)}):wpAny `Y3 A (newSet (.type "set")) Q E s:=by
 unfold newSet setsByText
 refine A0 (A0 (wpAny_askSetting (F0 ?_)))
 dsimp only
 simp only[newObj]
 exact A0 (wpAny_alloc (F0 h))
noncomputable def zb7(ks:List Str)(x:Str):List Str:=if x∈ks then ks else ks ++ [x]
theorem zie{ks:List Str}:y∈zb7 ks x↔y∈ks\/y=x:=by
 unfold zb7
 split
 ·exact ⟨.inl,λh=>h.elim id λe=>by subst e;assumption⟩
 ·rw[F1,K0]
theorem zkl{ks:List Str}(h:ks.Nodup):(zb7 ks x).Nodup:=by
 unfold zb7
 split
 ·exact h
 ·rename_i hx
  refine X2.mpr ⟨h,`j3,λa ha b hb e=>?_⟩
  rw[K0.mp hb] at e
  exact hx (e▸ha)
theorem zq8{o:HO}(h:H p=some o):upd H p o=H:=funext λb=>by
 by_cases e:b=p
 ·subst e;rw[h];simp[upd]
 ·simp[upd,e]
section
variable{ks:List Str}
theorem zfH{h2:Heap}(r:∃o es ep t xs,h.get? p=some o/\TxSet w o es ep t xs/\(xs.map (·.1)).Perm ks)(k:∀o,h.get? p=some o->h2.get? p=some o):∃o es ep t xs,h2.get? p=some o/\TxSet w o es ep t xs/\(xs.map (·.1)).Perm ks:=by
 obtain⟨o,es,ep,t,xs,e,r⟩:=r
 exact⟨o,es,ep,t,xs,k o e,r⟩
theorem Inv.newSet(I:Inv X pins σ H s):Inv X pins σ (upd H s.heap.objs.size (StX X.w s.heap.objs.size [])) {s with heap:=s.heap.push (zed X.w)}:=
 I.laid (a:=s.heap.objs.size) (o:=StX X.w s.heap.objs.size []) (t':=s.toks) (λb o e=>G0 _ e) (L0 _)
  ⟨⟨_,_,_,_,[],T0 _ rfl,zit rfl, .nil⟩,⟨_,T0 _ rfl⟩,λ_ _ r k=>zfH r k⟩
theorem zkt{Q:Bool->Shared->Prop}(I:Inv X pins σ H s)(hH:H p=some (StX X.w p ks))(hl:ks.length<76)(q:∀b s',Inv X pins σ (upd H p (StX X.w p (zb7 ks x))) s'->Q b s'):
 wpAny `W3 A (setAdd p (.str x tk)) Q E s:=by
 obtain⟨⟨o,es,ep,t,xs,go,T,pk⟩,_⟩:=I.hok p _ hH
 have hlx:xs.length=ks.length:=by rw[←pk.length_eq,C0]
 unfold setAdd
 refine O2 (A0 ((PySem.strKind X.prog X.w).pyHash (k:=x) (by show Value.isStrOf x (.str x tk)=true;simp[Value.isStrOf]) ?_))
 refine znc (s:={s with toks:=s.toks+1}) go T () (λhk=>?_) (λhk h' o' es' ep' t' xs' sb g' T' pm=>?_)
 ·refine q _ _ ?_
  have:zb7 ks x=ks:=by unfold zb7;rw[c0 (pk.mem_iff.mp hk)]
  rw[this,zq8 hH]
  exact I.tok _
 ·refine q _ _ ?_
  have e:zb7 ks x=ks ++ [x]:=by unfold zb7;rw[P0 (λh=>hk (pk.mem_iff.mpr h))]
  rw[e]
  refine I.write (x:=p) (e:=p) (o:=StX X.w p (ks ++ [x])) (t':=s.toks+1) (by rw[hH];trivial) (.inl rfl) (λc u' hc e=>by rw[sb.2 c hc];exact e) ⟨o',g'⟩ ⟨⟨o',es',ep',t',xs',g',T',?_⟩,⟨o',g'⟩,λ_ _ r k=>zfH r k⟩
  have h1:=pm.map (·.1)
  rw[V1] at h1
  exact h1.trans ((pk.cons x).trans (List.perm_append_singleton x ks).symm)
end
theorem zl2{road:DisplayRoad}{b:Bool}{elts:List (Bool×Sem Value)}{ts:List (Sem Value)}(hroad:(road== .constants)=false)(hs:elts.findIdx? (·.1)=none)(hlen:elts.length<=30)(hm:elts.map (·.2)=ts)
 (h:wpAny `Y3 A (evalAll ts) (λvs s'=>KdsFill `Y3 A E (road== .unsure) s.heap.objs.size Q vs s') E {s with heap:=s.heap.push (zed w)}):
 wpAny `Y3 A (setDisplay road b elts) Q E s:=by
 have hn:(if elts.length>30 then 0 else(elts.findIdx? (·.1)).getD elts.length)=elts.length:=by rw[P0 (),hs];rfl
 unfold setDisplay
 try dsimp only
 rw[P0 (by rw[hroad];exact O1)]
 refine A0 (zhs ?_)
 dsimp only
 rw[hn,P2,List.drop_length,hm]
 refine A0 (O2 ?_)
 refine A0 (K1 h (λvs s' h'=>?_) λ_ _ x=>x)
 refine A0 (O2 ?_)
 refine A0 (K1 (kds_for (λx P s hx=>?_) vs s' h') (λ_ s1 h1=>?_) λ_ _ x=>x)
 ·refine A0 (K1 hx (λ_ s2 h2=>?_) λ_ _ x=>x)
  first|exact F0 ⟨rfl,h2⟩|exact A0 (F0 (F0 ⟨rfl,h2⟩))
 ·cases hu:(road==DisplayRoad.unsure)with
  |false=>
   rw[hu] at h1
   have h2:Q (.ref s.heap.objs.size) s1:=by simpa[KdsFill] using h1
   rw[P0 O1]
   refine F0 ?_
   rw[List.forIn_nil]
   exact F0 (F0 h2)
  |true=>
   rw[hu] at h1
   have h2:wpAny `Y3 A (setUnled s.heap.objs.size) (λ_ s'=>Q (.ref s.heap.objs.size) s') E s1:=by simpa[KdsFill] using h1
   rw[c0 rfl]
   refine A0 (wpAny_rule (K1 h2 (λ_ s3 h3=>?_) λ_ _ x=>x))
   rw[List.forIn_nil]
   exact F0 (F0 h3)
noncomputable def ztd(w:World)(te:TE):TE:=λσ H Q=>∀p,H p=none->te σ (upd H p (StX w p [])) λv H1=>∃x,v= .str x/\H1 p=some (StX w p [])/\Q (.ref p) (upd H1 p (StX w p [x]))
theorem zrd(hcd:kdsCode X.K X.env.code=true)(he:QE X e te)(hp:autoParam (kdsPlain e=true) y3):QE X (.Set [e] 0 pos) (ztd X.w te):=⟨by
 intro pins s σ H Q I q
 rw[arm_eval_Set]
 refine A0 (J3 ?_)
 refine A0 (kds_main I.kIn hcd λb=>?_)
 rw[kds_star [e] (by simp[hp]),G3]
 have h:=he.o pins _ σ _ _ I.newSet (q s.heap.objs.size (I.hok.fresh (L0 _)))
 refine zl2 (ts:=(evalEach [e] X.env).map λt=>do let v ←t;standAt pos;pure v) rfl rfl (show 1<=30 by decide) rfl (kds_all pos [e] _ _ ?_)
 refine K1 h (λv s1 zq=>?_) λ_ _ z=>z
 obtain⟨v',H1,I1,rv,x,rfl,e1,q1⟩:=zq
 obtain⟨t,rfl⟩:=rv
 show wpAny _ _ (setAdd s.heap.objs.size (.str x t)) _ _ _
 refine zkt I1 e1 ⋯ λ_ s2 I2=>?_
 rw[show zb7 [] x=[x] by simp[zb7]] at I2
 exact⟨.ref s.heap.objs.size,_,I2,rfl,q1⟩⟩
end
section
open PySem.W PyProof.V
end
section
variable{ks:List Str}
theorem znR(I:Inv X pins σ H s)(hH:H p=some (StX X.w p ks))(hl:ks.length<76)(q:∀s',Inv X pins σ (upd H p (StX X.w p (zb7 ks x))) s'->Q .none s'):
 wpAny `W3 A (call (.builtin "set.add") [.ref p, .str x tk]) Q E s:=by
 obtain⟨⟨o,es,ep,t,xs,go,T,pk⟩,_⟩:=I.hok p _ hH
 have ty:s.TypeIs (.ref p) "set":=⟨o,go,T.ex.1⟩
 refine G2 F.slot_set_add ty F.entry_set_add ?_ (F.args_set_add_2 _ _)
 unfold Builtin.«set.add» Builtin.Frozenset.oneOther
 simp only[List.isEmpty_nil,bind_assoc]
 unfold Builtin.Frozenset.addrOf
 refine A0 (F0 ?_)
 try dsimp only
 refine A0 (F0 ?_)
 try dsimp only
 refine A0 (zkt I hH hl λb s' I'=>?_)
 show wpAny _ _ (ret Value.none) _ _ _
 exact F0 ⟨_,rfl,q s' I'⟩
end
noncomputable abbrev sc2(elt t1 i1 t2 i2:Expr)(f1 f2:List Expr)(scope:Scope)(pos:Pos):Expr:= .SetComp elt [⟨t1,i1,f1,0⟩,⟨t2,i2,f2,0⟩] scope pos
theorem zpa(elt t1 i1 t2 i2:Expr)(f1 f2:List Expr)(scope:Scope)(pos:Pos)(it acc:Value)(env:Env):
 compTurn (sc2 elt t1 i1 t2 i2 f1 f2 scope pos) 0 it acc env=(do
  standAt i1.pos
  match←pyNext it with
  |none=>pure (.done .next)
  |some v=>
   letOwnedTupleGo t1 it v
   assign t1 env v
   let mut ok:=true
   for c in f1 do
    if ok then ok ←isTrue c env (eval c env)
   if ok then
    let x ←eval i2 env
    standAt i2.pos
    let x ←foldedSetIterable i2 env x
    let _ ←runOwn (.compStart (sc2 elt t1 i1 t2 i2 f1 f2 scope pos) 1 (←holding [x] (pyIter x)) acc env) env
   again (.compLoop (sc2 elt t1 i1 t2 i2 f1 f2 scope pos) 0 it acc env)):=by rfl
theorem zo8(elt t1 i1 t2 i2:Expr)(f1 f2:List Expr)(scope:Scope)(pos:Pos)(it acc:Value)(env:Env):
 compTurn (sc2 elt t1 i1 t2 i2 f1 f2 scope pos) 1 it acc env=(do
  standAt i2.pos
  match←pyNext it with
  |none=>pure (.done .next)
  |some v=>
   letOwnedTupleGo t2 it v
   assign t2 env v
   let mut ok:=true
   for c in f2 do
    if ok then ok ←isTrue c env (eval c env)
   if ok then
    (do let v ←eval elt env;standAt elt.pos;let _ ←call (.builtin "set.add") [acc,v])
   again (.compLoop (sc2 elt t1 i1 t2 i2 f1 f2 scope pos) 1 it acc env)):=by rfl
section
variable{it:Value}
theorem zo7(I:Nat->Shared->Prop)
 (turn:∀n s,I n s->wpAny `Y3 A (pyNext it) (λr s1=>match r with
   |none=>R (.ok .next) s1
   |some v=>wpAny `Y3 A (letOwnedTupleGo t2 it v) (λ_ s1'=>wpAny `Y3 A (assign t2 env v) (λ_ s2=>wpAny `Y3 A (zcg f2 env) (λok s3=>
     if ok=true then wpAny `Y3 A (eval elt env) (λx s4=>wpAny `Y3 A (call (.builtin "set.add") [acc,x]) (λ_ s5=>∃m,m<n/\I m s5) (λ_ _=>False) s4) (λ_ _=>False) s3
     else∃m,m<n/\I m s3) (λ_ _=>False) s2) (λ_ _=>False) s1') (λ_ _=>False) s1) (λ_ _=>False) s)
 (n:Nat) (h:I n s):codeAny `Y3 A (.compLoop (sc2 elt t1 i1 t2 i2 f1 f2 scope pos) 1 it acc env) R s:=by
 have no:∀{E:Value->Shared->Prop} (e:Value) (s:Shared),(λ(_:Value) (_:Shared)=>False) e s->E e s:=λ_ _ z=>False.elim z
 refine codeAny_loop rfl I (λn s hI=>?_) n h
 show wpAny _ A ((compTurn (sc2 elt t1 i1 t2 i2 f1 f2 scope pos) 1 it acc env).onRaise (λx=>do noteFrame x env;theTreesLotGoes x)) _ _ s
 refine wpAny_noted ?_
 rw[zo8]
 refine A0 (J3 (A0 (K1 (turn n s hI) (λr s₁ h₁=>?_) no)))
 cases r with
 |none=>exact F0 h₁
 |some v=>
  refine A0 (K1 h₁ (λ_ s1' h1'=>?_) no)
  refine A0 (K1 h1' (λ_ s₂ h₂=>A0 (K1 h₂ (λok s₃ h₃=>?_) no)) no)
  cases ok with
  |false=>exact F0 ⟨rfl,h₃⟩
  |true=>
   exact A0 (A0 (K1 h₃ (λx s₄ h₄=>A0 (J3 (A0 (K1 h₄ (λ_ s₅ h₅=>F0 (F0 ⟨rfl,h₅⟩)) no)))) no))
theorem zpR(I:Nat->Shared->Prop)(hs2:∀x,foldedSetIterable i2 env x=pure x)
 (turn:∀n s,I n s->wpAny `Y3 A (pyNext it) (λr s1=>match r with
   |none=>R (.ok .next) s1
   |some v=>wpAny `Y3 A (letOwnedTupleGo t1 it v) (λ_ s1'=>wpAny `Y3 A (assign t1 env v) (λ_ s2=>wpAny `Y3 A (zcg f1 env) (λok s3=>
     if ok=true then wpAny `Y3 A (eval i2 env) (λx s4=>wpAny `Y3 A (pyIter x) (λit2 s5=>codeAny `Y3 A (.compStart (sc2 elt t1 i1 t2 i2 f1 f2 scope pos) 1 it2 acc env) (λr s6=>match r with| .ok _=>∃m,m<n/\I m s6| .error _=>False) s5) (λ_ _=>False) s4) (λ_ _=>False) s3
     else∃m,m<n/\I m s3) (λ_ _=>False) s2) (λ_ _=>False) s1') (λ_ _=>False) s1) (λ_ _=>False) s)
 (n:Nat) (h:I n s):codeAny `Y3 A (.compLoop (sc2 elt t1 i1 t2 i2 f1 f2 scope pos) 0 it acc env) R s:=by
 have no:∀{E:Value->Shared->Prop} (e:Value) (s:Shared),(λ(_:Value) (_:Shared)=>False) e s->E e s:=λ_ _ z=>False.elim z
 refine codeAny_loop rfl I (λn s hI=>?_) n h
 show wpAny _ A ((compTurn (sc2 elt t1 i1 t2 i2 f1 f2 scope pos) 0 it acc env).onRaise (λx=>do noteFrame x env;theTreesLotGoes x)) _ _ s
 refine wpAny_noted ?_
 rw[zpa]
 refine A0 (J3 (A0 (K1 (turn n s hI) (λr s₁ h₁=>?_) no)))
 cases r with
 |none=>exact F0 h₁
 |some v=>
  refine A0 (K1 h₁ (λ_ s1' h1'=>?_) no)
  refine A0 (K1 h1' (λ_ s₂ h₂=>A0 (K1 h₂ (λok s₃ h₃=>?_) no)) no)
  cases ok with
  |false=>exact F0 ⟨rfl,h₃⟩
  |true=>
   refine A0 (K1 h₃ (λx s₄ h₄=>A0 (J3 (A0 (wpAny_of_eq (hs2 x) (A0 (O2 (K1 h₄ (λit2 s₅ h₅=>?_) no))))))) no)
   refine A0 (wpAny_runOwn (codeAny_mono h₅ λr s₆ h₆=>?_))
   cases r with
   |error e=>exact False.elim h₆
   |ok f=>exact F0 ⟨rfl,h₆⟩
theorem zmm
 (h0:codeAny `Y3 A (.compLoop (sc2 elt t1 i1 t2 i2 f1 f2 scope pos) 1 it acc env) R s)
 (h:wpAny `Y3 A (pyIter it) (λit' s'=>codeAny `Y3 A (.compLoop (sc2 elt t1 i1 t2 i2 f1 f2 scope pos) 1 it' acc env) R s')
   (notedBy `Y3 A env λx s'=>R (.error x) s') s):
 codeAny `Y3 A (.compStart (sc2 elt t1 i1 t2 i2 f1 f2 scope pos) 1 it acc env) R s:=by
 refine codeAny_of_tree ?_
 show wpAny _ _ ((compStart (sc2 elt t1 i1 t2 i2 f1 f2 scope pos) 1 it acc env).onRaise (λx=>do noteFrame x env;standAt theWindowsPlace)) _ _ s
 refine wpAny_notedAt ?_
 unfold compStart
 show wpAny _ _ (ask>>=_) _ _ s
 refine A0 (wpAny_askSetting (wpAny_ite ?_))
 split
 ·first
   |exact A0 (F0 (F0 (And.intro rfl h0)))
   |exact F0 (And.intro rfl h0)
 ·refine A0 (wpAny_rule ?_)
  show wpAny _ _ (standAt i2.pos>>=_) _ _ s
  refine A0 (J3 ?_)
  exact A0 (K1 h (λit' s' h'=>F0 (And.intro rfl h')) λ_ _ z=>z)
theorem zor
 (h0:codeAny `Y3 A (.compLoop (sc2 elt t1 i1 t2 i2 f1 f2 scope pos) 0 it acc env) R s)
 (h:wpAny `Y3 A (pyIter it) (λit' s'=>codeAny `Y3 A (.compLoop (sc2 elt t1 i1 t2 i2 f1 f2 scope pos) 0 it' acc env) R s')
   (notedBy `Y3 A env λx s'=>R (.error x) s') s):
 codeAny `Y3 A (.compStart (sc2 elt t1 i1 t2 i2 f1 f2 scope pos) 0 it acc env) R s:=by
 refine codeAny_of_tree ?_
 show wpAny _ _ ((compStart (sc2 elt t1 i1 t2 i2 f1 f2 scope pos) 0 it acc env).onRaise (λx=>do noteFrame x env;standAt theWindowsPlace)) _ _ s
 refine wpAny_notedAt ?_
 unfold compStart
 show wpAny _ _ (ask>>=_) _ _ s
 refine A0 (wpAny_askSetting (wpAny_ite ?_))
 split
 ·first
   |exact A0 (F0 (F0 (And.intro rfl h0)))
   |exact F0 (And.intro rfl h0)
 ·refine A0 (wpAny_rule ?_)
  show wpAny _ _ (standAt i1.pos>>=_) _ _ s
  refine A0 (J3 ?_)
  exact A0 (K1 h (λit' s' h'=>F0 (And.intro rfl h')) λ_ _ z=>z)
end
def zok(w:World)(g2:TG)(tc2:TT)(te:TE)(l:Addr)(ys:List Str)(N:List Str->St->Hp->Prop)(J2:It)(σ2:St)(H5:Hp):Prop:=∃W:Nat->Nat->List Str->St->Hp->Prop,(∃m,W 0 m ys σ2 H5)/\∀i m ys σ' H',W i m ys σ' H'->H' l=some (StX w l ys)->
 (J2.stop i H'/\N ys σ' H')\/(J2.go i H'/\∃N2:List Str->St->Hp->Prop,(∀zs σ2 H2,N2 zs σ2 H2->∃m',m'<m/\W (i+1) m' zs σ2 H2)/\∀x H2,J2.yld i H' x H2->g2 x σ' H2 λσ2 H3=>tc2 σ2 H3 λb H4=>
   if b=true then te σ2 H4 λy H5=>∃z,y= .str z/\H5 l=some (StX w l ys)/\ys.length<76/\N2 (zb7 ys z) σ2 (upd H5 l (StX w l (zb7 ys z)))
   else H4 l=some (StX w l ys)/\N2 ys σ2 H4)
def zlb(w:World)(g:TG)(tc:TT)(wi2:TI)(g2:TG)(tc2:TT)(te:TE)(src:List (Option Nat))(σ:St)(Q:VK)(J:It)(H1:Hp):Prop:=∀l,H1 l=none->
 ∃W:Nat->Nat->List Str->St->Hp->Prop,(∃m,W 0 m [] (zdk src σ) (upd H1 l (StX w l [])))/\∀i m ys σ' H',W i m ys σ' H'->H' l=some (StX w l ys)->
  (J.stop i H'/\Q (.ref l) H')\/(J.go i H'/\∃N:List Str->St->Hp->Prop,(∀zs σ2 H2,N zs σ2 H2->∃m',m'<m/\W (i+1) m' zs σ2 H2)/\∀x H2,J.yld i H' x H2->g x σ' H2 λσ2 H3=>tc σ2 H3 λb H4=>
    if b=true then wi2 σ2 H4 λJ2 H5=>H5 l=some (StX w l ys)/\zok w g2 tc2 te l ys N J2 σ2 H5
    else H4 l=some (StX w l ys)/\N ys σ2 H4)
noncomputable def zob(w:World)(wi:TI)(g:TG)(tc:TT)(wi2:TI)(g2:TG)(tc2:TT)(te:TE)(src:List (Option Nat)):TE:=λσ H Q=>wi σ H (zlb w g tc wi2 g2 tc2 te src σ Q)
section
variable{src:List (Option Nat)}{g:TG}
theorem zmq(ok:CompOk X.N osc N' src scope)(hsc:X.env.scope=osc)(hc:X.calm=true)(hi:PI X tg iter wi)
 (hg:∀cl C s₀ H₀ fp,PG `X3 tg g) (ht:∀cl C s₀ H₀ fp,PIf `X3 ifs tc)
 (hi2:∀cl C s₀ H₀ fp,PI `X3 tg2 iter2 wi2) (hg2:∀cl C s₀ H₀ fp,PG `X3 tg2 g2) (ht2:∀cl C s₀ H₀ fp,PIf `X3 ifs2 tc2)
 (he:∀cl C s₀ H₀ fp,PE `X3 elt te) (hxe:∀cl C s₀ H₀ fp e s,(zg X N' scope cl C s₀ H₀ fp).xe e s->False)
 (hs:autoParam (∀x,foldedSetIterable iter X.env x=pure x) y4) (hs2:autoParam (∀env x,foldedSetIterable iter2 env x=pure x) v6):PE X (sc2 elt tg iter tg2 iter2 ifs ifs2 scope pos) (zob X.w wi g tc wi2 g2 tc2 te src):=by
 intro pins s σ H Q I h
 obtain⟨cl,hcl,c1,c2⟩:=zbK (scope:=scope) (env:=X.env) λy hy hyf=>I.ok.has y.1 (by
  have z:=ok.frees y hy hyf
  rw[←hsc] at z
  exact z)
 rw[arm_eval_SetComp]
 refine wpAny_comprehension_free (use:=none) rfl hs hcl ok.kind ok.loc (thn (hi pins s σ H _ I h) λv s1 h1=>thn h1 λitv s2 h2=>?_)
 obtain⟨it,fp,tn,J,H2,e,I2,T,st2,f2,q2⟩:=h2
 subst e
 have hlt2:∀b∈fp,b<s2.heap.objs.size:=λb hb=>by
  obtain⟨o,e,_⟩:=T.obj _ _ st2 b hb
  exact W0 e
 refine zhs ?_
 have hl:H2 s2.heap.objs.size=none:=I2.hok.fresh (L0 _)
 have I3:=I2.newSet
 obtain⟨W,⟨m0,w0⟩,turn⟩:=q2 _ hl
 generalize hl2:s2.heap.objs.size=l at *
 generalize hs3:({s2 with heap:=s2.heap.push (zed X.w)}:Shared)=s3 at *
 have f3:∀b∈fp,zb4 X pins (upd H2 l (StX X.w l [])) b:=λb hb=>⟨by rw[zc (P1 (hlt2 b hb))];exact(f2 b hb).1,(f2 b hb).2⟩
 have k3:∀b o,s2.heap.get? b=some o->s3.heap.get? b=some o:=λb o e=>by rw[←hs3];exact G0 _ e
 have hlt3:∀b∈fp,b<s3.heap.objs.size:=λb hb=>by
  obtain⟨o,e,_⟩:=T.obj _ _ st2 b hb
  exact W0 (k3 b o e)
 refine wpAny_newFunctionEnv ok.nocell (by intro y hy;simp at hy) (λh₁ hns₁ hsb₁=>?_) ok.kind
 have k4:∀b o,s3.heap.get? b=some o->h₁.get? b=some o:=λb o e=>(hsb₁.2 b (P1 (W0 e))).trans (G0 _ e)
 have J0:=zbF (tk:=s3.toks+([]:List (Str×Value)).length) I3 f3 hlt3 ok hsc c1 c2 hns₁ k4
 have st4:tn 0 h₁:=T.keep _ _ _ st2 λb hb o e=>k4 b o (k3 b o e)
 generalize hC:s3.heap.objs.size=C at *
 have stat:∀{H':Hp},(∀b∈fp,H' b=none)->∀b∈fp,zb4 (zg X N' scope cl C s3 (upd H2 l (StX X.w l [])) fp) [] H' b:=λ{H'} hn b hb=>
  ⟨hn b hb,(J0.ok.exf b hb).1,J0.ok.exfs b hb, .inl hb,(J0.ok.exf b hb).2,λp hp=>absurd (show p∈([]:List (Addr×Obj))from hp) `j3⟩
 have no:∀{α:Type} {t:Sem α} {Q':α->Shared->Prop} {s':Shared},wpAny `W3 X.A t Q' (zg X N' scope cl C s3 (upd H2 l (StX X.w l [])) fp).xe s'->wpAny `W3 X.A t Q' (λ_ _=>False) s':=λz=>K1 z (λ_ _ q=>q) λe s q=>hxe _ _ _ _ _ e s q
 have loop:codeAny `W3 X.A (.compLoop (sc2 elt tg iter tg2 iter2 ifs ifs2 scope pos) 0 (.ref it) (.ref l) (compEnvC scope cl C X.env))
  (compPost `W3 X.A X.xe none (EP X pins σ Q) (.ref l) C) {s3 with heap:=h₁,toks:=s3.toks+([]:List (Str×Value)).length}:=by
  refine zpR (λn s'=>∃i ys σ' H',Inv (zg X N' scope cl C s3 (upd H2 l (StX X.w l [])) fp) [] σ' H' s'/\tn i s'.heap/\(∀b∈fp,H' b=none)/\H' l=some (StX X.w l ys)/\W i n ys σ' H') (hs2 _) ?_ m0
   ⟨0,[],_,_,J0,st4,λb hb=>(f3 b hb).1,zb,w0⟩
  rintro n s5 ⟨i,ys,σ5,H5,I5,st5,fr5,hl5,w5⟩
  rcases turn i n ys σ5 H5 w5 hl5 with⟨stop,qn⟩|⟨go,N,hN,step⟩
  ·refine thn (T.done (zg X N' scope cl C s3 (upd H2 l (StX X.w l [])) fp) rfl rfl rfl hc i [] s5 σ5 H5 (λ_ _=>False) I5 (stat fr5) st5 stop) λr s6 ⟨hr,I6⟩=>?_
   subst hr
   obtain⟨m,hn,_⟩:=I6.loc
   exact⟨m,hn,λh' hsb=>⟨.ref l,H5,zbD I3 f3 (by rw[←hC];exact L0 _) I6 hsb,rfl,qn⟩⟩
  ·refine thn (T.item (zg X N' scope cl C s3 (upd H2 l (StX X.w l [])) fp) rfl rfl rfl hc i [] s5 σ5 H5 (λ_ _=>False) I5 (stat fr5) st5 go) λr s6 ⟨u,hr,h6⟩=>?_
   subst hr
   refine thn h6 λ_ s7 zq=>?_
   obtain⟨x,H7,I7,r7,y7,st7,fr7⟩:=zq
   have I7':=I7.pinned (stat fr7) (T.obj _ _ st7)
   refine thn (hg cl C s3 _ fp _ s7 σ5 H7 x u _ I7' r7 (step x H7 y7)) λ_ s8 zq=>?_
   obtain⟨σ8,H8,I8,q8⟩:=zq
   refine thn (ht cl C s3 _ fp _ s8 σ8 H8 _ I8 q8) λb s9 zq=>?_
   obtain⟨H9,I9,q9⟩:=zq
   have back:∀{s':Shared} {H':Hp} {σ':St},Inv (zg X N' scope cl C s3 (upd H2 l (StX X.w l [])) fp) ([]++zan fp s7.heap) σ' H' s'->tn (i+1) s'.heap/\∀b∈fp,H' b=none:=λ{s' H' σ'} I'=>by
    refine⟨T.keep _ _ _ st7 λb hb o e=>(I'.pin (b,o) (O0 _ (O0 _ (zv hb e)))).1,λb hb=>?_⟩
    obtain⟨o,e,d⟩:=T.obj _ _ st7 b hb
    exact(I'.pin (b,o) (O0 _ (O0 _ (zv hb e)))).2.1
   cases b with
   |false=>
    obtain⟨hl9,n9⟩:=q9
    obtain⟨m',hm,w9⟩:=hN _ _ _ n9
    obtain⟨t9,fr9⟩:=back I9
    exact⟨m',hm,i+1,ys,σ8,H9,I9.unpinned,t9,fr9,hl9,w9⟩
   |true=>
    refine thn (no (hi2 cl C s3 _ fp _ s9 σ8 H9 _ I9 q9)) λxv s10 h10=>thn (no h10) λitv2 s11 h11=>?_
    obtain⟨it2,fp2,tn2,J2,H11,e2,I11,T2,st11,ff2,hl11,W2,⟨m2,w2⟩,turn2⟩:=h11
    subst e2
    have stat2:∀{H':Hp},(∀b∈fp2,H' b=none)->∀b∈fp2,zb4 (zg X N' scope cl C s3 (upd H2 l (StX X.w l [])) fp) ([]++zan fp s7.heap) H' b:=λ{H'} hn b hb=>⟨hn b hb,(ff2 b hb).2⟩
    have inner:codeAny `W3 X.A (.compLoop (sc2 elt tg iter tg2 iter2 ifs ifs2 scope pos) 1 (.ref it2) (.ref l) (compEnvC scope cl C X.env)) (λr s6=>match r with| .ok _=>∃m,m<n/\∃i ys σ' H',Inv (zg X N' scope cl C s3 (upd H2 l (StX X.w l [])) fp) [] σ' H' s6/\tn i s6.heap/\(∀b∈fp,H' b=none)/\H' l=some (StX X.w l ys)/\W i m ys σ' H'| .error _=>False) s11:=by
     refine zo7 (λn s'=>∃j ys σ' H',Inv (zg X N' scope cl C s3 (upd H2 l (StX X.w l [])) fp) ([]++zan fp s7.heap) σ' H' s'/\tn2 j s'.heap/\(∀b∈fp2,H' b=none)/\H' l=some (StX X.w l ys)/\W2 j n ys σ' H') ?_ m2
      ⟨0,ys,_,_,I11,st11,λb hb=>(ff2 b hb).1,hl11,w2⟩
     rintro n2 s12 ⟨j,zs,σ12,H12,I12,st12,fr12,hl12,w12⟩
     rcases turn2 j n2 zs σ12 H12 w12 hl12 with⟨stop,qn⟩|⟨go,N2,hN2,step2⟩
     ·refine thn (T2.done (zg X N' scope cl C s3 (upd H2 l (StX X.w l [])) fp) rfl rfl rfl hc j _ s12 σ12 H12 (λ_ _=>False) I12 (stat2 fr12) st12 stop) λr s13 ⟨hr,I13⟩=>?_
      subst hr
      obtain⟨m',hm,w13⟩:=hN _ _ _ qn
      obtain⟨t13,fr13⟩:=back I13
      exact⟨m',hm,i+1,zs,σ12,H12,I13.unpinned,t13,fr13,hl12,w13⟩
     ·refine thn (T2.item (zg X N' scope cl C s3 (upd H2 l (StX X.w l [])) fp) rfl rfl rfl hc j _ s12 σ12 H12 (λ_ _=>False) I12 (stat2 fr12) st12 go) λr s13 ⟨u2,hr,h13⟩=>?_
      subst hr
      refine thn h13 λ_ s14 zq=>?_
      obtain⟨x2,H14,I14,r14,y14,st14,fr14⟩:=zq
      have I14':=I14.pinned (stat2 fr14) (T2.obj _ _ st14)
      refine thn (hg2 cl C s3 _ fp _ s14 σ12 H14 x2 u2 _ I14' r14 (step2 x2 H14 y14)) λ_ s15 zq=>?_
      obtain⟨σ15,H15,I15,q15⟩:=zq
      refine thn (ht2 cl C s3 _ fp _ s15 σ15 H15 _ I15 q15) λb s16 zq=>?_
      obtain⟨H16,I16,q16⟩:=zq
      have back2:∀{s':Shared} {H':Hp} {σ':St},Inv (zg X N' scope cl C s3 (upd H2 l (StX X.w l [])) fp) (([]++zan fp s7.heap)++zan fp2 s14.heap) σ' H' s'->tn2 (j+1) s'.heap/\∀b∈fp2,H' b=none:=λ{s' H' σ'} I'=>by
       refine⟨T2.keep _ _ _ st14 λb hb o e=>(I'.pin (b,o) (O0 _ (O0 _ (zv hb e)))).1,λb hb=>?_⟩
       obtain⟨o,e,d⟩:=T2.obj _ _ st14 b hb
       exact(I'.pin (b,o) (O0 _ (O0 _ (zv hb e)))).2.1
      cases b with
      |false=>
       obtain⟨hl16,n16⟩:=q16
       obtain⟨m',hm,w16⟩:=hN2 _ _ _ n16
       obtain⟨t16,fr16⟩:=back2 I16
       exact⟨m',hm,j+1,zs,σ15,H16,I16.unpinned,t16,fr16,hl16,w16⟩
      |true=>
       refine thn (he cl C s3 _ fp _ s16 σ15 H16 _ I16 q16) λxv2 s17 zq=>?_
       obtain⟨y,H17,I17,r17,z,rfl,hl17,hz,n17⟩:=zq
       obtain⟨tk,rfl⟩:=r17
       obtain⟨m',hm,w17⟩:=hN2 _ _ _ n17
       refine znR (X:=zg X N' scope cl C s3 (upd H2 l (StX X.w l [])) fp) I17 hl17 hz λs18 I18=>?_
       obtain⟨t18,fr18⟩:=back2 I18
       exact⟨m',hm,j+1,zb7 zs z,σ15,_,I18.unpinned,t18,fr18,zb,w17⟩
    exact zmm inner (T2.self _ 0 _ _ _ st11 inner)
 exact zor loop (T.self _ 0 _ _ _ st4 loop)
theorem zqm(ok:CompOk X.N osc N' src scope)(hsc:X.env.scope=osc)(hc:X.calm=true)(hi:QI X tg iter wi)
 (hg:∀cl C s₀ H₀ fp,QG `X3 tg g) (ht:∀cl C s₀ H₀ fp,QF `X3 ifs tc)
 (hi2:∀cl C s₀ H₀ fp,QI `X3 tg2 iter2 wi2) (hg2:∀cl C s₀ H₀ fp,QG `X3 tg2 g2) (ht2:∀cl C s₀ H₀ fp,QF `X3 ifs2 tc2)
 (he:∀cl C s₀ H₀ fp,QE `X3 elt te) (hxe:autoParam (∀cl C s₀ H₀ fp e s,(zg X N' scope cl C s₀ H₀ fp).xe e s->False) v7)
 (hs:autoParam (∀x,foldedSetIterable iter X.env x=pure x) y4) (hs2:autoParam (∀env x,foldedSetIterable iter2 env x=pure x) v6):QE X (.SetComp elt [⟨tg,iter,ifs,0⟩,⟨tg2,iter2,ifs2,0⟩] scope pos) (zob X.w wi g tc wi2 g2 tc2 te src):=
 ⟨zmq ok hsc hc hi.o (λcl C s₀ H₀ fp=>(hg cl C s₀ H₀ fp).o) (λcl C s₀ H₀ fp=>(ht cl C s₀ H₀ fp).o) (λcl C s₀ H₀ fp=>(hi2 cl C s₀ H₀ fp).o) (λcl C s₀ H₀ fp=>(hg2 cl C s₀ H₀ fp).o) (λcl C s₀ H₀ fp=>(ht2 cl C s₀ H₀ fp).o) (λcl C s₀ H₀ fp=>(he cl C s₀ H₀ fp).o) hxe hs hs2⟩
end
section
variable{o:Obj}{es:Array (Int×Value)}{xs:List (Str×Tok)}
theorem zlM(ho:s.heap.get? S=some o)(T:TxSet w o es ep t xs){mask:Nat}(hw:SetTable.sizeAbove wanted=mask+1)(hm:zaE mask)(few:xs.length*5<mask*3){Q:Unit->Shared->Prop}
 (q:∀h' o' es' ep' t' xs',Heap.SameBut S s.heap h'->h'.get? S=some o'->TxSet w o' es' ep' t' xs'->xs'.Perm xs->Q Unit.unit {s with heap:=h'}):
 wpAny `Y3 A (setRelay S wanted) Q E s:=by
 rw[znV]
 refine A0 (Q2 ho T.dat T.fits ?_)
 dsimp only
 have hz:=T.size
 have m127:mask<=255:=by rcases hm with e|e|e|e|e|e<;>lia
 rw[P0 (by rw[hw,K3];lia)]
 obtain⟨t2,order,e1,e2,e3,e4,e5,e6⟩:=zkD (finger:=t.finger) (moves:=t.movedTo mask) (led:=t.led) (plain:=t.plain) hm (es:=es) (by rw[hz];lia)
 have er:t.relaid (es.map (·.1)) wanted=some (t2,order):=by
  unfold SetTable.relaid
  rw[hw]
  exact e1
 rw[er]
 dsimp only
 have hsz:(order.filterMap (es[·]?)).size=es.size:=by rw[←C1,e3.length_eq,C1]
 rw[P0 (by rw[hsz];simp)]
 refine A0 (F0 ?_)
 refine wpAny_storeSet_of ho T.dat ?_ (by rw[hsz,hz,K3];lia)
 rw[T.ents] at e3
 obtain⟨ys,py,ey⟩:=zaT e3 xs rfl
 have sb:=K2 s.heap S (Obj.putSet (order.filterMap (es[·]?)) t2)
 refine q _ _ (order.filterMap (es[·]?)) (ep+1) t2 ys sb (zhL ho T.dat _ _) ?_ py
 refine{ex:=T.ex,dat:=rfl,ents:=ey,lay:=?_,few:=by rw[py.length_eq,e2];exact few,led:=by rw[e5,T.led],plain:=λh=>by rw[e6];exact T.plain λz=>h (by rw[z] at py;exact py.eq_nil),nd:=((py.map _).nodup_iff).mpr T.nd}
 rw[ey,G3] at e4;exact e4
theorem zgo{more:Nat}{Q:Unit->Shared->Prop}(ho:s.heap.get? S=some o)(T:TxSet w o es ep t xs)(h:(xs.length+more)*5<t.mask*3)(q:Q Unit.unit s):wpAny `Y3 A (setRoomFor S more) Q E s:=by
 unfold setRoomFor
 refine A0 (Q2 ho T.dat T.fits ?_)
 dsimp only
 have e:t.roomFor more=none:=by
  unfold SetTable.roomFor SetTable.fill
  rw[T.lay.dum,T.psize]
  exact P0 (by simp;lia)
 rw[e]
 exact F0 q
theorem zlO{more mask:Nat}{Q:Unit->Shared->Prop}(ho:s.heap.get? S=some o)(T:TxSet w o es ep t xs)(h:¬(xs.length+more)*5<t.mask*3)(hw:SetTable.sizeAbove ((xs.length+more)*2)=mask+1)(hm:zaE mask)(few:xs.length*5<mask*3)
 (q:∀h' o' es' ep' t' xs',Heap.SameBut S s.heap h'->h'.get? S=some o'->TxSet w o' es' ep' t' xs'->xs'.Perm xs->Q Unit.unit {s with heap:=h'}):wpAny `Y3 A (setRoomFor S more) Q E s:=by
 unfold setRoomFor
 refine A0 (Q2 ho T.dat T.fits ?_)
 dsimp only
 have e:t.roomFor more=some ((xs.length+more)*2):=by
  unfold SetTable.roomFor SetTable.fill
  rw[T.lay.dum,T.psize]
  exact c0 (by simp;lia)
 rw[e]
 exact zlM ho T hw hm few q
theorem zou(ho:s.heap.get? S=some o)(T:TxSet w o es ep t xs)(h:zav w=true\/xs.length<=1){Q:Array (Int×Value)->Shared->Prop}(q:∀(arr:Array (Int×Value)) (ys:List (Str×Tok)),ys.Perm xs->arr.toList=ys.map (zaK w)->Q arr s):wpAny `Y3 A (setWalk S) Q E s:=by
 unfold setWalk
 refine A0 (Q2 ho T.dat T.fits ?_)
 dsimp only
 refine A0 (zc9 ?_)
 by_cases hb:zav w=true
 ·rw[c0 hb]
  refine A0 (wpAny_askSetting (F0 ?_))
  obtain⟨ys,py,ey⟩:=zaT (f:=zaK w) ((zen (f:=w.params.setOrder S ep) es).trans (by rw[T.ents])) xs rfl
  exact q _ ys py ey
 ·rw[P0 hb]
  have hl:xs.length<=1:=h.resolve_left hb
  have hs:=T.size
  refine wpAny_ite_split (λz=>?_) (λ_=>?_)
  ·have z:(!t.plain&&decide (es.size>1))=true:=z
   rw[A1 (),Bool.and_false] at z;cases z
  ·refine A0 (m:=(if(!t.led&&decide (es.size>1))=true then unsupported "set:maker-not-led"else pure Unit.unit)) ?_
   rw[A1 (),Bool.and_false,P0 ⋯]
   exact F0 (F0 (q es xs (.refl _) T.ents))
theorem zdz{β:Type}{f:(Int×Value)->β->Sem (ForInStep β)}{b:β}(hf:∀y,f (zaK w y) b=pure (.yield b)):∀l:List (Str×Tok),(forIn (l.map (zaK w)) b f:Sem β)=pure b
 |[]=>rfl
 |y::l=>by
  rw[V1,List.forIn_cons,hf y,pure_bind]
  exact zdz hf l
theorem zlr{R:Addr}(ho:s.heap.get? S=some o)(T:TxSet w o es ep t xs)(hoR:s.heap.get? R=some oR)(TR:TxSet w oR esR epR tR zs){Q:Bool->Shared->Prop}(q:Q true s):
 wpAny `Y3 A (setsQuiet [S,R]) Q E s:=by
 unfold setsQuiet
 simp only[List.forIn_cons,List.forIn_nil]
 refine A0 (A0 (A0 (wpAny_setEntries_of ho T.dat T.fits ?_)))
 rw[←Array.forIn_toList,T.ents,zdz (λy=>rfl)]
 refine A0 (F0 (F0 ?_))
 dsimp only
 refine A0 (A0 (wpAny_setEntries_of hoR TR.dat TR.fits ?_))
 rw[←Array.forIn_toList,TR.ents,zdz (λy=>rfl)]
 refine A0 (F0 (F0 ?_))
 dsimp only
 exact F0 (F0 q)
theorem zj8{R:Addr}(ho:s.heap.get? S=some o)(T:TxSet w o es ep t xs)(hoR:s.heap.get? R=some oR)(TR:TxSet w oR esR epR tR zs)(hz:zs≠ []){Q:Array (Int×Value)->Shared->Prop}
 (q:∀(arr:Array (Int×Value)) (ys:List (Str×Tok)),ys.Perm xs->arr.toList=ys.map (zaK w)->Q arr s):wpAny `Y3 A (setWalkUnseen S [R] (some R)) Q E s:=by
 unfold setWalkUnseen
 refine A0 (Q2 ho T.dat T.fits ?_)
 dsimp only
 refine A0 (zc9 ?_)
 have hs:=T.size
 by_cases hb:zav w=true\/xs.length<=1
 ·rw[c0 (by
   rcases hb with h|h
   ·simp[h]
   ·simp[hs,h])]
  exact zou ho T hb q
 ·have hb1:zav w=false:=by cases h:zav w with|false=>rfl|true=>exact absurd (.inl h) hb
  have hl:¬xs.length<=1:=λh=>hb (.inr h)
  have hp:t.plain=false:=T.plain λz=>hl (by rw[z];exact X1 _)
  rw[P0 (by rw[hb1,hp,Bool.and_false];simp[hs];lia)]
  refine A0 (zlr ho T hoR TR ?_)
  rw[P0 ⋯]
  refine A0 (wpAny_rule ?_)
  refine A0 (Q2 hoR TR.dat TR.fits ?_)
  dsimp only
  rw[P0 (by rw[TR.led,T.led,TR.plain hz,hp];cases zav w<;>decide)]
  exact F0 (q es xs (.refl _) T.ents)
theorem zjD{R:Addr}{f:(Int×Value)->PUnit->Sem (ForInStep PUnit)}(hSR:S≠R)
 (hf:∀(y:Str×Tok) (h:Heap) (oR:Obj) (esR:Array (Int×Value)) (epR:Nat) (tR:SetTable) (zs:List (Str×Tok)) (Q':ForInStep PUnit->Shared->Prop),h.get? S=some o->h.get? R=some oR->TxSet w oR esR epR tR zs->zs.length<76->
   (∀h' o' es' ep' t' zs',Heap.SameBut R h h'->h'.get? R=some o'->TxSet w o' es' ep' t' zs'->(∀x,x∈zs'.map (·.1)↔x∈zs.map (·.1)\/x=y.1)->zs'.length<=zs.length+1->Q' (.yield ⟨⟩) {s with heap:=h'})->wpAny `Y3 A (f (zaK w y) ⟨⟩) Q' E {s with heap:=h}):
 ∀(l:List (Str×Tok)) (h:Heap) (oR:Obj) (esR:Array (Int×Value)) (epR:Nat) (tR:SetTable) (zs:List (Str×Tok)) (Q:PUnit->Shared->Prop),h.get? S=some o->h.get? R=some oR->TxSet w oR esR epR tR zs->zs.length+l.length<76->
  (∀h' o' es' ep' t' zs',Heap.SameBut R h h'->h'.get? R=some o'->TxSet w o' es' ep' t' zs'->(∀x,x∈zs'.map (·.1)↔x∈zs.map (·.1)\/x∈l.map (·.1))->Q ⟨⟩ {s with heap:=h'})->wpAny `Y3 A (forIn (l.map (zaK w)) PUnit.unit f) Q E {s with heap:=h}:=by
 intro l
 induction l with
 |nil=>
  intro h oR esR epR tR zs Q g gR TR hl q
  exact F0 (q h oR esR epR tR zs (Heap.SameBut.refl R h) gR TR λx=>`j3)
 |cons y l ih=>
  intro h oR esR epR tR zs Q g gR TR hl q
  rw[Y1] at hl
  rw[V1,List.forIn_cons]
  refine A0 (hf y h oR esR epR tR zs _ g gR TR () λh' o' es' ep' t' zs' sb g' T' hm hl'=>?_)
  dsimp only
  refine ih h' o' es' ep' t' zs' Q (by rw[sb.2 S hSR];exact g) g' T' () λh2 o2 es2 ep2 t2 zs2 sb2 g2 T2 hm2=>q h2 o2 es2 ep2 t2 zs2 (sb.trans sb2) g2 T2 λx=>?_
  rw[hm2 x,hm x,V1,R0,or_assoc]
theorem zni(h:n<=18):∃mask,SetTable.sizeAbove (n*2)=mask+1/\zaE mask:=by
 have key:∀k≤18,(SetTable.sizeAbove (k*2) -1)∈ [7,15,31,63]/\0<SetTable.sizeAbove (k*2):=`Z3
 obtain⟨a,b⟩:=key n h
 refine⟨SetTable.sizeAbove (n*2) -1,(),?_⟩
 simp only[R0,List.not_mem_nil,or_false] at a
 rcases a with e|e|e|e
 ·exact .inl e
 ·exact .inr (.inl e)
 ·exact .inr (.inr (.inl e))
 ·exact .inr (.inr (.inr (.inl e)))
theorem zqP{m:Nat}(h:zaE m):7<=m:=by rcases h with e|e|e|e|e|e<;>lia
theorem zlL{id:String}{R:Addr}(ho:s.heap.get? S=some o)(T:TxSet w o es ep t xs)(hoR:s.heap.get? R=some oR)(TR:TxSet w oR esR epR tR zs)(hSR:S≠R)(hz:zs≠ [])(hz4:zs.length<=4)(hx:xs.length<=14){Q:Unit->Shared->Prop}
 (q:∀h' o' es' ep' t' zs',Heap.SameBut R s.heap h'->h'.get? R=some o'->TxSet w o' es' ep' t' zs'->(∀x,x∈zs'.map (·.1)↔x∈zs.map (·.1)\/x∈xs.map (·.1))->Q Unit.unit {s with heap:=h'}):wpAny `Y3 A (Builtin.Frozenset.merge id R S) Q E s:=by
 have hs:=T.size
 unfold Builtin.Frozenset.merge
 refine A0 (wpAny_setEpoch_of ho T.dat T.fits ?_)
 unfold setMerge
 rw[P0 (by simpa using hSR.symm)]
 refine A0 (Q2 ho T.dat T.fits ?_)
 dsimp only
 by_cases h0:xs=[]
 ·rw[c0 (by subst h0;have:es.size=0:=hs;simpa using this)]
  refine F0 ?_
  exact q s.heap oR esR epR tR zs (Heap.SameBut.refl R s.heap) hoR TR λx=>by subst h0;simp
 ·have hpos:0<xs.length:=List.length_pos_iff.mpr h0
  rw[P0 (by intro z;have:es.size=0:=(by simpa using z);lia)]
  have rest:∀(h1:Heap) (o1:Obj) (es1:Array (Int×Value)) (ep1:Nat) (t1:SetTable) (zs1:List (Str×Tok)),Heap.SameBut R s.heap h1->h1.get? R=some o1->TxSet w o1 es1 ep1 t1 zs1->zs1.Perm zs->
   wpAny `Y3 A (do
    let(_,_,ts) ←setState R
    match ts.road t with
    | .slotForSlot=>storeSet R es {t with finger:=ts.finger,led:=ts.led&&t.led,moves:=ts.moves,plain:=ts.plain&&t.plain}
    | .clean=>do
      let(es,t) ←(do
       let some (t,order):=SetTable.laid ts.mask ts.finger ts.moves (led:=ts.led&&t.led) (plain:=ts.plain&&t.plain) (es.map (·.1))|unsupported "internal:set-table-without-room"
       let es':=order.filterMap (es[·]?)
       if es'.size !=es.size then unsupported "internal:set-table-lost-an-element"
       pure (es',t))
      storeSet R es t
    | .oneByOne=>
      for (h,x)in←setWalkUnseen S [R] (some R) do
       let _ ←holding [x] (setAddHashed R x h)
       Builtin.Frozenset.unchanged id S ep
       if(←setState S).2.1 !=ep then unsupported "set.changed-during-merge") Q E {s with heap:=h1}:=by
   intro h1 o1 es1 ep1 t1 zs1 sb g1 T1 p1
   have gS:h1.get? S=some o:=by rw[sb.2 S hSR];exact ho
   have n1:zs1≠ []:=λz=>hz (by rw[z] at p1;exact p1.symm.eq_nil)
   refine A0 (Q2 (s:={s with heap:=h1}) g1 T1.dat T1.fits ?_)
   dsimp only
   have er:t1.road t= .oneByOne:=by
    unfold SetTable.road SetTable.fill
    rw[T1.lay.dum,T1.psize]
    refine c0 ?_
    have:zs1.length≠0:=λz=>n1 (List.eq_nil_of_length_eq_zero z)
    simpa using this
   rw[er]
   dsimp only
   refine A0 (zj8 (s:={s with heap:=h1}) gS T g1 T1 n1 λarr ys py ey=>?_)
   rw[←Array.forIn_toList,ey]
   refine A0 (zjD (s:=s) (o:=o) hSR (λy h oR esR epR tR zs Q' g gR TR hl q'=>?_) ys h1 o1 es1 ep1 t1 zs1 _ gS g1 T1 (by rw[p1.length_eq,py.length_eq];lia) λh2 o2 es2 ep2 t2 zs2 sb2 g2 T2 hm=>?_)
   ·dsimp only[zaK]
    have tail:∀(h':Heap) (b:Bool),h'.get? S=some o->Q' (.yield ⟨⟩) {s with heap:=h'}->wpAny `Y3 A (do
     Builtin.Frozenset.unchanged id S ep
     if(←setState S).2.1 !=ep then do
      unsupported "set.changed-during-merge"
      pure (ForInStep.yield PUnit.unit)
     else pure (ForInStep.yield PUnit.unit)) Q' E {s with heap:=h'}:=λh' b g' q2=>by
     unfold Builtin.Frozenset.unchanged
     refine A0 (A0 (wpAny_setEpoch_of (s:={s with heap:=h'}) g' T.dat T.fits ?_))
     rw[P0 `j3]
     refine F0 (A0 (Q2 (s:={s with heap:=h'}) g' T.dat T.fits ?_))
     rw[P0 `j3]
     exact F0 q2
    refine A0 (O2 (znc (s:={s with heap:=h}) gR TR hl (λhk=>?_) (λhk h' o' es' ep' t' zs' sb' g' T' pm=>?_)))
    ·refine tail h false g (q' h oR esR epR tR zs (Heap.SameBut.refl R h) gR TR (λx=>?_) (Nat.le_succ _))
     exact⟨.inl,λz=>z.elim (λh=>h) λe=>by rw[e];exact hk⟩
    ·refine tail h' true (by rw[sb'.2 S hSR];exact g) (q' h' o' es' ep' t' zs' sb' g' T' (λx=>?_) (by rw[pm.length_eq];exact L0 _))
     rw[(pm.map (·.1)).mem_iff,V1,R0,or_comm]
   ·refine F0 (q h2 o2 es2 ep2 t2 zs2 (sb.trans sb2) g2 T2 λx=>?_)
    rw[hm x,(p1.map (·.1)).mem_iff,(py.map (·.1)).mem_iff]
  by_cases c:(zs.length+es.size)*5<tR.mask*3
  ·exact A0 (zgo hoR TR c (rest s.heap oR esR epR tR zs (Heap.SameBut.refl R s.heap) hoR TR (.refl _)))
  ·obtain ⟨mask,w1,w2⟩:=zni (n:=zs.length+es.size) ()
   have:=zqP w2
   exact A0 (zlO hoR TR c w1 w2 () λh' o' es' ep' t' zs' sb g' T' pm=>rest h' o' es' ep' t' zs' sb g' T' pm)
theorem znL(ho:s.heap.get? S=some o)(T:TxSet w o es ep t xs)(hx:xs≠ [])(hx4:xs.length<=4)
 (q:∀h' o' es' ep' t' zs',(∀b o,s.heap.get? b=some o->h'.get? b=some o)->h'.get? s.heap.objs.size=some o'->TxSet w o' es' ep' t' zs'->zs'.Perm xs->Q (.ref s.heap.objs.size) {s with heap:=h'}):wpAny `Y3 A (Builtin.Frozenset.copyOf S) Q E s:=by
 have hs:=T.size
 have Slt:S<s.heap.objs.size:=W0 ho
 have hpos:0<xs.length:=List.length_pos_iff.mpr hx
 unfold Builtin.Frozenset.copyOf Builtin.Frozenset.baseOf
 refine A0 (A0 (wpAny_isInstance (T:="set") (b:=true) ⟨o,ho,T.ex.1⟩ sub_set_self (F0 ?_)))
 refine A0 (zhs ?_)
 unfold Builtin.Frozenset.addrOf
 refine A0 (F0 ?_)
 have gR:(s.heap.push (zed w)).get? s.heap.objs.size=some (zed w):=T0 _ rfl
 have gS:(s.heap.push (zed w)).get? S=some o:=G0 _ ho
 have TR:TxSet w (zed w) #[] 0 (.fresh 0 0 (!zav w)) []:=zit rfl
 refine A0 ?_
 unfold setMerge
 rw[P0 (by simpa using Nat.ne_of_gt Slt)]
 refine A0 (Q2 (s:={s with heap:=s.heap.push (zed w)}) gS T.dat T.fits ?_)
 dsimp only
 rw[P0 (by intro z;have:es.size=0:=(by simpa using z);lia)]
 refine A0 (zgo (s:={s with heap:=s.heap.push (zed w)}) gR TR (by show(0+es.size)*5<21;lia) ?_)
 refine A0 (Q2 (s:={s with heap:=s.heap.push (zed w)}) gR TR.dat TR.fits ?_)
 dsimp only
 have fin:∀(es':Array (Int×Value)) (t':SetTable) (zs:List (Str×Tok)),es'.toList=zs.map (zaK w)->zs.Perm xs->LayT t' (zs.map λx=>hashStr w x.1)->t'.led=(!zav w)->t'.plain=false->7<=t'.mask->
  wpAny `Y3 A (storeSet s.heap.objs.size es' t') (λ_ s'=>wpAny `Y3 A (pure (Value.ref s.heap.objs.size)) Q E s') E {s with heap:=s.heap.push (zed w)}:=by
  intro es' t' zs e1 pz l1 l2 l3 l4
  have z1:es'.size=xs.length:=by rw[←C1,e1,C0,pz.length_eq]
  refine wpAny_storeSet_of (s:={s with heap:=s.heap.push (zed w)}) gR TR.dat (F0 ?_) (by rw[z1,K3];lia)
  refine q _ _ es' (0+1) t' zs (λb o hb=>?_) (zhL gR TR.dat _ _) {ex:=TR.ex,dat:=rfl,ents:=e1,lay:=l1,few:=by rw[pz.length_eq];lia,led:=l2,plain:=λ_=>l3,nd:=((pz.map _).nodup_iff).mpr T.nd} pz
  have sb:=K2 (s.heap.push (zed w)) s.heap.objs.size (Obj.putSet es' t')
  rw[sb.2 b (P1 (W0 hb))]
  exact G0 _ hb
 have hpl:t.plain=false:=T.plain hx
 by_cases c:t.mask=7
 ·have er:(SetTable.fresh 0 0 (!zav w)).road t= .slotForSlot:=by
   unfold SetTable.road
   rw[P0 (by rw[show(SetTable.fresh 0 0 (!zav w)).fill=0 from rfl];decide)]
   refine c0 ?_
   rw[c,T.lay.dum];rfl
  rw[er]
  dsimp only
  exact fin es _ xs T.ents (.refl _) (T.lay.same rfl rfl rfl) (by rw[T.led];cases zav w<;>rfl) (by show((SetTable.fresh 0 0 (!zav w)).plain&&t.plain)=false;rw[hpl,Bool.and_false]) (zqP T.lay.mask)
 ·have er:(SetTable.fresh 0 0 (!zav w)).road t= .clean:=by
   unfold SetTable.road
   rw[P0 (by rw[show(SetTable.fresh 0 0 (!zav w)).fill=0 from rfl];decide)]
   refine P0 ?_
   rw[T.lay.dum]
   intro z
   rw[E1] at z
   exact c (Eq.symm (by simpa[SetTable.fresh] using z.1))
  rw[er]
  dsimp only
  obtain⟨t2,order,e1,e2,e3,e4,e5,e6⟩:=zkD (mask:=7) (finger:=0) (moves:=0) (led:=(!zav w)&&t.led) (plain:=true&&t.plain) (.inl rfl) (es:=es) ()
  have hsz:(order.filterMap (es[·]?)).size=es.size:=by rw[←C1,e3.length_eq,C1]
  rw[T.ents] at e3
  obtain⟨ys,py,ey⟩:=zaT e3 xs rfl
  refine A0 (m:=(do
   let some (t,order):=SetTable.laid 7 0 0 ((!zav w)&&t.led) (true&&t.plain) (es.map (·.1))|unsupported "internal:set-table-without-room"
   let es':=order.filterMap (es[·]?)
   if es'.size !=es.size then unsupported "internal:set-table-lost-an-element"
   pure (es',t))) ?_
  rw[e1]
  dsimp only
  rw[P0 (by rw[hsz];simp)]
  refine F0 ?_
  exact fin _ t2 ys ey py (by rw[ey,G3] at e4;exact e4) (by rw[e5,T.led];cases zav w<;>rfl) (by rw[e6,hpl];rfl) ()
theorem zro:entryFor table "set.__or__"=some Builtin.«frozenset.__or__»:=entryFor_alias (id':="frozenset.__or__") (by kernel_rfl) (by first|rfl|decide +kernel) `Z3 (by kernel_rfl)
theorem zg2{Q:Bool->Shared->Prop}(ty:s.TypeIs (.ref a) "set")(q:Q true s):wpAny `Y3 A (Builtin.Frozenset.isAnySet (.ref a)) Q E s:=by
 unfold Builtin.Frozenset.isAnySet
 exact A0 (wpAny_isInstance (T:="set") (b:=true) ty sub_set_self (F0 q))
theorem zrk{R:Addr}(ho:s.heap.get? S=some o)(T:TxSet w o es ep t xs)(hoR:s.heap.get? R=some oR)(TR:TxSet w oR esR epR tR zs)(hSR:R≠S)(hx:xs≠ [])(hx4:xs.length<=4)(hz:zs.length<=14)
 (q:∀h' o' es' ep' t' ys',(∀b o,s.heap.get? b=some o->h'.get? b=some o)->h'.get? s.heap.objs.size=some o'->TxSet w o' es' ep' t' ys'->(∀x,x∈ys'.map (·.1)↔x∈xs.map (·.1)\/x∈zs.map (·.1))->Q (.ref s.heap.objs.size) {s with heap:=h'}):wpAny `Y3 A (binaryOp .BitOr (.ref S) (.ref R)) Q E s:=by
 have tyS:s.TypeIs (.ref S) "set":=⟨o,ho,T.ex.1⟩
 have tyR:s.TypeIs (.ref R) "set":=⟨oR,hoR,TR.ex.1⟩
 refine wpAny_binaryOp_same tyS tyR F.fills_set_or F.slot_set_or (G2 F.slot_set_or tyS zro ?_ (F.args_set_or_2 _ _))
 unfold Builtin.«frozenset.__or__»
 refine A0 (m:=Builtin.Frozenset.slot1 "__or__" ⟨[.ref S, .ref R],[]⟩) ?_
 refine wpAny_of_eq (a:=(Value.ref S,Value.ref R)) rfl ?_
 dsimp only
 rw[P0 ⋯]
 dsimp only
 refine A0 (A0 (m:=Builtin.Frozenset.isAnySet (.ref S)) (zg2 tyS ?_))
 refine(show wpAny _ _ (Builtin.Frozenset.isAnySet (.ref R)) _ _ s from zg2 tyR ?_)
 rw[P0 ⋯]
 unfold Builtin.Frozenset.addrOf
 refine A0 (F0 ?_)
 try dsimp only
 refine A0 (A0 (m:=Builtin.Frozenset.copyOf S) (znL ho T hx hx4 λh1 o1 es1 ep1 t1 ys1 k1 g1 T1 p1=>?_))
 dsimp only
 have Rlt:R<s.heap.objs.size:=W0 hoR
 rw[c0 (by
  have:(Value.ref R==Value.ref S)=false:=beq_eq_false_iff_ne.mpr λz=>hSR (by injection z)
  simp[bne,this])]
 refine A0 (F0 (A0 (O2 ?_)))
 unfold Builtin.Frozenset.updateFrom
 refine A0 (zg2 (s:={s with heap:=h1}) ⟨oR,k1 _ _ hoR,TR.ex.1⟩ ?_)
 rw[c0 rfl]
 refine A0 (F0 ?_)
 have n1:ys1≠ []:=λz=>hx (by rw[z] at p1;exact p1.symm.eq_nil)
 refine zlL (s:={s with heap:=h1}) (k1 _ _ hoR) TR g1 T1 (P1 Rlt) n1 (by rw[p1.length_eq];exact hx4) hz λh2 o2 es2 ep2 t2 ys2 sb g2 T2 hm=>?_
 refine F0 (F0 ⟨_,rfl,`j3,q h2 o2 es2 ep2 t2 ys2 (λb o' e=>?_) g2 T2 λx=>?_⟩)
 ·rw[sb.2 b (P1 (W0 e))];exact k1 b o' e
 ·rw[hm x,(p1.map (·.1)).mem_iff]
end
noncomputable def za0(a b:List Str):List Str:=b.foldl zb7 a
theorem zdJ{x:Str}:∀{b a:List Str},x∈za0 a b↔x∈a\/x∈b
 |[],a=>by simp[za0]
 |y::b,a=>by
  show x∈za0 (zb7 a y) b↔_
  rw[zdJ,zie,R0,or_assoc]
theorem zev:∀{b a:List Str},a.Nodup->(za0 a b).Nodup
 |[],_,h=>h
 |y::b,a,h=>zev (b:=b) (a:=zb7 a y) (zkl h)
noncomputable def zty(w:World):R2:=λx y H Q=>∃(p q:Addr) (ks js:List Str),x= .ref p/\y= .ref q/\q≠p/\H p=some (StX w p ks)/\H q=some (StX w q js)/\ks≠ []/\ks.length<=4/\js.length<=14/\∀l,H l=none->Q (.ref l) (upd H l (StX w l (za0 ks js)))
theorem zsn:OpR X (binaryOp .BitOr) (zty X.w):=by
 intro pins s σ H x y v u Q I rx ry h
 obtain⟨p,q,ks,js,rfl,rfl,hqp,hp,hq,k0,k4,j14,qq⟩:=h
 cases rx
 cases ry
 obtain⟨⟨o,es,ep,t,xs,g,T,pk⟩,_⟩:=I.hok p _ hp
 obtain⟨⟨o2,es2,ep2,t2,zs,g2,T2,pj⟩,_⟩:=I.hok q _ hq
 have lx:xs.length=ks.length:=by rw[←pk.length_eq,C0]
 have lz:zs.length=js.length:=by rw[←pj.length_eq,C0]
 refine zrk g T g2 T2 hqp (λz=>k0 (by rw[z] at pk;exact pk.symm.eq_nil)) () () λh' o' es' ep' t' ys' kp g' T' hm=>?_
 refine⟨.ref s.heap.objs.size,_,I.laid (a:=s.heap.objs.size) (o:=StX X.w s.heap.objs.size (za0 ks js)) (t':=s.toks) kp (L0 _) ⟨⟨o',es',ep',t',ys',g',T',?_⟩,⟨_,g'⟩,λ_ _ r k=>zfH r k⟩,rfl,qq _ (I.hok.fresh (L0 _))⟩
 refine(List.perm_ext_iff_of_nodup T'.nd (zev (pk.nodup_iff.mp T.nd))).mpr λx=>?_
 rw[hm x,zdJ,pk.mem_iff,pj.mem_iff]
theorem Fun.okQC{st:Stmt}{ps:List Str}(F:Fun K x qual st f fd)(S:FnScope N ps (ze st))(len:∀vs H Q E,sp vs H Q E->vs.length=ps.length)
 (hbody:∀(cdv:Value) (A:Around) (outer:List Env) (s:Shared) (H:Hp) (vs:List V) (Q:VK) (E:XK),W.kdsCode K cdv=true->Room k (A.deeper (envOfC qual (ze st) s.heap.objs.size f cdv))->sp vs H Q E->
   ∃t,QB (zgg CX0 P w K mg base N qual (ze st) f cdv A outer s H E).nox (zL st) t/\t {nx:=λ_ H'=>Q .non H',rt:=Q} (start N vs) H):FnOk P w K mg base CX0 (k+1) f fd ps sp:=by
 obtain⟨oc,od,kV,doc,pm,an,cdv,ct,osl,rfl,lk,hcd⟩:=F.ex
 have hk:W.kdsCode K cdv=true:=by
  unfold W.codeIn at hcd
  unfold W.kdsCode
  cases cdv with
  |ref c=>
   dsimp only at hcd⊢
   cases e:K.lookup c with
   |none=>rw[e] at hcd;cases hcd
   |some o'=>
    obtain⟨a,b,d,e'⟩:=o'
    rw[e] at hcd
    cases d<;>first|rfl|cases hcd
  |_=>cases hcd
 refine znH lk hcd S len λA outer s H vs Q E hr hsp=>?_
 obtain⟨t,h,q⟩:=hbody cdv A outer s H vs Q E hk hr hsp
 exact⟨t,h.o.nox,q⟩
section
open PySem.W PyProof.V
section
variable{K:Type}[DecidableEq K]{knd:HeapKind prog w K}{d:Addr}{xs:List (K×Addr×Value)}{k:K}{v:Value}
end
end
section
variable{P:Nat->Value->Prop}{St:Nat->Heap->Prop}
end
section
variable{q:Str}{st:Stmt}{ps:List Str}
theorem erA(E:Er K x st)(X:K.In h)(G:h.Ns mainGlobals mg)
 (hb:∀(kV doc pm:Value) (an:Option Addr) (cdv ct:Value) (us:List Value),us.length=ps.length->bindArgs (W.fnOf x x (zY st) (zL st) (ze st) .none kV doc pm an cdv ct) ⟨us,[]⟩=pure (ps.zip us)):
 At K mg x st ps E.f9 (W.fnOf x x (zY st) (zL st) (ze st) .none E.kV9 E.dc9 E.pm9 E.an9 E.cd9 E.ct9):=
 ⟨zm7 E.l9 E.c9 E.k9,(zm7 E.l9 E.c9 E.k9).binds hb,W.mg_of X G E.a9,E.k9⟩
theorem erD(E:ErD K x st)(m:Nat)(X:K.In h)(G:h.Ns mainGlobals mg)(hm:ps.length=m+1)
 (hb:∀(dt:Addr) (kV doc pm:Value) (an:Option Addr) (cdv ct:Value) (us:List Value),us.length=m+1->∃k:Option (Array Value)->Sem (List (Str×Value)),bindArgs (W.fnOf x x (zY st) (zL st) (ze st) (.ref dt) kV doc pm an cdv ct) ⟨us,[]⟩=seqItems? (.ref dt)>>=k/\k (some #[.none])=pure (ps.zip (us ++ [])))
 (hd:∀(dt:Addr) (kV doc pm:Value) (an:Option Addr) (cdv ct:Value) (us:List Value),us.length=m->∃k:Option (Array Value)->Sem (List (Str×Value)),bindArgs (W.fnOf x x (zY st) (zL st) (ze st) (.ref dt) kV doc pm an cdv ct) ⟨us,[]⟩=seqItems? (.ref dt)>>=k/\k (some #[.none])=pure (ps.zip (us ++ [.none]))):
 AtD K mg x st ps E.f9 (W.fnOf x x (zY st) (zL st) (ze st) (.ref E.dt9) E.kV9 E.dc9 E.pm9 E.an9 E.cd9 E.ct9):=
 ⟨zhr E.l9 E.d9 E.c9 E.k9,(zhr E.l9 E.d9 E.c9 E.k9).binds (m+1) hm hb,(zhr E.l9 E.d9 E.c9 E.k9).binds m hm hd,W.mg_of X G E.a9,E.k9⟩
end
noncomputable abbrev zpc:List Str:=["cond","way","marks","to","word","about"]
noncomputable abbrev zcf:List Str:=["cond","way","marks","to"]
theorem ze3:FnScope zpc zcf (ze zha):=⟨rfl,rfl,rfl,`Z3,rfl,`Z3,`Z3⟩
noncomputable abbrev zjv:List Str:=["conds","way","marks","to","cond"]
noncomputable abbrev zbx:List Str:=["conds","way","marks","to"]
theorem zfF:FnScope zjv zbx (ze zdG):=⟨rfl,rfl,rfl,`Z3,rfl,`Z3,`Z3⟩
noncomputable abbrev zht:List Str:=["town","house"]
noncomputable abbrev zbv:List Str:=["town","house"]
theorem zhb:FnScope zht zbv (ze zcr):=⟨rfl,rfl,rfl,`Z3,rfl,`Z3,`Z3⟩
noncomputable abbrev zjs:List Str:=["town","house"]
noncomputable abbrev zcw:List Str:=["town","house"]
theorem zjL:FnScope zjs zcw (ze zdx):=⟨rfl,rfl,rfl,`Z3,rfl,`Z3,`Z3⟩
noncomputable abbrev zj0:List Str:=["town","house","ties"]
noncomputable abbrev zfa:List Str:=["town","house"]
theorem zno:FnScope zj0 zfa (ze zfl):=⟨rfl,rfl,rfl,`Z3,rfl,`Z3,`Z3⟩
noncomputable def zn0:Scope:={kind:= .function,names:=[(".0", .local),("a", .local),("b", .local),("house", .free)],isGenerator:=false,isCoroutine:=false,more:=[]}
theorem zfs:CompOk zj0 (ze zfl) ["a","b","house"] [none,none,some 1] zn0:=⟨rfl,`Z3,`Z3,`Z3,`Z3,rfl,`Z3⟩
noncomputable def zn9:Scope:={kind:= .function,names:=[(".0", .local),("a", .local),("b", .local),("house", .free)],isGenerator:=false,isCoroutine:=false,more:=[]}
theorem zfC:CompOk zj0 (ze zfl) ["a","b","house"] [none,none,some 1] zn9:=⟨rfl,`Z3,`Z3,`Z3,`Z3,rfl,`Z3⟩
noncomputable abbrev zcV:List Str:=["marks","act","word","mark","others"]
noncomputable abbrev zaM:List Str:=["marks","act"]
theorem zaQ:FnScope zcV zaM (ze zaR):=⟨rfl,rfl,rfl,`Z3,rfl,`Z3,`Z3⟩
noncomputable def zez:Scope:={kind:= .function,names:=[(".0", .local),("one", .local),("mark", .free)],isGenerator:=false,isCoroutine:=false,more:=[]}
theorem zca:CompOk zcV (ze zaR) ["one","mark"] [none,some 3] zez:=⟨rfl,`Z3,`Z3,`Z3,`Z3,rfl,`Z3⟩
noncomputable abbrev znF:List Str:=["town","way","marks","to","told","conds","act"]
noncomputable abbrev zdZ:List Str:=["town","way","marks","to"]
theorem zc2:FnScope znF zdZ (ze zfw):=⟨rfl,rfl,rfl,`Z3,rfl,`Z3,`Z3⟩
noncomputable abbrev zoX:List Str:=["town","way","marks","conds","told"]
noncomputable abbrev zej:List Str:=["town","way","marks"]
theorem zhi:FnScope zoX zej (ze zhv):=⟨rfl,rfl,rfl,`Z3,rfl,`Z3,`Z3⟩
noncomputable abbrev zhk:List Str:=["town","way","marks"]
noncomputable abbrev zbp:List Str:=["town","way","marks"]
theorem zhU:FnScope zhk zbp (ze zcq):=⟨rfl,rfl,rfl,`Z3,rfl,`Z3,`Z3⟩
noncomputable abbrev zaD:List Str:=["town","marked","keys"]
noncomputable abbrev zad:List Str:=["town","marked"]
theorem zbI:FnScope zaD zad (ze zS):=⟨rfl,rfl,rfl,`Z3,rfl,`Z3,`Z3⟩
noncomputable def zcE:Scope:={kind:= .function,names:=[(".0", .local),("way", .local),("marks", .local),("liking_key", .globalImplicit),("town", .free)],isGenerator:=false,isCoroutine:=false,more:=[]}
theorem zao:CompOk zaD (ze zS) ["way","marks","town"] [none,none,some 0] zcE:=⟨rfl,`Z3,`Z3,`Z3,`Z3,rfl,`Z3⟩
noncomputable def zc4:Scope:={kind:= .function,names:=[(".0", .local),("key", .local)],isGenerator:=false,isCoroutine:=false,more:=[]}
theorem zbg:CompOk zaD (ze zS) ["key"] [none] zc4:=⟨rfl,`Z3,`Z3,`Z3,`Z3,rfl,`Z3⟩
noncomputable abbrev zf6:List Str:=["town","way","marks","house","told"]
noncomputable abbrev zax:List Str:=["town","way","marks","house"]
theorem zds:FnScope zf6 zax (ze zb3):=⟨rfl,rfl,rfl,`Z3,rfl,`Z3,`Z3⟩
noncomputable abbrev zjT:List Str:=["town","way","told","at"]
noncomputable abbrev zcm:List Str:=["town","way"]
theorem zch:FnScope zjT zcm (ze zdI):=⟨rfl,rfl,rfl,`Z3,rfl,`Z3,`Z3⟩
noncomputable abbrev ziZ:List Str:=["town","start","found","fresh","way","house","told"]
noncomputable abbrev zbP:List Str:=["town"]
theorem zal:FnScope ziZ zbP (ze zcO):=⟨rfl,rfl,rfl,`Z3,rfl,`Z3,`Z3⟩
noncomputable abbrev zju:List Str:=["town","goal","houses","marked","way","marks"]
noncomputable abbrev zh1:List Str:=["town"]
theorem zeq:FnScope zju zh1 (ze zfN):=⟨rfl,rfl,rfl,`Z3,rfl,`Z3,`Z3⟩
noncomputable def zmQ:Scope:={kind:= .function,names:=[(".0", .local),("house", .local)],isGenerator:=false,isCoroutine:=false,more:=[]}
theorem zi9:CompOk zju (ze zfN) ["house"] [none] zmQ:=⟨rfl,`Z3,`Z3,`Z3,`Z3,rfl,`Z3⟩
noncomputable def zmH:Scope:={kind:= .function,names:=[(".0", .local),("house", .local),("most_liked_first", .globalImplicit),("goal", .free),("marked", .free),("town", .free)],isGenerator:=false,isCoroutine:=false,more:=[]}
theorem ziD:CompOk zju (ze zfN) ["house","goal","marked","town"] [none,some 1,some 3,some 0] zmH:=⟨rfl,`Z3,`Z3,`Z3,`Z3,rfl,`Z3⟩
noncomputable abbrev zgv:List Str:=["kin"]
noncomputable abbrev zdj:List Str:=["kin"]
theorem zl5:FnScope zgv zdj (ze zde):=⟨rfl,rfl,rfl,`Z3,rfl,`Z3,`Z3⟩
noncomputable def zh9:Scope:={kind:= .function,names:=[(".0", .local),("row", .local),("tuple", .globalImplicit),("sorted", .globalImplicit)],isGenerator:=false,isCoroutine:=false,more:=[]}
theorem zeS:CompOk zgv (ze zde) ["row"] [none] zh9:=⟨rfl,`Z3,`Z3,`Z3,`Z3,rfl,`Z3⟩
noncomputable abbrev zjQ:List Str:=["kin","one","other"]
noncomputable abbrev zbC:List Str:=["kin","one","other"]
theorem zjV:FnScope zjQ zbC (ze zdH):=⟨rfl,rfl,rfl,`Z3,rfl,`Z3,`Z3⟩
noncomputable abbrev zgb:List Str:=["house","near","kin","fond","rules","other","more"]
noncomputable abbrev za2:List Str:=["house","near","kin","fond"]
theorem za5:FnScope zgb za2 (ze zb1):=⟨rfl,rfl,rfl,`Z3,rfl,`Z3,`Z3⟩
noncomputable abbrev zc0:List Str:=["house","near","kin","others"]
noncomputable abbrev zbT:List Str:=["house","near","kin"]
theorem zeR:FnScope zc0 zbT (ze zba):=⟨rfl,rfl,rfl,`Z3,rfl,`Z3,`Z3⟩
noncomputable def zgd:Scope:={kind:= .function,names:=[(".0", .local),("other", .local),("is_elder", .globalImplicit),("house", .free),("kin", .free)],isGenerator:=false,isCoroutine:=false,more:=[]}
theorem zdp:CompOk zc0 (ze zba) ["other","house","kin"] [none,some 0,some 2] zgd:=⟨rfl,`Z3,`Z3,`Z3,`Z3,rfl,`Z3⟩
noncomputable def zf8:Scope:={kind:= .function,names:=[(".0", .local),("one", .local),("other", .local),("others", .free)],isGenerator:=false,isCoroutine:=false,more:=[]}
theorem zb0:CompOk zc0 (ze zba) ["one","other","others"] [none,none,some 3] zf8:=⟨rfl,`Z3,`Z3,`Z3,`Z3,rfl,`Z3⟩
noncomputable abbrev zbE:List Str:=["goal","kin","fond","houses","bare","near","likings","hands"]
noncomputable abbrev zcA:List Str:=["goal","kin","fond"]
theorem zaW:FnScope zbE zcA (ze zaB):=⟨rfl,rfl,rfl,`Z3,rfl,`Z3,`Z3⟩
noncomputable def zhK:Scope:={kind:= .function,names:=[(".0", .local),("row", .local),("name", .local)],isGenerator:=false,isCoroutine:=false,more:=[]}
theorem zcs:CompOk zbE (ze zaB) ["row","name"] [none,none] zhK:=⟨rfl,`Z3,`Z3,`Z3,`Z3,rfl,`Z3⟩
noncomputable def zh0:Scope:={kind:= .function,names:=[(".0", .local),("house", .local),("tied", .globalImplicit),("bare", .free)],isGenerator:=false,isCoroutine:=false,more:=[]}
theorem zdN:CompOk zbE (ze zaB) ["house","bare"] [none,some 4] zh0:=⟨rfl,`Z3,`Z3,`Z3,`Z3,rfl,`Z3⟩
noncomputable def zhj:Scope:={kind:= .function,names:=[(".0", .local),("house", .local),("kin_likings", .globalImplicit),("fond", .free),("kin", .free),("near", .free)],isGenerator:=false,isCoroutine:=false,more:=[]}
theorem zd5:CompOk zbE (ze zaB) ["house","fond","kin","near"] [none,some 2,some 1,some 5] zhj:=⟨rfl,`Z3,`Z3,`Z3,`Z3,rfl,`Z3⟩
noncomputable def zhw:Scope:={kind:= .function,names:=[(".0", .local),("house", .local),("kin_hands", .globalImplicit),("kin", .free),("near", .free)],isGenerator:=false,isCoroutine:=false,more:=[]}
theorem zd4:CompOk zbE (ze zaB) ["house","kin","near"] [none,some 1,some 5] zhw:=⟨rfl,`Z3,`Z3,`Z3,`Z3,rfl,`Z3⟩
noncomputable abbrev zjg:List Str:=["_law_script","_law_k","_law_cell"]
noncomputable abbrev zbS:List Str:=["_law_script","_law_k"]
theorem zc1:FnScope zjg zbS (ze zcR):=⟨rfl,rfl,rfl,`Z3,rfl,`Z3,`Z3⟩
noncomputable abbrev zii:List Str:=["_law_hand_here","_law_many","_law_digit","_law_turn","_law_mixed","_law_more"]
noncomputable abbrev z7:List Str:=["_law_hand_here","_law_many"]
theorem zaH:FnScope zii z7 (ze zcS):=⟨rfl,rfl,rfl,`Z3,rfl,`Z3,`Z3⟩
noncomputable abbrev zir:List Str:=["_law_hand_here","_law_some"]
noncomputable abbrev zaG:List Str:=["_law_hand_here","_law_some"]
theorem ziq:FnScope zir zaG (ze zcU):=⟨rfl,rfl,rfl,`Z3,rfl,`Z3,`Z3⟩
noncomputable abbrev zd1:List Str:=["_law_hand_here","_law_many","_law_letters","_law_first","_law_step","_law_names_here","_law_kept","_law_spot","_law_k"]
noncomputable abbrev zbr:List Str:=["_law_hand_here","_law_many"]
theorem zX:FnScope zd1 zbr (ze zbs):=⟨rfl,rfl,rfl,`Z3,rfl,`Z3,`Z3⟩
noncomputable def zft:Scope:={kind:= .function,names:=[(".0", .local),("_law_k", .local),("_law_first", .free),("_law_letters", .free),("_law_step", .free)],isGenerator:=false,isCoroutine:=false,more:=[]}
theorem zc7:CompOk zd1 (ze zbs) ["_law_k","_law_first","_law_letters","_law_step"] [none,some 3,some 2,some 4] zft:=⟨rfl,`Z3,`Z3,`Z3,`Z3,rfl,`Z3⟩
noncomputable abbrev zfX:List Str:=["_law_hand_here","_law_houses","_law_more","_law_pairs","_law_k","_law_a","_law_b","_law_rows","_law_pair","_law_one","_law_other"]
noncomputable abbrev zcl:List Str:=["_law_hand_here","_law_houses","_law_more"]
theorem zam:FnScope zfX zcl (ze zcz):=⟨rfl,rfl,rfl,`Z3,rfl,`Z3,`Z3⟩
noncomputable def zhl:Scope:={kind:= .function,names:=[(".0", .local),("_law_k", .local),("_law_take", .globalImplicit),("_law_hand_here", .free)],isGenerator:=false,isCoroutine:=false,more:=[]}
theorem zdM:CompOk zfX (ze zcz) ["_law_k","_law_hand_here"] [none,some 0] zhl:=⟨rfl,`Z3,`Z3,`Z3,`Z3,rfl,`Z3⟩
noncomputable abbrev zeT:List Str:=["_law_kin_here","_law_elder","_law_house"]
noncomputable abbrev zaA:List Str:=["_law_kin_here","_law_elder","_law_house"]
theorem zeZ:FnScope zeT zaA (ze zbk):=⟨rfl,rfl,rfl,`Z3,rfl,`Z3,`Z3⟩
noncomputable abbrev zh4:List Str:=["_law_hand_here","_law_kin_here","_law_fond_here","_law_row","_law_two"]
noncomputable abbrev zbV:List Str:=["_law_hand_here","_law_kin_here"]
theorem zbM:FnScope zh4 zbV (ze zcQ):=⟨rfl,rfl,rfl,`Z3,rfl,`Z3,`Z3⟩
noncomputable abbrev zg0:List Str:=["_law_kin_here","_law_house","_law_found","_law_one","_law_other","_law_word","_law_far"]
noncomputable abbrev zbq:List Str:=["_law_kin_here","_law_house"]
theorem zaq:FnScope zg0 zbq (ze zct):=⟨rfl,rfl,rfl,`Z3,rfl,`Z3,`Z3⟩
noncomputable abbrev zil:List Str:=["_law_kin_here","_law_goal","_law_ahead","_law_last","_law_found","_law_step","_law_far"]
noncomputable abbrev z9:List Str:=["_law_kin_here","_law_goal","_law_ahead","_law_last"]
theorem zbc:FnScope zil z9 (ze zcX):=⟨rfl,rfl,rfl,`Z3,rfl,`Z3,`Z3⟩
noncomputable abbrev zjw:List Str:=["_law_kin_here","_law_fond_here","_law_way","_law_number"]
noncomputable abbrev zck:List Str:=["_law_kin_here","_law_fond_here","_law_way"]
theorem zfj:FnScope zjw zck (ze zdw):=⟨rfl,rfl,rfl,`Z3,rfl,`Z3,`Z3⟩
noncomputable abbrev zkU:List Str:=["_law_script","_law_k","_law_hand_here","_law_houses","_law_kin_here","_law_goal","_law_fond_here","_law_town","_law_found","_law_house","_law_due"]
noncomputable abbrev zmD:List Str:=["_law_script"]
theorem zcK:FnScope zkU zmD (ze zfz):=⟨rfl,rfl,rfl,`Z3,rfl,`Z3,`Z3⟩
noncomputable def zp5:Scope:={kind:= .function,names:=[(".0", .local),("_law_way", .local),("_law_key", .globalImplicit),("_law_fond_here", .free),("_law_kin_here", .free)],isGenerator:=false,isCoroutine:=false,more:=[]}
theorem zkq:CompOk zkU (ze zfz) ["_law_way","_law_fond_here","_law_kin_here"] [none,some 6,some 4] zp5:=⟨rfl,`Z3,`Z3,`Z3,`Z3,rfl,`Z3⟩
noncomputable def zpb:Scope:={kind:= .function,names:=[(".0", .local),("_law_key_here", .local),("_law_way", .local)],isGenerator:=false,isCoroutine:=false,more:=[]}
theorem zhP:CompOk zkU (ze zfz) ["_law_key_here","_law_way"] [none,none] zpb:=⟨rfl,`Z3,`Z3,`Z3,`Z3,rfl,`Z3⟩
noncomputable def zoY:Scope:={kind:= .function,names:=[(".0", .local),("_law_way", .local),("marks_of", .globalImplicit),("_law_town", .free)],isGenerator:=false,isCoroutine:=false,more:=[]}
theorem zkB:CompOk zkU (ze zfz) ["_law_way","_law_town"] [none,some 7] zoY:=⟨rfl,`Z3,`Z3,`Z3,`Z3,rfl,`Z3⟩
set_option genInjectivity false in
set_option genSizeOfSpec false in
set_option genSizeOf false in
structure Ev(K:W.Frag)(mg:Str->Option Value) where
 a_holds:Addr
 d_holds:FuncData
 holds:AtD K mg "holds" zha zcf a_holds d_holds
 a_all_hold:Addr
 d_all_hold:FuncData
 all_hold:AtD K mg "all_hold" zdG zbx a_all_hold d_all_hold
 a_likings_of:Addr
 d_likings_of:FuncData
 likings_of:At K mg "likings_of" zcr zbv a_likings_of d_likings_of
 a_hands_of:Addr
 d_hands_of:FuncData
 hands_of:At K mg "hands_of" zdx zcw a_hands_of d_hands_of
 a_tied:Addr
 d_tied:FuncData
 tied:At K mg "tied" zfl zfa a_tied d_tied
 a_marks_behind:Addr
 d_marks_behind:FuncData
 marks_behind:At K mg "marks_behind" zaR zaM a_marks_behind d_marks_behind
 a_handed:Addr
 d_handed:FuncData
 handed:At K mg "handed" zfw zdZ a_handed d_handed
 a_worth:Addr
 d_worth:FuncData
 worth:At K mg "worth" zhv zej a_worth d_worth
 a_liking_key:Addr
 d_liking_key:FuncData
 liking_key:At K mg "liking_key" zcq zbp a_liking_key d_liking_key
 a_most_liked_first:Addr
 d_most_liked_first:FuncData
 most_liked_first:At K mg "most_liked_first" zS zad a_most_liked_first d_most_liked_first
 a_marks_ahead:Addr
 d_marks_ahead:FuncData
 marks_ahead:At K mg "marks_ahead" zb3 zax a_marks_ahead d_marks_ahead
 a_marks_of:Addr
 d_marks_of:FuncData
 marks_of:At K mg "marks_of" zdI zcm a_marks_of d_marks_of
 a_let_marks:Addr
 d_let_marks:FuncData
 let_marks:At K mg "let_marks" zcO zbP a_let_marks d_let_marks
 a_lets:Addr
 d_lets:FuncData
 lets:At K mg "lets" zfN zh1 a_lets d_lets
 a_ties_of:Addr
 d_ties_of:FuncData
 ties_of:At K mg "ties_of" zde zdj a_ties_of d_ties_of
 a_is_elder:Addr
 d_is_elder:FuncData
 is_elder:At K mg "is_elder" zdH zbC a_is_elder d_is_elder
 a_kin_likings:Addr
 d_kin_likings:FuncData
 kin_likings:At K mg "kin_likings" zb1 za2 a_kin_likings d_kin_likings
 a_kin_hands:Addr
 d_kin_hands:FuncData
 kin_hands:At K mg "kin_hands" zba zbT a_kin_hands d_kin_hands
 a_kin_town:Addr
 d_kin_town:FuncData
 kin_town:At K mg "kin_town" zaB zcA a_kin_town d_kin_town
 a__law_hand:Addr
 d__law_hand:FuncData
 _law_hand:At K mg "_law_hand" zcR zbS a__law_hand d__law_hand
 a__law_take:Addr
 d__law_take:FuncData
 _law_take:At K mg "_law_take" zcS z7 a__law_take d__law_take
 a__law_pick:Addr
 d__law_pick:FuncData
 _law_pick:At K mg "_law_pick" zcU zaG a__law_pick d__law_pick
 a__law_names:Addr
 d__law_names:FuncData
 _law_names:At K mg "_law_names" zbs zbr a__law_names d__law_names
 a__law_kin:Addr
 d__law_kin:FuncData
 _law_kin:At K mg "_law_kin" zcz zcl a__law_kin d__law_kin
 a__law_is_child:Addr
 d__law_is_child:FuncData
 _law_is_child:At K mg "_law_is_child" zbk zaA a__law_is_child d__law_is_child
 a__law_fond:Addr
 d__law_fond:FuncData
 _law_fond:At K mg "_law_fond" zcQ zbV a__law_fond d__law_fond
 a__law_steps:Addr
 d__law_steps:FuncData
 _law_steps:At K mg "_law_steps" zct zbq a__law_steps d__law_steps
 a__law_gone:Addr
 d__law_gone:FuncData
 _law_gone:At K mg "_law_gone" zcX z9 a__law_gone d__law_gone
 a__law_key:Addr
 d__law_key:FuncData
 _law_key:At K mg "_law_key" zdw zck a__law_key d__law_key
 a_law:Addr
 d_law:FuncData
 law:At K mg "law" zfz zmD a_law d_law
 v_MOST_LET:Value
 m_MOST_LET:mg "MOST_LET"=some v_MOST_LET
 r_MOST_LET:RelV (.int 400) v_MOST_LET
 v_MORE_BY_CHILD:Value
 m_MORE_BY_CHILD:mg "MORE_BY_CHILD"=some v_MORE_BY_CHILD
 r_MORE_BY_CHILD:RelV (.int 100) v_MORE_BY_CHILD
 all:mg "all"=none
 dict:mg "dict"=none
 enumerate:mg "enumerate"=none
 int:mg "int"=none
 isinstance:mg "isinstance"=none
 len:mg "len"=none
 list:mg "list"=none
 max:mg "max"=none
 min:mg "min"=none
 range:mg "range"=none
 repr:mg "repr"=none
 reversed:mg "reversed"=none
 sorted:mg "sorted"=none
 str:mg "str"=none
 tuple:mg "tuple"=none
 zip:mg "zip"=none
section
noncomputable def zew:Sp:=λvs H Q _=>∃(a:Addr) (k n:Int),vs=[.ref a, .int k]/\Hand H a n/\n<2^40/\0<k/\k<1073741824/\∀d H',0<=d->d<k->Hand H' a (n+1)->Keep a H H'->Q (.int d) H'
theorem zd2(Y:Ev K mg):FnOk P w K mg base CX0 1 Y.a__law_take Y.d__law_take z7 zew:=by
 refine Y._law_take.fn.okQ zaH (λvs H Q E h=>?_) `V3
 ·obtain ⟨a,k,n,rfl,_⟩:=h
  rfl
 ·obtain ⟨a,k,n,rfl,⟨x,m,t,hH,m0,m1,t0,t1⟩,hn,k0,k1,q⟩:=h
  refine⟨_,(zh (zaX (zK zmE (zag zaz (qv 0) zk) zk) (zh (zE 2 zaH.nd (zN zcu (zag zaz (qv 0) zk) (qv 1)))
   (zh (zgA (zN zhn (zag zaz (qv 0) zk) (qv 1)) (znA (qv 0) zk zfg))
   (zm (zw (qv 2))))) z8)
   (zh (zgA (zN zaF (zag zaz (qv 0) zk) zk) (znA (qv 0) zk zfg))
   (zh (zE 3 zaH.nd (zag zaz (qv 0) zk))
   (zh (zE 4 zaH.nd (zN zcu (zN zbl (zag zaz (qv 0) zk) (zN zaF (zN zaF zk (zN zbl (zN zbl zk (qv 3)) (qv 3))) (zN zbl zk (qv 3)))) zk))
   (zh (zE 5 zaH.nd (zN zaF (zN zaF (zN zcu (qv 4) zk) (zN zbl (qv 3) zk)) zk))
   (zh (zE 4 zaH.nd (zN zcu (zN zbl (qv 4) (qv 5)) zk))
   (zm (zw (zN zcu (zN zaF (zN zhn (qv 4) zk) (zN zhn (qv 4) zk)) (qv 1)))))))))),?_⟩
  repeat (first|with_reducible_and_instances refine⟨_,rfl,?_⟩|refine⟨_,rfl,?_⟩|refine⟨_,_,rfl,rfl,?_⟩|refine⟨_,_,_,_,rfl,rfl,SqL.of (by assumption),rfl,?_⟩|refine⟨_,_,_,_,rfl,rfl,(by assumption),rfl,?_⟩|refine .inl ⟨_,rfl,?_⟩|refine .inr ⟨_,rfl,?_⟩|refine⟨(by first|assumption|decide|lia|exact few rfl|exact .inl ⟨⋯,⋯⟩|exact .inr ⟨⋯,⋯⟩|exact .inl ⟨(),()⟩|exact .inr ⟨(),()⟩|exact⟨(),()⟩),?_⟩)
  refine zd9 (λhx=>?_) (λhx=>?_)
  ·repeat (first|with_reducible_and_instances refine⟨_,rfl,?_⟩|refine⟨_,rfl,?_⟩|refine⟨_,_,rfl,rfl,?_⟩|refine⟨_,_,_,_,rfl,rfl,SqL.of (by assumption),rfl,?_⟩|refine⟨_,_,_,_,rfl,rfl,(by assumption),rfl,?_⟩|refine .inl ⟨_,rfl,?_⟩|refine .inr ⟨_,rfl,?_⟩|refine⟨(by first|assumption|decide|lia|exact few rfl|exact .inl ⟨⋯,⋯⟩|exact .inr ⟨⋯,⋯⟩|exact .inl ⟨(),()⟩|exact .inr ⟨(),()⟩|exact⟨(),()⟩),?_⟩)
   exact q _ _ (Int.emod_nonneg _ ()) (Int.emod_lt_of_pos _ k0) ⟨_,m,t,zb,m0,m1,t0,()⟩ (Keep.upd _ _ _)
  ·refine ⟨_,rfl,a,_,_,_,rfl,rfl,SqL.of hH,rfl,_,_,rfl,rfl,_,rfl,a,_,_,_,rfl,rfl,hH,rfl,?_⟩
   have h2:upd H a (.lst [.int x, .int m, .int (t+1)]) a=some (.lst [.int x, .int m, .int (t+1)]):=zb
   repeat (first|with_reducible_and_instances refine⟨_,rfl,?_⟩|refine⟨_,rfl,?_⟩|refine⟨_,_,rfl,rfl,?_⟩|refine⟨_,_,_,_,rfl,rfl,SqL.of (by assumption),rfl,?_⟩|refine⟨_,_,_,_,rfl,rfl,(by assumption),rfl,?_⟩|refine .inl ⟨_,rfl,?_⟩|refine .inr ⟨_,rfl,?_⟩|refine⟨(by first|assumption|decide|lia|exact few rfl|exact .inl ⟨⋯,⋯⟩|exact .inr ⟨⋯,⋯⟩|exact .inl ⟨(),()⟩|exact .inr ⟨(),()⟩|exact⟨(),()⟩),?_⟩)
   exact q _ _ (Int.emod_nonneg _ ()) (Int.emod_lt_of_pos _ k0) ⟨_,m,_,zb,m0,m1,(),()⟩ (Keep.upd _ _ _)
noncomputable def zg6(K:W.Frag):Sp:=λvs H Q _=>∃(a:Addr) (n:Int),Hand H a n/\n<2^40/\
 ((∃(b:Addr) (xs:List V),vs=[.ref a, .ref b]/\b≠a/\SqL K H b xs/\0<xs.length/\xs.length<1000/\∀v H',v∈xs->Hand H' a (n+1)->Keep a H H'->Q v H')\/
  (∃z:Str,vs=[.ref a, .str z]/\0<z.length/\z.length<1000/\∀c H',c∈z.cps.toList->Hand H' a (n+1)->Keep a H H'->Q (.str (one c)) H'))
theorem zhm(Y:Ev K mg):FnOk P w K mg base CX0 2 Y.a__law_pick Y.d__law_pick zaG (zg6 K):=by
 have G__law_take:FnOk P w K mg base CX0 1 Y.a__law_take Y.d__law_take z7 zew:=zd2 Y
 refine Y._law_pick.fn.okQ ziq (λvs H Q E h=>?_) `V3
 ·obtain ⟨a,n,_,_,⟨b,xs,rfl,_⟩|⟨z,rfl,_⟩⟩:=h<;>rfl
 ·obtain ⟨a,n,hH,hn,h⟩:=h
  have hl:∀m:Nat,m<1000->m<=sizeLine:=λm h=>A3 (zj (A3 h))
  rcases h with⟨b,xs,rfl,hb,hS,x0,x1,q⟩|⟨z,rfl,z0,z1,q⟩
  ·refine ⟨_,(zm (zw (zag zns (qv 1) (zo G__law_take (hr.mono ⋯) Y._law_take.mg Y._law_take.kp Y._law_take.b .nil zu (za (qv 0) (za (zr zQ Y.len zaP (za (qv 1) zd)) zd)))))),?_⟩
   refine⟨_,rfl,_,rfl,_,rfl, .inl ⟨b,xs,rfl, .inl hS,a,_,n,rfl,hH,hn,(),(),λd H' h0 h1 hH' kp=>?_⟩⟩
   obtain⟨v,e,hv⟩:=zhZ h0 h1
   exact .inl ⟨b,xs,d,v,rfl,rfl,kp.sqL hb hS,e,q v H' hv hH' kp⟩
  ·refine ⟨_,(zm (zw (zag zns (qv 1) (zo G__law_take (hr.mono ⋯) Y._law_take.mg Y._law_take.kp Y._law_take.b .nil zu (za (qv 0) (za (zr zQ Y.len zaP (za (qv 1) zd)) zd)))))),?_⟩
   refine⟨_,rfl,_,rfl,_,rfl, .inr ⟨z,rfl,hl _ z1,a,_,n,rfl,hH,hn,(),(),λd H' h0 h1 hH' kp=>?_⟩⟩
   obtain⟨c,e,hc⟩:=zhZ (xs:=z.cps.toList) h0 (by simpa[Str.length] using h1)
   exact .inr (.inr ⟨z,d,c,rfl,rfl,hl _ z1,e,q c H' hc hH' kp⟩)
noncomputable def zoj(K:W.Frag):Sp:=λvs H Q _=>∃(b:Addr) (ns:List Int) (k:Int),vs=[.ref b, .int k]/\SqL K H b (ns.map V.int)/\0<=k/\k<1000/\∀a H',H a=none->Hand H' a 0->Same H H'->Q (.ref a) H'
theorem zqa(Y:Ev K mg):FnOk P w K mg base CX0 1 Y.a__law_hand Y.d__law_hand zbS (zoj K):=by
 refine Y._law_hand.fn.okQ zc1 (λvs H Q E h=>?_) `V3
 ·obtain ⟨a,k,n,rfl,_⟩:=h
  rfl
 ·obtain ⟨b,ns,k,rfl,hS,k0,k1,q⟩:=h
  refine⟨_,(zh (zE 2 zc1.nd zk)
   (zh (zaX (zK zsM (qv 1) (zr zQ Y.len zaP (za (qv 0) zd))) (zm (zE 2 zc1.nd (zag zaz (qv 0) (qv 1)))) z8)
   (zm (zw (zdo (za (zN zbl (qv 2) (zaf zeC Y.int zjJ (za (zcH zqH (qv 2) (zN zrg zk zk)) zd))) (za (zN zaF (zN zaF (zN zcu (qv 2) zk) (zN zbl zk (qv 1))) zk) (za zk zd)))))))),?_⟩
  refine⟨_,rfl,_,rfl, .inl ⟨b,_,rfl, .inl hS,_,_,rfl,rfl,_,rfl,?_⟩⟩
  refine zd9 (λhx=>?_) (λhx=>?_)
  ·have hx':k<((ns.map V.int).length:Int):=Y0 hx
   obtain⟨v,e,hv⟩:=zhZ k0 hx'
   obtain⟨c,_,rfl⟩:=X0.mp hv
   refine⟨_,rfl,_,rfl,b,_,k,_,rfl,rfl,hS,e,?_⟩
   repeat (first|with_reducible_and_instances refine⟨_,rfl,?_⟩|refine⟨_,rfl,?_⟩|refine⟨_,_,rfl,rfl,?_⟩|refine⟨_,_,_,_,rfl,rfl,SqL.of (by assumption),rfl,?_⟩|refine⟨_,_,_,_,rfl,rfl,(by assumption),rfl,?_⟩|refine .inl ⟨_,rfl,?_⟩|refine .inr ⟨_,rfl,?_⟩|refine⟨(by first|assumption|decide|lia|exact few rfl|exact .inl ⟨⋯,⋯⟩|exact .inr ⟨⋯,⋯⟩|exact .inl ⟨(),()⟩|exact .inr ⟨(),()⟩|exact⟨(),()⟩),?_⟩)
   intro p hp
   exact q p _ hp ⟨_,_,_,zb,(),(),⋯,⋯⟩ (λb' o hb'=>by rw[zc (zi hb' hp)];exact hb')
  ·repeat (first|with_reducible_and_instances refine⟨_,rfl,?_⟩|refine⟨_,rfl,?_⟩|refine⟨_,_,rfl,rfl,?_⟩|refine⟨_,_,_,_,rfl,rfl,SqL.of (by assumption),rfl,?_⟩|refine⟨_,_,_,_,rfl,rfl,(by assumption),rfl,?_⟩|refine .inl ⟨_,rfl,?_⟩|refine .inr ⟨_,rfl,?_⟩|refine⟨(by first|assumption|decide|lia|exact few rfl|exact .inl ⟨⋯,⋯⟩|exact .inr ⟨⋯,⋯⟩|exact .inl ⟨(),()⟩|exact .inr ⟨(),()⟩|exact⟨(),()⟩),?_⟩)
   intro p hp
   exact q p _ hp ⟨_,_,_,zb,(),(),⋯,⋯⟩ (λb' o hb'=>by rw[zc (zi hb' hp)];exact hb')
noncomputable def zi3:Sp:=λvs H Q _=>∃(a:Addr) (n:Int) (m:Nat),vs=[.ref a, .int m]/\Hand H a n/\n<2^39/\m<=13/\∀(l:Addr) (xs:List Str) (H':Hp),H l=none->H' l=some (.lst (xs.map V.str))->xs.length=m->(∀x∈xs,zf x=true)->xs.Nodup->(∀x∈xs,x≠"nowhere")->Hand H' a (n+4)->Keep a H H'->Q (.ref l) H'
theorem zl6(Y:Ev K mg):FnOk P w K mg base CX0 3 Y.a__law_names Y.d__law_names zbr zi3:=by
 have G__law_take:FnOk P w K mg base CX0 1 Y.a__law_take Y.d__law_take z7 zew:=zd2 Y
 have G__law_pick:FnOk P w K mg base CX0 2 Y.a__law_pick Y.d__law_pick zaG (zg6 K):=zhm Y
 refine Y._law_names.fn.okQ zX (λvs H Q E h=>?_) `V3
 ·obtain ⟨a,n,m,rfl,_⟩:=h;rfl
 ·obtain ⟨a,n,m,rfl,hH,hn,m13,q⟩:=h
  refine⟨_,(zh (zbW 2 zX.nd zbb)
   (zh (zbW 3 zX.nd (zo G__law_take (hr.mono ⋯) Y._law_take.mg Y._law_take.kp Y._law_take.b .nil zu (za (qv 0) (za zk zd))))
   (zh (zbW 4 zX.nd (zo G__law_pick (hr.mono ⋯) Y._law_pick.mg Y._law_pick.kp Y._law_pick.b .nil zu (za (qv 0) (za (zhc [V.int 1,V.int 3,V.int 5,V.int 7,V.int 9,V.int 11] `Z3) zd))))
   (zh (zeu 5 (src:=[none,some 3,some 2,some 4]) zc7 rfl rfl zX.nd (zhp Y.range (za (qv 1) zd)) (λ_ _ _ _ _=>(zn 0 zc7.nd)) (λ_ _ _ _ _=>zbn) (λ_ _ _ _ _=>(zN ziG (zag zm5 (qc 2) (zN zcu (zN zaF (qc 1) (zN zbl (qc 3) (qv 0))) zk)) (zN zaF zk (zN zcu (zN zaF (zN zbl (qv 0) (qv 0)) (qc 1)) zk)))))
   (zsH (zaX (zK zat (zo G__law_take (hr.mono ⋯) Y._law_take.mg Y._law_take.kp Y._law_take.b .nil zu (za (qv 0) (za zk zd))) zk) (zh (zE 6 zX.nd (zhc [V.str "goal",V.str "to",V.str "by",V.str "houses",V.str "tie",V.str "like",V.str "hand",V.str "keep",V.str "put",V.str "mark",V.str "long",V.str "from",V.str "strike"] `Z3))
   (zh (zE 7 zX.nd (zo G__law_take (hr.mono ⋯) Y._law_take.mg Y._law_take.kp Y._law_take.b .nil zu (za (qv 0) (za zk zd))))
   (zm (zbo D3 rfl (zhp Y.range (za (zr (zeA rfl) Y.min zg5 (za (qv 1) (za zk zd))) zd)) (zn 8 zX.nd) (zm (zgA (zag zaz (qv 6) (zN zcu (zN zaF (qv 7) (zN zbl zk (qv 8))) zk)) (znA (qv 5) (qv 8) zfg))))))) z8)
   (zm (zw (qv 5)))))))),?_⟩
  refine⟨_,rfl,a,26,n,rfl,hH,(),⋯,⋯,λf' H1 f0 f26 hH1 k1=>?_⟩
  obtain⟨f,rfl⟩:∃f:Nat,f'=(f:Int):=⟨f'.toNat,()⟩
  refine⟨_,rfl,⋯,λpl hpl=>⟨a,n+1,hH1.new hpl,(), .inl ⟨pl,_,rfl,hH1.ne hpl,SqL.of zb,⋯,⋯,λv H2 hv hH2 k2=>?_⟩⟩⟩
  obtain⟨st,rfl,st0,st11⟩:∃st:Nat,v= .int (st:Int)/\st∈zmn/\st<=11:=by
   simp only[R0,List.not_mem_nil,or_false] at hv
   rcases hv with rfl|rfl|rfl|rfl|rfl|rfl
   ·exact ⟨1,rfl,⋯,⋯⟩
   ·exact ⟨3,rfl,⋯,⋯⟩
   ·exact ⟨5,rfl,⋯,⋯⟩
   ·exact ⟨7,rfl,⋯,⋯⟩
   ·exact ⟨9,rfl,⋯,⋯⟩
   ·exact ⟨11,rfl,⋯,⋯⟩
  have kp2:Keep a H H2:=k1.trans ((Keep.new hpl).trans k2)
  refine⟨_,rfl,m,rfl,(),(),?_⟩
  refine za3 zfR (λl i ys σ' H'=>(∃o,σ'=[o,some (.int (f:Int)),some (.str za7),some (.int (st:Int))])/\ys=((List.range i).map (nmS f st)).map V.str/\Hand H' a (n+1+1)/\Keep a H2 H') ?_ (λ_ _ _ _ _ _ _=>trivial) ?_ ?_
  ·exact λl hl=>⟨⟨_,rfl⟩,rfl,hH2.new hl,Keep.new hl⟩
  ·rintro l i y ys σ' H' hl hi rfl ⟨⟨o,rfl⟩,rfl,hH',k'⟩ hl'
   have hi13:i<13:=by have:i<m:=()
                      lia
   have hr26:(f+st*i)%26<26:=Nat.mod_lt _ ⋯
   have ei:((f:Int)+(st:Int)*(0+(i:Int)))%26=(((f+st*i)%26:Nat):Int):=by rw[Int.zero_add];push_cast;rfl
   have ec:atI za7.cps.toList (((f:Int)+(st:Int)*(0+(i:Int)))%26)=some (97+(f+st*i)%26):=by
    rw[ei];exact zab (zfk _ (E3.mpr hr26))
   have en:(1+((0+(i:Int))*(0+(i:Int))+(f:Int))%8)=((1+(i*i+f)%8:Nat):Int):=by rw[Int.zero_add];push_cast;rfl
   have g8:(i*i+f)%8<8:=Nat.mod_lt _ ⋯
   refine⟨_,rfl,_,rfl,_,rfl,_,rfl,_,_,rfl,rfl, .inl ⟨(),()⟩,_,_,rfl,rfl,_,_,rfl,rfl,(by decide:(0:Int)<26),za7,_,_,rfl,rfl,by rw[zih];decide,ec,_,rfl,_,rfl,_,_,rfl,rfl, .inl ⟨(),()⟩,_,rfl,_,_,rfl,rfl,_,_,rfl,rfl,(by decide:(0:Int)<8),_,_,rfl,rfl,one (97+(f+st*i)%26),_,rfl,rfl,by rw[en];lia,by rw[en];lia,by rw[zkJ];decide,by rw[zkJ];decide,?_⟩
   have nl:=hH2.ne hl
   refine⟨hl',?_,⟨_,rfl⟩,?_,hH'.updNe nl,k'.updNew hl⟩
   ·rw[C0,C0,List.length_range];exact zj ()
   ·rw[en,L3,List.range_succ,F2,F2];rfl
  ·rintro l ys σ' H3 hl ⟨⟨o,rfl⟩,rfl,hH3,k3⟩ hl'
   have nl:=hH2.ne hl
   rw[L3] at hl'
   have e0:(List.range m).map (nmS f st)=(List.range m).map (zaL f st 0 0):=by
    apply List.map_congr_left
    intro k _
    unfold zaL
    rw[P0 ()]
   have hln:H l=none:=by
    cases e:H l with
    |none=>rfl
    |some o=>exact absurd (kp2 l o nl e) (by rw[hl];exact λz=>nomatch z)
   refine⟨λσ' H'=>(∃o6 o7 o8,σ'=[some (.ref a),some (.int m),some (.str za7),some (.int (f:Int)),some (.int (st:Int)),some (.ref l),o6,o7,o8])/\(∃sp j:Nat,H' l=some (.lst (((List.range m).map (zaL f st sp j)).map V.str))/\sp<13/\j<=4)/\Hand H' a (n+4)/\Keep a H H',?_,?_⟩
   ·refine ⟨_,rfl,a,6,n+1+1,rfl,hH3,(),⋯,⋯,λd H4 d0 d6 hH4 k4=>⟨rfl,_,rfl,zd9 (λ_=>?_) (λ_=>?_)⟩⟩
    ·have hl4:=k4 _ _ nl hl'
     have kp4:Keep a H H4:=(kp2.trans k3).trans k4
     refine⟨⋯,λpk hpk=>?_⟩
     have npl:pk≠l:=λz=>by rw[z,hl4] at hpk;cases hpk
     have npa:=hH4.ne hpk
     refine⟨_,rfl,a,13,n+1+1+1,rfl,hH4.new hpk,(),⋯,⋯,λsp' H5 sp0 sp13 hH5 k5=>?_⟩
     obtain⟨sp,rfl⟩:∃f:Nat,sp'=(f:Int):=⟨sp'.toNat,()⟩
     refine⟨_,rfl,_,_,rfl,_,rfl,?_,?_,?_⟩
     ·split<;>lia
     ·split<;>lia
     have e4:(if(4:Int)<(m:Int)then(4:Int)else(m:Int)).toNat=min 4 m:=by split<;>lia
     rw[e4]
     refine zaN zfR (λi σ' H'=>(∃o8,σ'=[some (.ref a),some (.int m),some (.str za7),some (.int (f:Int)),some (.int (st:Int)),some (.ref l),some (.ref pk),some (.int (sp:Int)),o8])/\H' l=some (.lst (((List.range m).map (zaL f st sp i)).map V.str))/\Hand H' a (n+4)/\Keep a H H'/\H' pk=some (.lst (zdq.map V.str))) ?_ (λ_ _ _ _=>trivial) ?_ ?_
     ·refine ⟨⟨_,rfl⟩,?_,hH5.mono (),kp4.trans ((Keep.new hpk).trans k5),k5 _ _ npa zb⟩
      have e0':(List.range m).map (nmS f st)=(List.range m).map (zaL f st sp 0):=by
       apply List.map_congr_left
       intro k _
       unfold zaL
       rw[P0 ()]
      rw[←e0']
      exact k5 _ _ nl (by rw[zc (Ne.symm npl)];exact hl4)
     ·rintro i y σ' H6 hi4 rfl ⟨⟨o8,rfl⟩,hz,hH6,k6,hp6⟩
      have ek:((sp:Int)+3*(0+(i:Int)))%13=(((sp+3*i)%13:Nat):Int):=by rw[Int.zero_add];push_cast;rfl
      have ev:atI (zdq.map V.str) (((sp:Int)+3*(0+(i:Int)))%13)=some (.str (kwS sp i)):=by
       rw[ek];exact zab (by rw[N0,zpN];rfl)
      have hix:ixN (((List.range m).map (zaL f st sp i)).map V.str).length (0+(i:Int))=some i:=by
       unfold ixN
       rw[c0 (),c0 (by rw[C0,C0,List.length_range];lia)]
       congr 1
       lia
      refine⟨_,rfl,_,rfl,_,rfl,_,_,rfl,rfl, .inl ⟨⋯,⋯⟩,_,_,rfl,rfl,_,_,rfl,rfl,(by decide:(0:Int)<13),pk,_,_,_,rfl,rfl,SqL.of hp6,ev,_,rfl,_,rfl,l,_,_,i,rfl,rfl,hz,hix,?_⟩
      refine⟨⟨_,rfl⟩,?_,hH6.updNe nl,k6.updNew hln,by rw[zc npl];exact hp6⟩
      rw[zb,←List.map_set,zol ()]
     ·rintro σ' H6 ⟨⟨o8,rfl⟩,hz,hH6,k6,_⟩
      exact⟨⟨_,_,_,rfl⟩,⟨sp,min 4 m,hz,(),()⟩,hH6,k6⟩
    ·rw[e0] at hl'
     exact⟨⟨_,_,_,rfl⟩,⟨0,0,k4 _ _ nl hl',⋯,⋯⟩,hH4.mono (),(kp2.trans k3).trans k4⟩
   ·rintro σ' H' ⟨⟨o6,o7,o8,rfl⟩,⟨sp,j,hz,hsp,hj⟩,hH',k'⟩
    refine⟨_,rfl,q l _ H' hln hz (by rw[C0,List.length_range]) (λx hx=>?_) (ziF () st0 hsp hj m13) (λx hx=>?_) hH' k'⟩
    ·obtain ⟨k,_,rfl⟩:=X0.mp hx
     exact zp4 _ _ _ _ _
    ·obtain ⟨k,_,rfl⟩:=X0.mp hx
     exact zmh _ _ _ _ _
theorem zy(h:zf x=true):x.length<=1000:=by
 unfold zf at h
 simp only[E1,decide_eq_true_eq] at h
 lia
theorem zn7(t:zH H vs ls)(h:∀q∈ls,q.length<=1000/\∀x∈q,x.length<=1000):RepL H vs (ls.map tD):=by
 refine⟨by rw[C0];exact t.1,λi v d e1 e2=>?_⟩
 rw[N0] at e2
 cases e3:ls[i]? with
 |none=>rw[e3] at e2;cases e2
 |some q=>
  rw[e3] at e2;cases e2
  obtain⟨b,rfl,hb⟩:=t.2 i v q e1 e3
  have hq:=h q (B1 e3)
  exact .mkL hb (by rw[C0];exact hq.1) (za9 hq.2)
theorem z4(t:zH H vs ls)(s:Same H H'):zH H' vs ls:=⟨t.1,λi v q e1 e2=>let ⟨b,e,hb⟩:=t.2 i v q e1 e2;⟨b,e,s _ _ hb⟩⟩
theorem zjm(h:zbB r=true):r.length<=1000/\∀x∈r,x.length<=1000:=by
 obtain⟨a,b,w,rfl,ha,hb,_,hw⟩:=zR h
 refine⟨(by decide:3<=1000),λx hx=>?_⟩
 simp only[R0,List.not_mem_nil,or_false] at hx
 rcases hx with rfl|rfl|rfl
 ·exact zy ha
 ·exact zy hb
 ·rcases hw with⟨rfl,_⟩|rfl<;>decide
noncomputable def zi4:Sp:=λvs H Q _=>∃(p:Addr) (us:List V) (rs:List (List Str)),vs=[.ref p]/\H p=some (.tup us)/\zH H us rs/\(∀r∈rs,zbB r=true)/\rs.length<=60/\
 ∀(p':Addr) (us':List V) (ls:List (List Str)) (H':Hp),H' p'=some (.tup us')->zH H' us' ls->ls.Perm (rs.map zT)->((rs.map zT).Nodup->ls.Pairwise (λa b=>ltL a b=true))->Same H H'->Q (.ref p') H'
theorem zj9(Y:Ev K mg):FnOk P w K mg base CX0 1 Y.a_ties_of Y.d_ties_of zdj zi4:=by
 refine Y.ties_of.fn.okQ zl5 (λvs H Q E h=>?_) `V3
 ·obtain ⟨p,us,rs,rfl,_⟩:=h;rfl
 ·obtain ⟨p,us,rs,rfl,hp,T,hrow,l6,q⟩:=h
  refine⟨_,(zm (zw (zaf zJ Y.tuple zaJ (za (zr zdt Y.sorted zah (za (zbz (src:=[none]) zeS rfl rfl (zbd (qv 0)) (λ_ _ _ _ _=>(zn 0 zeS.nd)) (λ_ _ _ _ _=>zbn) (λ_ _ _ _ _=>(zaf (zfU (K:=K) rfl) Y.tuple zaJ (za (zr (zgj (K:=K) rfl) Y.sorted zah (za (zhu (ziR (K:=K) rfl) (qv 0) zco (zcc zk)) zd)) zd)))) zd)) zd)))),?_⟩
  have hl:=T.1
  refine⟨_,rfl,p,rfl,⟨_, .inl (.inl hp)⟩,?_⟩
  refine za3 (zap (K:=K) (a:=p) (xs:=us)) (λl i ys σ' H'=>(∃o,σ'=[o])/\zH H' ys ((rs.take i).map zT)/\Same H H') ?_ ?_ ?_ ?_
  ·exact λl hl=>⟨⟨_,rfl⟩,⟨rfl,λi v q e=>by cases e⟩,Same.new hl⟩
  ·exact λl i ys σ' H' _ z=> .inl (.inl (z.2.2 _ _ hp))
  ·rintro l i y ys σ' H1 hl' hi hy ⟨⟨o,rfl⟩,T1,s1⟩ hl1
   have hi':i<rs.length:=()
   obtain⟨b,rfl,hb⟩:=T.2 i y rs[i] hy (by simp[hi'])
   obtain⟨x1,x2,w',er,n1,n2,hne,_⟩:=zR (hrow rs[i] (Z2 hi'))
   rw[er] at hb
   have hb1:=s1 _ _ hb
   refine⟨_,rfl,_,rfl,b,_,rfl, .inl (.inl hb1),?_⟩
   have ec:zcD (List.map V.str [x1,x2,w']) none (some 2)=[x1,x2].map V.str:=zfD (n:=2)
   refine⟨λhlen=>?_,λp2 hp2=>?_⟩
   ·rw[ec] at hlen
    exact absurd (congrArg List.length hlen) `j3
   rw[ec]
   have S2:=Same.new (o:= .tup ([x1,x2].map V.str)) hp2
   refine⟨p2,[x1,x2],rfl, .inr (.inl (.inl zb)),(by decide:2<64),λss l3 hpm hss hl3=>⟨l3,_,rfl, .inl ⟨SqL.of zb,λp4 hp4=>?_⟩⟩⟩
   have es:ss=zT rs[i]:=by
    rw[er]
    exact znm hpm hss (by simpa using hne)
   subst es
   have S3:=Same.new (o:= .lst ((zT rs[i]).map V.str)) hl3
   have S4:=Same.new (o:= .tup ((zT rs[i]).map V.str)) hp4
   have S14:=(S2.trans S3).trans S4
   have hl4:=S14 _ _ hl1
   have tk:rs.take (i+1)=rs.take i ++ [rs[i]]:=by rw[D2,D0 hi'];rfl
   have hT1:=T1.1
   rw[C0,C2] at hT1
   refine⟨hl4,zj (),⟨_,rfl⟩,?_,λc o e=>?_⟩
   ·have T4:=z4 T1 S14
    have e4:=zb (H:=upd (upd H1 p2 (.tup ([x1,x2].map V.str))) l3 (.lst ((zT rs[i]).map V.str))) (a:=p4) (o:= .tup ((zT rs[i]).map V.str))
    generalize upd (upd (upd H1 p2 (HO.tup ([x1,x2].map V.str))) l3 (HO.lst ((zT rs[i]).map V.str))) p4 (HO.tup ((zT rs[i]).map V.str))=H4 at *
    rw[tk,F2]
    refine⟨by rw[Z0,Z0,T4.1];rfl,λj v q e1 e2=>?_⟩
    have upl:∀{b o},H4 b=some (.tup o)->(upd H4 l (.lst (ys ++ [V.ref p4]))) b=some (.tup o):=λ{b o} h=>by rw[zc (λz=>by rw[z,hl4] at h;cases h)];exact h
    rcases D1 j ys.length with hj|hj
    ·rw[N1 hj] at e1
     rw[N1 (by rw[←T4.1];exact hj)] at e2
     obtain⟨b',rfl,hb'⟩:=T4.2 j v q e1 e2
     exact⟨b',rfl,upl hb'⟩
    ·have ej:j=ys.length:=by
      rcases D1 j (ys ++ [V.ref p4]).length with z|z
      ·rw[Z0,List.length_singleton] at z;lia
      ·rw[I0 z] at e1;cases e1
     subst ej
     rw[L1 (L0 _),Nat.sub_self] at e1
     rw[L1 (by rw[T4.1];exact L0 _),T4.1,Nat.sub_self] at e2
     cases e1
     cases e2
     exact⟨p4,rfl,upl e4⟩
   ·rw[zc (zi e hl')]
    exact S14 _ _ (s1 _ _ e)
  ·rintro l ys σ' H1 hl' ⟨⟨o,rfl⟩,T1,s1⟩ hl1
   rw[show rs.take us.length=rs by rw[hl];exact P2] at T1
   refine⟨l,ys,_,rfl, .inl (SqL.of hl1),T1,λq hq=>?_,by rw[C0];lia,λls vs' l2 hpm hpw T2 hl2=>⟨l2,_,rfl, .inl ⟨SqL.of zb,λp4 hp4=>?_⟩⟩⟩
   ·obtain ⟨r,hr',rfl⟩:=X0.mp hq
    obtain⟨x1,x2,w',er,_⟩:=zR (hrow r hr')
    rw[er]
    show 0<(srt [x1,x2]).length
    rw[(zz [x1,x2]).length_eq]
    exact(by decide:0<2)
   ·have S:=(Same.new (o:= .lst vs') hl2).trans (Same.new (o:= .tup vs') hp4)
    exact q p4 vs' ls _ zb (z4 T2 S) hpm hpw (s1.trans S)
theorem zrQ{P:α->Prop}{ds:List α}(h:∀(i:Nat) (d:α),ds[i]?=some d->P d):∀d∈ds,P d:=λd hd=>by
 obtain⟨i,hi,e⟩:=E2 hd
 exact h i d (by rw[D0 hi,e])
theorem zpZ{a b:Nat×Nat}(h:zaS a=zaS b):a=b:=by
 obtain⟨a1,a2⟩:=a
 obtain⟨b1,b2⟩:=b
 unfold zaS at h
 injection h with h
 injection h with h1 h2
 injection h2 with h2 _
 injection h1 with h1
 injection h2 with h2
 dsimp only at h1 h2
 rw[show a1=b1 by lia,show a2=b2 by lia]
def KAll(xs:List Str)(ps:List (Nat×Nat))(k:Nat)(rs:List (List Str)):Prop:=∀q∈ps.take k,q.1≠q.2->∃r∈rs,zT r=pr (at_ xs q.1) (at_ xs q.2)
theorem KAll.skip{xs:List Str}{ps:List (Nat×Nat)}(h:KAll xs ps i rs)(eq:ps[i]?=some qk)(hq:qk.1=qk.2\/qk∈ps.take i):KAll xs ps (i+1) rs:=λq hq' ne=>by
 rw[D2,eq] at hq'
 rcases F1.mp hq' with z|z
 ·exact h q z ne
 ·have z:q=qk:=by simpa using z
  subst z
  rcases hq with y|y
  ·exact absurd y ne
  ·exact h q y ne
theorem KAll.put{xs:List Str}{ps:List (Nat×Nat)}(h:KAll xs ps i rs)(eq:ps[i]?=some qk)(hr:zT r=pr (at_ xs qk.1) (at_ xs qk.2)):KAll xs ps (i+1) (rs ++ [r]):=λq hq' ne=>by
 rw[D2,eq] at hq'
 rcases F1.mp hq' with z|z
 ·obtain ⟨r',h1,h2⟩:=h q z ne
  exact⟨r',W1 _ h1,h2⟩
 ·have z:q=qk:=by simpa using z
  subst z
  exact⟨r,`j3,hr⟩
def zjd(xs:List Str)(rs:List (List Str)):Prop:=∃ps ex:List (Nat×Nat),ps.length=xs.length -1/\(∀(i:Nat) q,ps[i]?=some q->q.1<q.2/\q.2=1+i)/\ex.length<=5/\(∀q∈ps ++ex,q.1<=q.2/\q.2<xs.length)/\(∀r∈rs,∃q∈ps ++ex,zT r=pr (at_ xs q.1) (at_ xs q.2))/\∀q∈ps,∃r∈rs,zT r=pr (at_ xs q.1) (at_ xs q.2)
noncomputable def zm9:Sp:=λvs H Q _=>∃(a h:Addr) (n:Int) (xs:List Str) (more:Nat),vs=[.ref a, .ref h, .int more]/\Hand H a n/\n<2^38/\H h=some (.lst (xs.map V.str))/\h≠a/\xs.length<=13/\xs.Nodup/\(∀x∈xs,zf x=true)/\more<=5/\(more=0\/0<xs.length)/\
 ∀(p:Addr) (us:List V) (rs:List (List Str)) (H':Hp),H' p=some (.tup us)->zH H' us rs->KinOk rs->zjd xs rs->rs.length<=20->Hand H' a (n+60)->Keep a H H'->Q (.ref p) H'
theorem zpV(Y:Ev K mg):FnOk P w K mg base CX0 2 Y.a__law_kin Y.d__law_kin zcl zm9:=by
 have G__law_take:FnOk P w K mg base CX0 1 Y.a__law_take Y.d__law_take z7 zew:=zd2 Y
 refine Y._law_kin.fn.okQ zam (λvs H Q E h=>?_) `V3
 ·obtain ⟨a,h,n,xs,more,rfl,_⟩:=h;rfl
 ·obtain ⟨a,h,n,xs,more,rfl,hH,hn,hh,nha,x13,nd,hnm,m8,m0,q⟩:=h
  refine⟨_,(zh (zeu 3 (src:=[none,some 0]) zdM rfl rfl zam.nd (zr0 Y.range (za zk (za (zr zQ Y.len zaP (za (qv 1) zd)) zd))) (λ_ _ _ _ _=>(zn 0 zdM.nd)) (λ_ _ _ _ _=>zbn) (λ_ _ _ _ _=>(zF (za (zo G__law_take (hr.mono ⋯) Y._law_take.mg Y._law_take.kp Y._law_take.b .nil zu (za (qc 1) (za (qv 0) zd))) (za (qv 0) zd)))))
   (zh (zbo D3 rfl (zhp Y.range (za (qv 2) zd)) (zn 4 zam.nd) (zh (zqx 5 6 zam.nd (za (zo G__law_take (hr.mono ⋯) Y._law_take.mg Y._law_take.kp Y._law_take.b .nil zu (za (qc 0) (za (zr zQ Y.len zaP (za (qv 1) zd)) zd))) (za (zo G__law_take (hr.mono ⋯) Y._law_take.mg Y._law_take.kp Y._law_take.b .nil zu (za (qc 0) (za (zr zQ Y.len zaP (za (qv 1) zd)) zd))) zd)))
   (zm (zci (ze9 F3 F.slot_list_append F.type_list_append z5 (qv 3) (za (zF (za (zr (zeA rfl) Y.min zg5 (za (qv 5) (za (qv 6) zd))) (za (zr (zeo rfl) Y.max zg3 (za (qv 5) (za (qv 6) zd))) zd))) zd))))))
   (zh (zE 7 zam.nd (zdo zd))
   (zh (zbo D3 rfl (zpe Y.enumerate (za (qv 3) zd)) (zdr 2 rfl (zx (zn 4 zam.nd) (zx (zn 8 zam.nd) zaY))) (zm (zaX (t_w (zqR (zK zkL (zag zM (qv 8) zk) (zag zM (qv 8) zk)) (zmx (zK (zrf (zjR hr)) (qv 8) (zhu zo3 (qv 3) zco (zcc (qv 4))))))) (zh (zqx 9 10 zam.nd (za (zag zaz (qv 1) (zag zM (qv 8) zk)) (za (zag zaz (qv 1) (zag zM (qv 8) zk)) zd)))
   (zm (zaX (zK zat (zo G__law_take (hr.mono ⋯) Y._law_take.mg Y._law_take.kp Y._law_take.b .nil zu (za (qc 0) (za zk zd))) zk) (zm (zci (ze9 F3 F.slot_list_append F.type_list_append z5 (qv 7) (za (zF (za (zr (zjA rfl) Y.min zg5 (za (qv 9) (za (qv 10) zd))) (za (zr (zjr rfl) Y.max zg3 (za (qv 9) (za (qv 10) zd))) (za zbb zd)))) zd)))) (zm (zci (ze9 F3 F.slot_list_append F.type_list_append z5 (qv 7) (za (zF (za (qv 9) (za (qv 10) (za zbb zd)))) zd))))))) z8)))
   (zm (zw (zaf zJ Y.tuple zaJ (za (zr zdt Y.sorted zah (za (qv 7) zd)) zd)))))))),?_⟩
  refine⟨_,rfl, .inl ⟨h,_,rfl, .inl (SqL.of hh),1,_,rfl,⟨⋯,⋯,(),by rw[C0];lia⟩,?_⟩⟩
  have eN:(((xs.map V.str).length:Int) -1).toNat=xs.length -1:=by rw[C0];lia
  rw[eN]
  refine zh5 (a:=a) (m:=n) (c:=1) (Pd:=λi d=>∃q:Nat×Nat,d=zaS q/\(q.1<q.2/\q.2=1+i/\q.2<xs.length)) (σr:=[some (.ref a)]) zfR (λ_ _=>trivial) rfl hH () ⋯ (λi x H1 Q1 hi hx hH1 k1 q1=>?_) (λlp vs ds H1 hlp hlp1 r1 hdl pd hH1 k1=>?_)
  ·subst hx
   refine⟨_,rfl,_,rfl,a,1+(i:Int),_,rfl,hH1,(),(),(),λt H2 t0 t1 hH2 k2=>⟨_,rfl,few rfl,λp2 hp2=>?_⟩⟩
   obtain⟨t',rfl⟩:∃t':Nat,t=(t':Int):=⟨t.toNat,()⟩
   refine q1 _ (zaS (t',1+i)) _ ?_ ⟨_,rfl,by show t'<1+i;lia,rfl,by show 1+i<xs.length;lia⟩ ((hH2.new hp2).mono ()) (k2.trans (Keep.new hp2))
   exact .mk2 zb (.int _) (by have:=Rep.int (H:=upd H2 p2 (.tup [.int (t':Int), .int (1+(i:Int))])) (1+(i:Int));exact this)
  obtain⟨p0,rfl,hps⟩:=zkR (P:=λq=>q.1<=q.2/\q.2<xs.length) (zrQ λi d e=>let ⟨q,e1,h1,h2,h3⟩:=pd i d e;⟨q,e1,A3 h1,h3⟩)
  have hp0:∀(i:Nat) q,p0[i]?=some q->q.1<q.2/\q.2=1+i:=λi q hq=>by
   obtain⟨q',e,h1,h2,_⟩:=pd i (zaS q) (by rw[N0,hq];rfl)
   rw[zpZ e]
   exact⟨h1,h2⟩
  have nlp:lp≠a:=hH.ne hlp
  have nlh:lp≠h:=λz=>by rw[z,hh] at hlp;cases hlp
  have hh1:=k1 _ _ nha hh
  rw[C0] at hdl
  refine⟨_,rfl,more,rfl,(),(),?_⟩
  rw[L3]
  refine zaN zfR (λi σ' H'=>(∃o4 o5 o6 o7 o8 o9 o10,σ'=[some (.ref a),some (.ref h),some (.int more),some (.ref lp),o4,o5,o6,o7,o8,o9,o10])/\(∃(vs:List V) (ps:List (Nat×Nat)),H' lp=some (.lst vs)/\RepL H' vs (ps.map zaS)/\(∀q∈ps,q.1<=q.2/\q.2<xs.length)/\ps.length<=xs.length -1+i/\∃ex,ps=p0 ++ex/\ex.length<=i)/\Hand H' a (n+13+2*i)/\Keep a H H') ?_ (λ_ _ _ _=>trivial) ?_ ?_
  ·exact ⟨⟨_,_,_,_,_,_,_,rfl⟩,⟨vs,p0,hlp1,r1,hps,(),[],(List.append_nil _).symm,X1 _⟩,hH1.mono (),k1⟩
  ·rintro i y σ' H2 hi rfl ⟨⟨o4,o5,o6,o7,o8,o9,o10,rfl⟩,⟨vs2,ps2,hv2,r2,hp2,l2,ex,eex,lex⟩,hH2,k2⟩
   have hx0:0<xs.length:=()
   have hh2:=k2 _ _ nha hh
   refine⟨_,rfl,_,rfl, .inl ⟨h,_,rfl, .inl (SqL.of hh2),a,_,_,rfl,hH2,(),by rw[C0];lia,by rw[C0];lia,λt H3 t0 t1 hH3 k3=>?_⟩⟩
   have hh3:=k3 _ _ nha hh2
   refine⟨_,rfl,_,rfl, .inl ⟨h,_,rfl, .inl (SqL.of hh3),a,_,_,rfl,hH3,(),by rw[C0];lia,by rw[C0];lia,λu H4 u0 u1 hH4 k4=>⟨_,_,rfl,?_⟩⟩⟩
   rw[C0] at t1 u1
   obtain⟨t',rfl⟩:∃t':Nat,t=(t':Int):=⟨t.toNat,()⟩
   obtain⟨u',rfl⟩:∃t':Nat,u=(t':Int):=⟨u.toNat,()⟩
   have k24:=k3.trans k4
   have hv4:=k24 _ _ nlp hv2
   refine⟨_,rfl, .inl ⟨rfl,_,SqL.of hv4⟩,_,rfl,_,rfl,_,_,rfl,_,rfl,_,rfl,_,_,rfl,few rfl,λp5 hp5=>?_⟩
   have hq:∃q:Nat×Nat,([V.int (if(u':Int)<(t':Int)then(u':Int)else t'),V.int (if(u':Int)>(t':Int)then(u':Int)else t')]:List V)=[V.int (q.1:Int),V.int (q.2:Int)]/\q.1<=q.2/\q.2<xs.length:=by
    by_cases hlt:u'<t'
    ·refine ⟨(u',t'),?_,by show u'<=t';lia,by show t'<_;lia⟩
     rw[c0 (),P0 ()]
    ·by_cases hgt:u'>t'
     ·refine ⟨(t',u'),?_,by show t'<=u';lia,by show u'<_;lia⟩
      rw[P0 (),c0 ()]
     ·refine ⟨(t',t'),?_,L0 _,by show t'<_;lia⟩
      rw[P0 (),P0 ()]
   obtain⟨q5,e5,hq5⟩:=hq
   rw[e5]
   have hv5:upd H4 p5 (.tup [V.int (q5.1:Int),V.int (q5.2:Int)]) lp=some (.lst vs2):=by rw[zc (zi hv4 hp5)];exact hv4
   have r5:Rep (upd H4 p5 (.tup [V.int (q5.1:Int),V.int (q5.2:Int)])) (.ref p5) (zaS q5):= .mk2 zb (.int _) (.int _)
   have rl:=r2.1
   rw[C0] at rl
   refine⟨lp,_,_,rfl,rfl,hv5,zj (),⟨_,_,_,_,_,_,_,rfl⟩,⟨_,ps2 ++ [q5],zb,?_,?_,?_,ex ++ [q5],by rw[eex,List.append_assoc],by rw[Z0];exact Nat.succ_le_succ lex⟩,?_,?_⟩
   ·rw[F2]
    exact RepL.mono (.append ((r2.mono (.keep k24 hH2 hH4)).mono (.new hp5)) (.cons r5 .nil)) (.lset hv5)
   ·intro q hq
    rcases F1.mp hq with hq|hq
    ·exact hp2 q hq
    ·rw[K0.mp hq];exact hq5
   ·rw[Z0,List.length_singleton];lia
   ·exact ((hH4.new hp5).updNe nlp).mono (by push_cast;lia)
   ·exact Keep.updNew ((k2.trans k24).trans (Keep.new hp5)) hlp
  rintro σ' H2 ⟨⟨o4,o5,o6,o7,o8,o9,o10,rfl⟩,⟨vs2,ps2,hv2,r2,hp2,l2,ex,eex,lex⟩,hH2,k2⟩
  have rl:=r2.1
  rw[C0] at rl
  refine⟨few rfl,λlr hlr=>?_⟩
  have nlr:lr≠a:=hH2.ne hlr
  have nlrp:lr≠lp:=λz=>by rw[z,hv2] at hlr;cases hlr
  have S3:=Same.new (o:= .lst []) hlr
  have hlrH:H lr=none:=by
   cases e:H lr with
   |none=>rfl
   |some o=>exact absurd (k2 lr o nlr e) (by rw[hlr];exact λz=>nomatch z)
  refine⟨_,rfl,lp,vs2,rfl,SqL.of (S3 _ _ hv2),?_⟩
  refine zkx (n:=vs2.length) (λi σ' H'=>(∃o4 o5 o6 o8 o9 o10,σ'=[some (.ref a),some (.ref h),some (.int more),some (.ref lp),o4,o5,o6,some (.ref lr),o8,o9,o10])/\H' lp=some (.lst vs2)/\RepL H' vs2 (ps2.map zaS)/\(∃(us:List V) (rs:List (List Str)),H' lr=some (.lst us)/\zH H' us rs/\KD62 xs ps2 i rs/\KAll xs ps2 i rs)/\Hand H' a (n+30+i)/\Keep a H H') ?_ ?_ ?_ ?_ ?_
  ·exact ⟨⟨_,_,_,_,_,_,rfl⟩,S3 _ _ hv2,r2.mono (.of S3),⟨[],[],zb,⟨rfl,λi v q e=>by cases e⟩,⟨(λ_ z=>nomatch z),List.nodup_nil,L0 _,(λ_ z=>nomatch z)⟩,λ_ z=>nomatch z⟩,(hH2.new hlr).mono (by push_cast;lia),k2.trans (Keep.of S3)⟩
  ·rintro i σ' H' hi ⟨_,hv,_⟩
   exact⟨vs2,vs2[i],SqL.of hv,rfl,by simp[hi]⟩
  ·rintro σ' H' ⟨_,hv,_⟩
   exact⟨vs2,SqL.of hv,rfl,L0 _⟩
  ·rintro i x σ' H3 H3' hi ⟨⟨o4,o5,o6,o8,o9,o10,rfl⟩,hv3,r3,⟨us,rs,hu3,T3,kd,ka⟩,hH3,k3⟩ ⟨T,y,rfl,hT,hy,rfl⟩
   have hy:=hy vs2 (SqL.of hv3)
   have hi2:i<ps2.length:=()
   have eq:ps2[i]?=some ps2[i]:=D0 hi2
   have ry:=r3.2 i y (zaS ps2[i]) hy (by rw[N0,eq];rfl)
   have hqk:=hp2 ps2[i] (Z2 hi2)
   generalize ps2[i]=qk at *
   have S4:=Same.new (o:= .tup [.int ((i:Nat):Int),y]) hT
   refine⟨T,_,rfl, .inl (.inl zb),rfl,_,_,rfl,_,_,rfl,rfl,?_⟩
   have hv4:=S4 _ _ hv3
   have hu4:=S4 _ _ hu3
   have r4:=r3.mono (.of S4)
   have ry4:=ry.same S4
   have T4:=z4 T3 S4
   have hH4:=hH3.new (o:= .tup [.int ((i:Nat):Int),y]) hT
   have k4:=k3.trans (Keep.of (a:=a) S4)
   generalize (upd H3 T (HO.tup [V.int ((i:Nat):Int),y]))=H4 at *
   obtain⟨py,v0,v1,rfl,hpy,ra,rb⟩:=ry4.of2
   cases ra with|int _=>
   cases rb with|int _=>
   have ulen:us.length<=25:=by have h1:=T4.1;have h2:=kd.few;lia
   have skip:∀(x4 x5 x6 x8 x9 x10:Option V),∃o4 o5 o6 o8 o9 o10:Option V,[some (V.ref a),some (V.ref h),some (V.int more),some (V.ref lp),x4,x5,x6,some (V.ref lr),x8,x9,x10]=[some (V.ref a),some (V.ref h),some (V.int more),some (V.ref lp),o4,o5,o6,some (V.ref lr),o8,o9,o10]:=λ_ _ _ _ _ _=>⟨_,_,_,_,_,_,rfl⟩
   refine⟨_,rfl,py,_,0,_,rfl,rfl, .inl (.inl hpy),at0,_,rfl,py,_,1,_,rfl,rfl, .inl (.inl hpy),at1,rfl,_,rfl,?_⟩
   have en:(!decide (V.int (qk.1:Int)=V.int (qk.2:Int)))=!decide (qk.1=qk.2):=by
    by_cases e:qk.1=qk.2
    ·rw[U0 e,U0 (by rw[e])]
    ·rw[A1 e,A1 (λz=>e (by injection z with z;lia))]
   rw[en]
   by_cases e:qk.1=qk.2
   ·rw[U0 e]
    exact zaI rfl (zaI rfl ⟨skip _ _ _ _ _ _,hv4,r4,⟨us,rs,hu4,T4,kd.skip,ka.skip eq (.inl e)⟩,hH4.mono (by push_cast;lia),k4⟩)
   rw[A1 e]
   refine zbe rfl ⟨_,rfl,_,rfl,_,rfl,_,rfl,lp,_,rfl,SqL.of hv4,λp5 hp5=>?_⟩
   have S5:=Same.new (o:= .lst (zcD vs2 none (some ((i:Nat):Int)))) hp5
   rw[zfD] at S5⊢
   have r5:RepL (upd H4 p5 (.lst (vs2.take i))) (vs2.take i) ((ps2.take i).map zaS):=by rw[List.map_take];exact(r4.take i).mono (.of S5)
   refine⟨pyD (zaS qk),((ps2.take i).map zaS).map pyD,zkF (ry4.same S5) (znn qk), .inl (zpI zb r5 λd hd=>by obtain⟨z,_,rfl⟩:=X0.mp hd;exact znn z),zl3 qk,_,rfl,?_⟩
   rw[G3]
   rw[show((ps2.take i).map (pyD∘zaS))=(ps2.take i).map (λr=>pyD (zaS r))from rfl,zq0]
   have hv5:=S5 _ _ hv4
   have hu5:=S5 _ _ hu4
   have r5':=r4.mono (.of S5)
   have T5:=z4 T4 S5
   have hH5:=hH4.new (o:= .lst (vs2.take i)) hp5
   have k5:=k4.trans (Keep.of (a:=a) S5)
   have hpy5:=S5 _ _ hpy
   generalize (upd H4 p5 (HO.lst (vs2.take i)))=H5 at *
   by_cases hin:qk∈ps2.take i
   ·rw[U0 hin]
    exact zaI rfl ⟨skip _ _ _ _ _ _,hv5,r5',⟨us,rs,hu5,T5,kd.skip,ka.skip eq (.inr hin)⟩,hH5.mono (by push_cast;lia),k5⟩
   rw[A1 hin]
   have hh5:=k5 _ _ nha hh
   have lq1:qk.1<xs.length:=()
   have lq2:qk.2<xs.length:=()
   have g1:atI (xs.map V.str) (qk.1:Int)=some (.str (at_ xs qk.1)):=zab (by simp[lq1,List.getD])
   have g2:atI (xs.map V.str) (qk.2:Int)=some (.str (at_ xs qk.2)):=zab (by simp[lq2,List.getD])
   have n1:=zkV (i:=qk.1) hnm ()
   have n2:=zkV (i:=qk.2) hnm ()
   have ne12:at_ xs qk.1≠at_ xs qk.2:=λz=>e (zfd nd () () z)
   refine zbe rfl ⟨_,rfl,_,rfl,py,_,0,_,rfl,rfl, .inl (.inl hpy5),at0,h,_,_,_,rfl,rfl,SqL.of hh5,g1,_,rfl,_,rfl,py,_,1,_,rfl,rfl, .inl (.inl hpy5),at1,h,_,_,_,rfl,rfl,SqL.of hh5,g2,_,_,rfl,?_⟩
   have app:∀{H6 H7:Hp} {p7:Addr} {x1 x2 w':Str} {σ':St},Hand H6 a (n+30+i+1)->Keep a H5 H6->H6 p7=none->H7=upd H6 p7 (.tup [V.str x1,V.str x2,V.str w'])->zbB [x1,x2,w']=true->zT [x1,x2,w']=pr (at_ xs qk.1) (at_ xs qk.2)->
    (∃o4 o5 o6 o8 o9 o10,σ'=[some (.ref a),some (.ref h),some (.int more),some (.ref lp),o4,o5,o6,some (.ref lr),o8,o9,o10])->H7 lr=some (.lst us)/\(∃o4 o5 o6 o8 o9 o10,σ'=[some (.ref a),some (.ref h),some (.int more),some (.ref lp),o4,o5,o6,some (.ref lr),o8,o9,o10])/\(upd H7 lr (.lst (us ++ [V.ref p7]))) lp=some (.lst vs2)/\RepL (upd H7 lr (.lst (us ++ [V.ref p7]))) vs2 (ps2.map zaS)/\
    (∃(us':List V) (rs:List (List Str)),(upd H7 lr (.lst (us ++ [V.ref p7]))) lr=some (.lst us')/\zH (upd H7 lr (.lst (us ++ [V.ref p7]))) us' rs/\KD62 xs ps2 (i+1) rs/\KAll xs ps2 (i+1) rs)/\Hand (upd H7 lr (.lst (us ++ [V.ref p7]))) a (n+30+((i+1:Nat):Int))/\Keep a H (upd H7 lr (.lst (us ++ [V.ref p7]))):=by
    intro H6 H7 p7 x1 x2 w' σ' hH6 k6 hp7 e7 hrow htie hσ
    subst e7
    have hu6:=k6 _ _ nlr hu5
    have S7:=Same.new (o:= .tup [V.str x1,V.str x2,V.str w']) hp7
    have hu7:=S7 _ _ hu6
    have m56:Mono H5 H6:= .keep k6 hH5 hH6
    have T7:zH (upd H6 p7 (.tup [V.str x1,V.str x2,V.str w'])) us rs:=⟨T5.1,λj v q e1 e2=>by obtain⟨b',e3,hb'⟩:=T5.2 j v q e1 e2;exact⟨b',e3,S7 _ _ (m56.tup _ _ hb')⟩⟩
    have e7:=zb (H:=H6) (a:=p7) (o:= .tup [V.str x1,V.str x2,V.str w'])
    have hv7:=S7 _ _ (k6 _ _ nlp hv5)
    refine⟨hu7,hσ,by rw[zc (Ne.symm nlrp)];exact hv7,(r5'.mono (m56.trans (.of S7))).mono (.lset hu7),⟨_,rs ++ [[x1,x2,w']],zb,?_,kd.put nd hp2 eq e hin hrow htie,ka.put eq htie⟩,((hH6.new hp7).updNe nlr).mono (by push_cast;lia),Keep.updNew ((k5.trans k6).trans (Keep.of S7)) hlrH⟩
    refine⟨by rw[Z0,Z0,T7.1];rfl,λj v q e1 e2=>?_⟩
    generalize (upd H6 p7 (HO.tup [V.str x1,V.str x2,V.str w']))=H7 at *
    have upl:∀{b o},H7 b=some (.tup o)->(upd H7 lr (.lst (us ++ [V.ref p7]))) b=some (.tup o):=λ{b o} h=>by rw[zc (λz=>by rw[z,hu7] at h;cases h)];exact h
    rcases D1 j us.length with hj|hj
    ·rw[N1 hj] at e1
     rw[N1 (by rw[←T7.1];exact hj)] at e2
     obtain⟨b',rfl,hb'⟩:=T7.2 j v q e1 e2
     exact⟨b',rfl,upl hb'⟩
    ·have ej:j=us.length:=by
      rcases D1 j (us ++ [V.ref p7]).length with z|z
      ·rw[Z0,List.length_singleton] at z;lia
      ·rw[I0 z] at e1;cases e1
     subst ej
     rw[L1 (L0 _),Nat.sub_self] at e1
     rw[L1 (by rw[T7.1];exact L0 _),T7.1,Nat.sub_self] at e2
     cases e1
     cases e2
     exact⟨p7,rfl,upl e7⟩
   refine⟨_,rfl,a,4,_,rfl,hH5,(),⋯,⋯,λd H6 d0 d1 hH6 k6=>⟨rfl,_,rfl,zd9 (λ_=>?_) (λ_=>?_)⟩⟩
   ·have hu6:=k6 _ _ nlr hu5
    refine⟨_,rfl, .inl ⟨rfl,_,SqL.of hu6⟩,_,rfl,_,rfl,_,_,rfl,_,rfl,_,rfl,_,_,rfl,few rfl,λp7 hp7=>?_⟩
    have A7:=λσ' hσ=>app (σ':=σ') hH6 k6 hp7 rfl (zlm n1 n2 ne12) (by show pr _ _=_;exact zsN) hσ
    exact⟨lr,_,_,rfl,rfl,(A7 _ (skip none none none none none none)).1,zj (),(A7 _ (skip _ _ _ _ _ _)).2⟩
   ·have hu6:=k6 _ _ nlr hu5
    refine⟨_,rfl, .inl ⟨rfl,_,SqL.of hu6⟩,_,rfl,_,rfl,few rfl,λp7 hp7=>?_⟩
    have A7:=λσ' hσ=>app (σ':=σ') hH6 k6 hp7 rfl (znt n1 n2 ne12) rfl hσ
    exact⟨lr,_,_,rfl,rfl,(A7 _ (skip none none none none none none)).1,zj (),(A7 _ (skip _ _ _ _ _ _)).2⟩
  ·rintro σ' H3 ⟨⟨o4,o5,o6,o8,o9,o10,rfl⟩,hv3,r3,⟨us,rs,hu3,T3,kd,ka⟩,hH3,k3⟩
   have lrs:rs.length<=20:=by have:=kd.few;lia
   refine⟨_,rfl,lr,us,rs,rfl, .inl (SqL.of hu3),T3,λr hr'=>?_,(),λls vs' l4 hpm hpw T4 hl4=>⟨l4,_,rfl, .inl ⟨SqL.of zb,λp5 hp5=>?_⟩⟩⟩
   ·obtain ⟨x1,x2,w',rfl,_⟩:=zR (kd.row r hr')
    exact(by decide:0<3)
   ·have S:=(Same.new (o:= .lst vs') hl4).trans (Same.new (o:= .tup vs') hp5)
    have l0:p0.length=xs.length -1:=hdl
    have el:vs2.length=ps2.length:=()
    have ksp:zjd xs ls:=by
     refine⟨p0,ex,l0,hp0,(),by rw[←eex];exact hp2,λr hr'=>?_,λq hq=>?_⟩
     ·obtain ⟨q,hq,_,e⟩:=kd.old r (hpm.mem_iff.mp hr')
      exact⟨q,by rw[←eex];exact List.mem_of_mem_take hq,e⟩
     ·obtain ⟨j,hj,ej⟩:=E2 hq
      have hq1:=(hp0 j q (by rw[D0 hj,ej])).1
      obtain⟨r,h1,h2⟩:=ka q (by rw[el,P2,eex];exact W1 _ hq) ()
      exact⟨r,hpm.mem_iff.mpr h1,h2⟩
    refine q p5 vs' ls _ zb (z4 T4 S) (zrJ kd.row kd.nd hpm hpw) ksp (by rw[hpm.length_eq];exact lrs) ((hH3.same S).mono ?_) (k3.trans (Keep.of S))
    lia
noncomputable def zdO:Sp:=λvs H Q _=>∃(p:Addr) (us:List V) (rs:List (List Str)) (a b:Str),vs=[.ref p, .str a, .str b]/\H p=some (.tup us)/\zH H us rs/\(∀r∈rs,zbB r=true)/\rs.length<=60/\zf a=true/\zf b=true/\∀H',Same H H'->Q (.bl (decide ([a,b,"over"]∈rs))) H'
theorem zqu{p8:Addr}{a b:Str}(ha:zf a=true)(hb:zf b=true)(e:H p8=some (.tup [V.str a,V.str b,V.str "over"])):Tr H (.ref p8) (pyD (tD [a,b,"over"])):=by
 refine zkF (.mkL (vs:=[V.str a,V.str b,V.str "over"]) e (by decide:3<=1000) (za9 (hs:=[a,b,"over"]) λx hx=>?_)) ?_
 ·simp only[R0,List.not_mem_nil,or_false] at hx
  rcases hx with rfl|rfl|rfl
  ·exact zy ha
  ·exact zy hb
  ·decide
 ·show okD (.tup [.str a, .str b, .str "over"])=true
  rw[okD,okL,okL,okL,okL,okD,okD,okD,zaa ha,zaa hb]
  decide +kernel
theorem zop{us:List V}(hp:H p=some (.tup us))(T:zH H us rs)(hrow:∀r∈rs,zbB r=true)(l6:rs.length<=60):Tr H (.ref p) (.tuple (pyL (rs.map tD))):=by
 have rk:Rep H (.ref p) (.tup (rs.map tD)):= .mkL hp (by rw[C0];lia) (ztD T λr hr'=>zjm (hrow r hr'))
 have:=zkF rk (by rw[okD];exact zjW λd hd=>by obtain⟨r,hr',rfl⟩:=X0.mp hd;exact zqq (hrow r hr'))
 rw[pyD] at this
 exact this
theorem zeN(Y:Ev K mg):FnOk P w K mg base CX0 1 Y.a_is_elder Y.d_is_elder zbC zdO:=by
 refine Y.is_elder.fn.okQ zjV (λvs H Q E h=>?_) `V3
 ·obtain ⟨p,us,rs,a,b,rfl,_⟩:=h;rfl
 ·obtain ⟨p,us,rs,a,b,rfl,hp,T,hrow,l6,ha,hb,q⟩:=h
  refine⟨_,(zm (zw (zcH (znW (zjR hr)) (zF (za (qv 1) (za (qv 2) (za zbb zd)))) (qv 0)))),?_⟩
  refine⟨_,rfl,_,rfl,few rfl,λp8 hp8=>?_⟩
  have S8:=Same.new (o:= .tup [V.str a,V.str b,V.str "over"]) hp8
  refine⟨_,rfl,_,_,zqu ha hb zb, .inr (zop (S8 _ _ hp) (zd8 T S8) hrow l6),zli,?_⟩
  rw[zn6]
  exact q _ S8
theorem zid(Y:Ev K mg):FnOk P w K mg base CX0 1 Y.a__law_is_child Y.d__law_is_child zaA zdO:=by
 refine Y._law_is_child.fn.okQ zeZ (λvs H Q E h=>?_) `V3
 ·obtain ⟨p,us,rs,a,b,rfl,_⟩:=h;rfl
 ·obtain ⟨p,us,rs,a,b,rfl,hp,T,hrow,l6,ha,hb,q⟩:=h
  refine⟨_,(zm (zw (zcH (znW (zjR hr)) (zF (za (qv 1) (za (qv 2) (za zbb zd)))) (qv 0)))),?_⟩
  refine⟨_,rfl,_,rfl,few rfl,λp8 hp8=>?_⟩
  have S8:=Same.new (o:= .tup [V.str a,V.str b,V.str "over"]) hp8
  refine⟨_,rfl,_,_,zqu ha hb zb, .inr (zop (S8 _ _ hp) (zd8 T S8) hrow l6),zli,?_⟩
  rw[zn6]
  exact q _ S8
noncomputable def zjE:Sp:=λvs H Q _=>∃(v:V) (x:Str) (g:Str) (hs:List Str) (ps:List (Str×Str)) (lks hds:List D),vs=[v, .str x]/\Rep H v (zbR g hs ps lks hds)/\ps.length<=30/\∀(l:Addr) (ts:List Str) (H':Hp),H l=none->H' l=some (.lst (ts.map V.str))->ts.Perm (zb2 ps x)->sortedS ts=true->Same H H'->Q (.ref l) H'
theorem zk0(Y:Ev K mg):FnOk P w K mg base CX0 1 Y.a_tied Y.d_tied zfa zjE:=by
 refine Y.tied.fn.okQ zno (λvs H Q E h=>?_) `V3
 ·obtain ⟨v,x,g,hs,ps,lks,hds,rfl,_⟩:=h;rfl
 ·obtain ⟨v,x,g,hs,ps,lks,hds,rfl,hv,TP,q⟩:=h
  obtain⟨p,pr,pt,pl,pa,vt,vl,va,rfl,hp,hpr,hpt,rt,hpl,rl,hpa,ra⟩:=zea hv
  refine⟨_,(zh (zE 2 zno.nd (zag zM (qv 0) zk))
   (zm (zw (zr zbu Y.sorted zah (za (zN zq6 (zbz (src:=[none,none,some 1]) zfs rfl rfl (zbd (qv 2)) (λ_ _ _ _ _=>(zgZ (K:=K) 2 rfl rfl (zx (zn 0 zfs.nd) (zx (zn 1 zfs.nd) zaY)))) (λ_ _ _ _ _=>(ziS (zK zat (qv 1) (qc 2)))) (λ_ _ _ _ _=>(qv 0))) (zbz (src:=[none,none,some 1]) zfC rfl rfl (zbd (qv 2)) (λ_ _ _ _ _=>(zgZ (K:=K) 2 rfl rfl (zx (zn 0 zfC.nd) (zx (zn 1 zfC.nd) zaY)))) (λ_ _ _ _ _=>(ziS (zK zat (qv 0) (qc 2)))) (λ_ _ _ _ _=>(qv 1)))) zd))))),?_⟩
  refine⟨_,rfl,p,_,2,_,rfl,rfl, .inl (.inl hp),zab (j:=2) rfl,?_⟩
  refine⟨_,rfl,pt,rfl,⟨_, .inl (.inl hpt)⟩,?_⟩
  refine zib (ps:=ps) (sel:=λp=>decide (p.2=x)) (f:=(·.1)) (λσ'=>∃o1 o2,σ'=[o1,o2,some (.str x)]) (zap (K:=K)) (λH' s'=> .inl (.inl (s' _ _ hpt))) rt () ⟨_,_,rfl⟩ ?_ λl1 H1 s1 hl1 e1=>?_
  ·rintro q p σ' H1 A B ⟨o1,o2,rfl⟩ s1 hq hp1 k
   refine⟨q,_,rfl, .inl (.inl hq),rfl,_,_,rfl,_,_,rfl,rfl,_,rfl,_,rfl,rfl,_,rfl,?_⟩
   have k:=k [some (.str p.1),some (.str p.2),some (.str x)] ⟨_,_,rfl⟩
   rw[zbi]
   cases e:decide (p.2=x)with
   |false=>rw[e] at k;exact k
   |true=>rw[e] at k;exact⟨_,rfl,k⟩
  refine⟨_,rfl,pt,rfl,⟨_, .inl (.inl (s1 _ _ hpt))⟩,?_⟩
  refine zib (ps:=ps) (sel:=λp=>decide (p.1=x)) (f:=(·.2)) (λσ'=>∃o1 o2,σ'=[o1,o2,some (.str x)]) (zap (K:=K)) (λH' s'=> .inl (.inl (s' _ _ (s1 _ _ hpt)))) (rt.mono (.of s1)) () ⟨_,_,rfl⟩ ?_ λl2 H2 s2 hl2 e2=>?_
  ·rintro q p σ' H1 A B ⟨o1,o2,rfl⟩ s1 hq hp1 k
   refine⟨q,_,rfl, .inl (.inl hq),rfl,_,_,rfl,_,_,rfl,rfl,_,rfl,_,rfl,rfl,_,rfl,?_⟩
   have k:=k [some (.str p.1),some (.str p.2),some (.str x)] ⟨_,_,rfl⟩
   rw[zbi]
   cases e:decide (p.1=x)with
   |false=>rw[e] at k;exact k
   |true=>rw[e] at k;exact⟨_,rfl,k⟩
  have nl':((ps.filter λp=>decide (p.2=x)).map (·.1)).length+((ps.filter λp=>decide (p.1=x)).map (·.2)).length<=60:=by
   have f1:=List.length_filter_le (λp=>decide (p.2=x)) ps
   have f2:=List.length_filter_le (λp=>decide (p.1=x)) ps
   rw[C0,C0];lia
  have nl:(zb2 ps x).length<=60:=by unfold zb2;rw[Z0];exact nl'
  refine⟨l1,l2,_,_,rfl,rfl,s2 _ _ e1,e2,A3 (zj (by simp only[C0] at nl'⊢;lia)),λl3 hl3=>?_⟩
  rw[←F2]
  have S3:=Same.new (o:= .lst ((zb2 ps x).map V.str)) hl3
  refine⟨l3,zb2 ps x,rfl, .inl (SqL.of zb),(),λts l4 hp4 hs4 hl4=>q l4 ts _ ?_ zb hp4 hs4 (((s1.trans s2).trans S3).trans (Same.new hl4))⟩
  exact zar ((s1.trans s2).trans S3) hl4
noncomputable def gK(rs:List (List Str))(x:Str):D->Bool
 | .str y=>!decide ([x,y,"over"]∈rs)
 |_=>false
noncomputable def zas(rs:List (List Str))(x:Str)(ns:List Str):List Str:=ns.filter λy=>!decide ([x,y,"over"]∈rs)
theorem zla{rs:List (List Str)}{x:Str}:∀ns:List Str,(ns.map D.str).filter (gK rs x)=(zas rs x ns).map D.str
 |[]=>rfl
 |y::ns=>by
  unfold zas
  rw[V1,List.filter_cons,List.filter_cons,show gK rs x (.str y)=!decide ([x,y,"over"]∈rs)from rfl]
  have:=zla (rs:=rs) (x:=x) ns
  unfold zas at this
  split
  ·rw[V1,this]
  ·exact this
noncomputable def khD(a b:Str):D:= .tup [.tup [.tup [.str "from", .str a], .tup [.str "to", .str b]], .tup [.str "keep"]]
noncomputable def khL(os as:List Str):List D:=as.flatMap λa=>(os.filter λb=>!decide (a=b)).map (khD a)
theorem ze2{os:List Str}:∀as:List Str,(khL os as).length<=as.length*os.length
 |[]=>X1 _
 |a::as=>by
  have h1:=ze2 (os:=os) as
  have h2:=List.length_filter_le (λb=>!decide (a=b)) os
  unfold khL at h1⊢
  rw[List.flatMap_cons,Z0,C0,Y1,Nat.succ_mul]
  lia
noncomputable def zik:Sp:=λvs H Q _=>∃(l p:Addr) (x:Str) (ns:List Str) (us:List V) (rs:List (List Str)),vs=[.str x, .ref l, .ref p]/\H l=some (.lst (ns.map V.str))/\H p=some (.tup us)/\zH H us rs/\(∀r∈rs,zbB r=true)/\rs.length<=60/\zf x=true/\(∀y∈ns,zf y=true)/\ns.length<=12/\
 ∀v H',Rep H' v (.tup (khL (zas rs x ns) (zas rs x ns)))->Same H H'->Q v H'
theorem zhO(Y:Ev K mg):FnOk P w K mg base CX0 2 Y.a_kin_hands Y.d_kin_hands zbT zik:=by
 have G_is_elder:FnOk P w K mg base CX0 1 Y.a_is_elder Y.d_is_elder zbC zdO:=zeN Y
 refine Y.kin_hands.fn.okQ zeR (λvs H Q E h=>?_) `V3
 ·obtain ⟨l,p,x,ns,us,rs,rfl,_⟩:=h;rfl
 ·obtain ⟨l,p,x,ns,us,rs,rfl,hl,hp,T,hrow,l6,hx,hns,ln,q⟩:=h
  refine⟨_,(zh (zbW 3 zeR.nd (zbz (src:=[none,some 0,some 2]) zdp rfl rfl (zbG (qv 1)) (λ_ _ _ _ _=>(zn 0 zdp.nd)) (λ_ _ _ _ _=>(ziS (zkP (zgJ (zo G_is_elder (hr.mono ⋯) Y.is_elder.mg Y.is_elder.kp Y.is_elder.b .nil zu (za (qc 2) (za (qc 1) (za (qv 0) zd)))))))) (λ_ _ _ _ _=>(qv 0))))
   (zm (zw (zaf zJ Y.tuple zaJ (za (zpq (src:=[none,none,some 3]) zb0 rfl rfl (zkW (K:=K) rfl (qc 3)) (λ_ _ _ _ _=>(zn 0 zb0.nd)) (λ_ _ _ _ _=>zbn) (λ_ _ _ _ _=>(zkW (K:=K) rfl (qc 2))) (λ_ _ _ _ _=>(zn 1 zb0.nd)) (λ_ _ _ _ _=>(ziS (zK zkL (qv 0) (qv 1)))) (λ_ _ _ _ _=>(zF (za (zF (za (zF (za zbb (za (qv 0) zd))) (za (zF (za zbb (za (qv 1) zd))) zd))) (za (zF (za zbb zd)) zd))))) zd))))),?_⟩
  refine⟨_,rfl,l,rfl,⟨_,SqL.of hl⟩,?_⟩
  refine ze7 (g:=gK rs x) (f:=λd=>d) (σr:=[some (.str x),some (.ref p)]) (zaO (K:=K)) (λH' s'=>SqL.of (s' _ _ hl)) (za9 λy hy=>zy (hns y hy)) (by rw[C0];lia) rfl ?_ (λx d HA sA rx hd=>zkm rfl rx) λl1 us1 H1 s1 hl1 e1 r1=>?_
  ·intro z d HA Q1 sA rz hd q1
   obtain⟨y,hy,rfl⟩:=X0.mp hd
   cases rz with|str _ _=>
   refine⟨_,rfl,_,rfl,_,rfl,p,us,rs,x,y,rfl,sA _ _ hp,zd8 T sA,hrow,l6,hx,hns y hy,λHB sB=>?_⟩
   exact⟨_,rfl,q1 HB sB⟩
  rw[show((ns.map D.str).filter (gK rs x)).map (λd=>d)=(zas rs x ns).map D.str by rw[List.map_id',zla]] at r1
  have eu:=zgE r1
  subst eu
  have lo:(zas rs x ns).length<=12:=B2 (List.length_filter_le _ _) ln
  have no:∀y∈zas rs x ns,zf y=true:=λy hy=>hns y (J1.mp hy).1
  generalize zas rs x ns=os at *
  dsimp only[zay]
  refine⟨_,rfl,l1,rfl,⟨_,SqL.of e1⟩,?_⟩
  have wk:=zaO (K:=K) (a:=l1) (xs:=os.map V.str)
  rw[C0] at wk
  refine zlN (n:=os.length) (λl2 i ys σ' H'=>(∃o1 o2,σ'=[o1,o2,some (.ref l1)])/\RepL H' ys (khL os (os.take i))/\Same H1 H') ?_ ?_ ?_ ?_ ?_
  ·exact λl2 hl2=>⟨⟨_,_,rfl⟩,RepL.nil,Same.new hl2⟩
  ·exact λl2 i ys σ' H' hl2 hi z=>wk.go i H' (SqL.of (z.2.2 _ _ e1)) hi
  ·exact λl2 ys σ' H' hl2 z=>wk.stop _ H' (SqL.of (z.2.2 _ _ e1)) (L0 _)
  ·rintro l2 i a ys σ' H2 H3 hl2 hi ⟨⟨o1,o2,rfl⟩,ry,s2⟩ hl2' yl
   obtain⟨rfl,px⟩:=wk.yld i H2 a H3 (SqL.of (s2 _ _ e1)) hi yl
   have ei:os[i]?=some os[i]:=D0 hi
   have ea:a= .str os[i]:=by rw[N0,ei] at px;cases px;rfl
   subst ea
   have ha:=no _ (Z2 hi)
   have tk:khL os (os.take (i+1))=khL os (os.take i)++(os.filter λb=>!decide (os[i]=b)).map (khD os[i]):=by
    unfold khL;rw[D2,ei,List.flatMap_append];simp
   generalize os[i]=a0 at *
   dsimp only[zay]
   refine⟨_,rfl,l1,rfl,⟨_,SqL.of (s2 _ _ e1)⟩,hl2',?_⟩
   refine zs4 wk (λj zs σ' H'=>(∃o2,σ'=[some (.str a0),o2,some (.ref l1)])/\RepL H' zs (khL os (os.take i)++(((os.take j).filter λb=>!decide (a0=b)).map (khD a0)))/\Same H1 H') ⟨⟨_,rfl⟩,by simpa using ry,s2⟩ (λj zs σ' H' z=>SqL.of (z.2.2 _ _ e1)) ?_ ?_
   ·rintro j y zs σ' H4 hj hy ⟨⟨o3,rfl⟩,rz,s4⟩ hl4
    have ej:os[j]?=some os[j]:=D0 hj
    have ey:y= .str os[j]:=by rw[N0,ej] at hy;cases hy;rfl
    subst ey
    have hb:=no _ (Z2 hj)
    have tj:(os.take (j+1)).filter (λb=>!decide (a0=b))=(os.take j).filter (λb=>!decide (a0=b))++(if a0=os[j] then [] else [os[j]]):=by
     rw[D2,ej,List.filter_append]
     by_cases c:a0=os[j]<;>simp[c]
    generalize os[j]=b0 at *
    dsimp only[zay]
    refine⟨_,rfl,_,rfl,rfl,_,rfl,?_⟩
    rw[zbi]
    by_cases c:a0=b0
    ·rw[U0 c]
     exact zaI rfl ⟨hl4,⟨_,rfl⟩,by rw[tj,c0 c,List.append_nil];exact rz,s4⟩
    ·rw[A1 c]
     refine zbe rfl ?_
     have da:Rep H4 (.str a0) (.str a0):= .str _ (zy ha)
     have db:Rep H4 (.str b0) (.str b0):= .str _ (zy hb)
     refine(show Dsp _ _ H4 (khD a0 b0) by unfold khD;(repeat' (first|exact zp0 ⋯|exact dsp_int|exact dsp_bl|exact dsp_non|exact dsp_neg|exact znd|exact dsp_dnew|exact dsp_disp rfl|exact zkm rfl (by assumption)|refine zlY ?_ ?_|refine zp9 ?_ ?_|refine dsp_lst' ?_|refine n_cons ?_ ?_|exact n_nil|exact v_c|exact v_var rfl|refine v_tup ?_|refine dspl_lst ?_ ?_|refine dspl_cat ?_ ?_ ?_|exact dspl_var rfl (by assumption) (by assumption)|exact Nat.le_of_ble_eq_true rfl))) H4 _ (Same.refl _) λv H5 s5 rv=>?_
     have hz:=rz.1
     have k1:=ze2 (os:=os) (os.take i)
     have k2:=List.length_filter_le (λb=>!decide (a0=b)) (os.take j)
     have k3:(os.take i).length*os.length<=12*12:=Nat.mul_le_mul (by rw[C2];lia) lo
     rw[Z0,C0] at hz
     rw[C2] at k2
     refine⟨s5 _ _ hl4,zj (),⟨_,rfl⟩,?_,?_⟩
     ·rw[tj,P0 c,F2,←List.append_assoc]
      exact((rz.mono (.of s5)).append (.cons rv .nil)).mono (.lset (s5 _ _ hl4))
     ·exact λcc o e=>by
       rw[zc (zi e hl2)]
       exact s5 _ _ (s4 _ _ e)
   ·rintro zs σ' H4 ⟨⟨o3,rfl⟩,rz,s4⟩
    rw[P2,←tk] at rz
    exact⟨⟨_,_,rfl⟩,rz,s4⟩
  ·rintro l2 ys σ' H2 hl2 ⟨_,ry,s2⟩ e2
   rw[P2] at ry
   refine⟨l2,ys,rfl, .inl ⟨SqL.of e2,λlp hlp=>q _ _ (.mkL zb ?_ (ry.mono (.of (Same.new hlp)))) ((s1.trans s2).trans (Same.new hlp))⟩⟩
   have k1:=ze2 (os:=os) os
   have k3:os.length*os.length<=12*12:=Nat.mul_le_mul lo lo
   lia
def zcZ(fk:List (List Key×V)):Prop:=∀kv∈fk,∃n:Int,kv.2= .int n/\0<=n/\n<=99
noncomputable def zbm(fk:List (List Key×V))(x y:Str):Int:=match zae fk [Sum.inr x,Sum.inr y] with
 |some (.int n)=>n
 |_=>0
noncomputable def klD(rs:List (List Str))(fk:List (List Key×V))(x y:Str):D:= .tup [.tup [.tup [.str "from", .str y]], .int (zbm fk x y+if [x,y,"over"]∈rs then 100 else 0)]
theorem zsI{b:Bool}{m n:Int}{Q:VK}(h:∀c:Int,c=(if b=true then m else n)->Q (.int c) H):if b=true then tC (.int m) σ H Q else tC (.int n) σ H Q:=by
 cases b with
 |false=>exact h n rfl
 |true=>exact h m rfl
theorem zfx(hk:zcZ fk)(x y:Str):(zae fk [Sum.inr x,Sum.inr y]).getD (.int 0)= .int (zbm fk x y)/\0<=zbm fk x y/\zbm fk x y<=99:=by
 unfold zbm
 cases e:zae fk [Sum.inr x,Sum.inr y] with
 |none=>exact ⟨rfl,⋯,⋯⟩
 |some v=>
  obtain⟨kv,hkv,ev⟩:∃kv∈fk,kv.2=v:=by
   unfold zae at e
   obtain⟨kv,e1,e2⟩:=Option.map_eq_some_iff.mp e
   exact⟨kv,List.mem_of_find?_eq_some e1,e2⟩
  obtain⟨n,en,h0,h9⟩:=hk kv hkv
  rw[ev] at en
  subst en
  exact⟨rfl,h0,h9⟩
noncomputable def zix:Sp:=λvs H Q _=>∃(l p f:Addr) (x:Str) (ns:List Str) (us:List V) (rs:List (List Str)) (fk:List (List Key×V)),vs=[.str x, .ref l, .ref p, .ref f]/\H l=some (.lst (ns.map V.str))/\H p=some (.tup us)/\zH H us rs/\(∀r∈rs,zbB r=true)/\rs.length<=60/\zf x=true/\(∀y∈ns,zf y=true)/\ns.length<=12/\
 H f=some (.dT fk)/\zcZ fk/\∀v H',Rep H' v (.tup (ns.map (klD rs fk x)))->Same H H'->Q v H'
theorem zfe(Y:Ev K mg):FnOk P w K mg base CX0 2 Y.a_kin_likings Y.d_kin_likings za2 zix:=by
 have G_is_elder:FnOk P w K mg base CX0 1 Y.a_is_elder Y.d_is_elder zbC zdO:=zeN Y
 refine Y.kin_likings.fn.okQ za5 (λvs H Q E h=>?_) `V3
 ·obtain ⟨l,p,f,x,ns,us,rs,fk,rfl,_⟩:=h;rfl
 ·obtain ⟨l,p,f,x,ns,us,rs,fk,rfl,hl,hp,T,hrow,l6,hx,hns,ln,hf,hk,q⟩:=h
  refine⟨_,(zh (zE 4 za5.nd (zdo zd))
   (zh (zbo D3 rfl (zbG (qv 1)) (zn 5 za5.nd) (zh (zE 6 za5.nd (znP (zgJ (zo G_is_elder (hr.mono ⋯) Y.is_elder.mg Y.is_elder.kp Y.is_elder.b .nil zu (za (qv 2) (za (qv 0) (za (qv 5) zd))))) (zne Y.m_MORE_BY_CHILD Y.r_MORE_BY_CHILD) zk))
   (zm (zci (ze9 F3 F.slot_list_append F.type_list_append z5 (qv 4) (za (zF (za (zF (za (zF (za zbb (za (qv 5) zd))) zd)) (za (zN zaF (zkS (hu1 hr) (qv 3) (zF (za (qv 0) (za (qv 5) zd))) zk) (qv 6)) zd))) zd))))))
   (zm (zw (zaf zJ Y.tuple zaJ (za (qv 4) zd)))))),?_⟩
  refine⟨few rfl,λlr hlr=>?_⟩
  have S0:=Same.new (o:= .lst []) hlr
  refine⟨_,rfl,l,rfl,⟨_,SqL.of (S0 _ _ hl)⟩,?_⟩
  refine zaN (zaO (K:=K) (xs:=ns.map V.str)) (λi σ' H'=>(∃o5 o6,σ'=[some (.str x),some (.ref l),some (.ref p),some (.ref f),some (.ref lr),o5,o6])/\(∃ys,H' lr=some (.lst ys)/\RepL H' ys ((ns.take i).map (klD rs fk x)))/\Same H H') ?_ ?_ ?_ ?_
  ·exact ⟨⟨_,_,rfl⟩,⟨[],zb,RepL.nil⟩,S0⟩
  ·exact λi σ' H' z=>SqL.of (z.2.2 _ _ hl)
  ·rintro i y σ' H5 hi hy ⟨⟨o5,o6,rfl⟩,⟨ys,e5,r5⟩,s5⟩
   have hi':i<ns.length:=by simpa using hi
   have ei:ns[i]?=some ns[i]:=D0 hi'
   have ey:y= .str ns[i]:=by rw[N0,ei] at hy;cases hy;rfl
   subst ey
   have hy0:=hns _ (B1 ei)
   have tk:(ns.take (i+1)).map (klD rs fk x)=(ns.take i).map (klD rs fk x)++ [klD rs fk x ns[i]]:=by rw[D2,ei,F2];rfl
   generalize ns[i]=y0 at *
   dsimp only[zay]
   refine⟨_,rfl,_,rfl,_,rfl,p,us,rs,x,y0,rfl,s5 _ _ hp,zd8 T s5,hrow,l6,hx,hy0,λH6 s6=>⟨_,rfl,?_⟩⟩
   refine zsI λc hc=>?_
   dsimp only[zay]
   refine⟨_,rfl, .inl ⟨rfl,_,SqL.of (s6 _ _ e5)⟩,?_⟩
   refine⟨_,rfl,few rfl,λp1 hp1=>⟨few rfl,λp2 hp2=>?_⟩⟩
   have S1:=Same.new (o:= .tup [V.str "from",V.str y0]) hp1
   have S2:=Same.new (o:= .tup [V.ref p1]) hp2
   have s62:=s6.trans (S1.trans S2)
   refine⟨_,rfl,f,rfl, .inr ⟨_, .inl ((s5.trans s62) _ _ hf)⟩,_,rfl,_,rfl,few rfl,λp3 hp3=>?_⟩
   have S3:=Same.new (o:= .tup [V.str x,V.str y0]) hp3
   have s63:=s62.trans S3
   refine⟨_,DGet.t (k:=[Sum.inr x,Sum.inr y0]) ((s5.trans s63) _ _ hf) zb,?_⟩
   obtain⟨fe,f0,f9⟩:=zfx hk x y0
   rw[fe]
   refine⟨_,rfl,_,_,rfl,rfl,few rfl,λp4 hp4=>⟨lr,ys,_,rfl,rfl,?_,?_,?_⟩⟩
   ·exact Same.new hp4 _ _ (s63 _ _ e5)
   ·have:=r5.1
    rw[C0,C2] at this
    exact zj ()
   ·have S4:=Same.new (o:= .tup [V.ref p2,V.int (zbm fk x y0+c)]) hp4
    have e1:=S4 _ _ (S3 _ _ (S2 _ _ (zb (H:=H6) (a:=p1) (o:= .tup [V.str "from",V.str y0]))))
    have e2:=S4 _ _ (S3 _ _ (zb (H:=upd H6 p1 (.tup [V.str "from",V.str y0])) (a:=p2) (o:= .tup [V.ref p1])))
    have e4:=zb (H:=upd (upd (upd H6 p1 (.tup [V.str "from",V.str y0])) p2 (.tup [V.ref p1])) p3 (.tup [V.str x,V.str y0])) (a:=p4) (o:= .tup [V.ref p2,V.int (zbm fk x y0+c)])
    have s64:=s63.trans S4
    generalize upd (upd (upd (upd H6 p1 (.tup [V.str "from",V.str y0])) p2 (.tup [V.ref p1])) p3 (.tup [V.str x,V.str y0])) p4 (.tup [V.ref p2,V.int (zbm fk x y0+c)])=H8 at *
    have rn:Rep H8 (.ref p4) (klD rs fk x y0):=by
     have r1:Rep H8 (.ref p1) (.tup [.str "from", .str y0]):= .mkL e1 (by decide:2<=1000) (.cons (.str _ ⋯) (.cons (.str _ (zy hy0)) .nil))
     have r2:Rep H8 (.ref p2) (.tup [.tup [.str "from", .str y0]]):= .mkL e2 (by decide:1<=1000) (.cons r1 .nil)
     have ec:c=if [x,y0,"over"]∈rs then 100 else 0:=by
      rw[hc]
      by_cases z:[x,y0,"over"]∈rs
      ·rw[c0 z,c0 (U0 z)]
      ·rw[P0 z,P0 (by rw[A1 z];decide)]
     unfold klD
     rw[←ec]
     exact .mkL e4 (by decide:2<=1000) (.cons r2 (.cons (.int _) .nil))
    refine⟨⟨_,_,rfl⟩,⟨_,zb,?_⟩,λcc o e=>?_⟩
    ·rw[tk]
     exact((r5.mono (.of s64)).append (.cons rn .nil)).mono (.lset (s64 _ _ e5))
    ·rw[zc (zi e hlr)]
     exact s64 _ _ (s5 _ _ e)
  ·rintro σ' H5 ⟨⟨o5,o6,rfl⟩,⟨ys,e5,r5⟩,s5⟩
   rw[C0,P2] at r5
   refine⟨_,rfl,lr,ys,rfl, .inl ⟨SqL.of e5,λlp hlp=>q _ _ (.mkL zb (by rw[C0];lia) (r5.mono (.of (Same.new hlp)))) (s5.trans (Same.new hlp))⟩⟩
theorem zb6{Q:VK}(h:H a=some (.tup xs))(k:∀p H',H' p=some (.tup (zcD xs lo hi))->Same H H'->Q (.ref p) H'):zss K (.ref a) lo hi H Q:=
 ⟨a,xs,rfl, .inl (.inl h),λz=>k a H (by rw[z];exact h) (Same.refl _),λp hp=>k p _ zb (Same.new hp)⟩
theorem zfb{b:Addr}{Q:VK}(ha:H a=some (.tup xs))(hb:H b=some (.tup ys))(hl:xs.length+ys.length<=1000)(k:∀p H',H' p=some (.tup (xs ++ys))->Same H H'->Q (.ref p) H'):zqY K (.ref a) (.ref b) H Q:=
 ⟨a,b,xs,ys,rfl,rfl, .inl (.inl ha), .inl (.inl hb),A3 (zj hl),λz=>k b H (by rw[z];exact hb) (Same.refl _),λ_ z=>k a H (by rw[z,List.append_nil];exact ha) (Same.refl _),λ_ _ p hp=>k p _ zb (Same.new hp)⟩
theorem zka{g:TG}{tk:TE}{src:List (Option Nat)}{Q:VK}(Pv:Addr->Nat->List (Key×V)->St->Hp->Prop)
 (h0:∀l,H1 l=none->Pv l 0 [] (zdk src σ) (upd H1 l (.dK []))) (hgo:∀l i ys σ H,H1 l=none->i<n->Pv l i ys σ H->J.go i H) (hst:∀l ys σ H,H1 l=none->Pv l n ys σ H->J.stop n H)
 (hs:∀l i x ys σ H H2,H1 l=none->i<n->Pv l i ys σ H->H l=some (.dK ys)->J.yld i H x H2->g x σ H2 λσ2 H3=>tc σ2 H3 λb H4=>
   if b=true then tk σ2 H4 λk H5=>tv σ2 H5 λy H6=>∃k',k=kV k'/\H6 l=some (.dK ys)/\ys.length<sizeLine/\Pv l (i+1) (zaj ys k' y) σ2 (upd H6 l (.dK (zaj ys k' y)))else H4 l=some (.dK ys)/\Pv l (i+1) ys σ2 H4)
 (hd:∀l ys σ H,H1 l=none->Pv l n ys σ H->H l=some (.dK ys)->Q (.ref l) H):zfK g tc tk tv src σ Q J H1:=by
 intro l hl
 refine⟨λi m ys σ H=>m=n -i/\i<=n/\Pv l i ys σ H,⟨n,`j3,X1 _,h0 l hl⟩,?_⟩
 rintro i m ys σ' H' ⟨rfl,hi,p⟩ hl'
 by_cases hlt:i<n
 ·exact .inr ⟨hgo l i ys σ' H' hl hlt p,Pv l (i+1),λzs σ2 H2 q=>⟨n -(i+1),(),rfl,hlt,q⟩,λx H2 y=>hs l i x ys σ' H' H2 hl hlt p hl' y⟩
 ·have e:i=n:=()
  subst e
  exact .inl ⟨hst l ys σ' H' hl p,hd l ys σ' H' hl p hl'⟩
theorem zmu{g:TG}{src:List (Option Nat)}{Q:VK}(Pv:Addr->Nat->List Str->St->Hp->Prop)
 (h0:∀l,H1 l=none->Pv l 0 [] (zdk src σ) (upd H1 l (StX w l []))) (hgo:∀l i ys σ H,H1 l=none->i<n->Pv l i ys σ H->J.go i H) (hst:∀l ys σ H,H1 l=none->Pv l n ys σ H->J.stop n H)
 (hs:∀l i x ys σ H H2,H1 l=none->i<n->Pv l i ys σ H->H l=some (StX w l ys)->J.yld i H x H2->g x σ H2 λσ2 H3=>tc σ2 H3 λb H4=>
   if b=true then wi2 σ2 H4 λJ2 H5=>H5 l=some (StX w l ys)/\zok w g2 tc2 te l ys (Pv l (i+1)) J2 σ2 H5 else H4 l=some (StX w l ys)/\Pv l (i+1) ys σ2 H4)
 (hd:∀l ys σ H,H1 l=none->Pv l n ys σ H->H l=some (StX w l ys)->Q (.ref l) H):zlb w g tc wi2 g2 tc2 te src σ Q J H1:=by
 intro l hl
 refine⟨λi m ys σ H=>m=n -i/\i<=n/\Pv l i ys σ H,⟨n,`j3,X1 _,h0 l hl⟩,?_⟩
 rintro i m ys σ' H' ⟨rfl,hi,p⟩ hl'
 by_cases hlt:i<n
 ·exact .inr ⟨hgo l i ys σ' H' hl hlt p,Pv l (i+1),λzs σ2 H2 q=>⟨n -(i+1),(),rfl,hlt,q⟩,λx H2 y=>hs l i x ys σ' H' H2 hl hlt p hl' y⟩
 ·have e:i=n:=()
  subst e
  exact .inl ⟨hst l ys σ' H' hl p,hd l ys σ' H' hl p hl'⟩
theorem zrp{P:Nat->V->Prop}{ok:Hp->Prop}{ys:List Str}{N:List Str->St->Hp->Prop}(wk:Wk J n P ok)(Pv:Nat->List Str->St->Hp->Prop)(h0:Pv 0 ys σ H)(hok:∀i ys σ H,Pv i ys σ H->ok H)
 (hs:∀i x ys σ H,i<n->P i x->Pv i ys σ H->H l=some (StX w l ys)->g2 x σ H λσ2 H3=>tc2 σ2 H3 λb H4=>
   if b=true then te σ2 H4 λy H5=>∃z,y= .str z/\H5 l=some (StX w l ys)/\ys.length<76/\Pv (i+1) (zb7 ys z) σ2 (upd H5 l (StX w l (zb7 ys z)))else H4 l=some (StX w l ys)/\Pv (i+1) ys σ2 H4)
 (hd:∀ys σ H,Pv n ys σ H->N ys σ H):zok w g2 tc2 te l ys N J σ H:=by
 refine⟨λi m ys σ H=>m=n -i/\i<=n/\Pv i ys σ H,⟨n,`j3,X1 _,h0⟩,?_⟩
 rintro i m ys σ H ⟨rfl,hi,p⟩ hl
 by_cases hlt:i<n
 ·refine .inr ⟨wk.go i H (hok i ys σ H p) hlt,Pv (i+1),λzs σ' H' q=>⟨n -(i+1),(),rfl,hlt,q⟩,λx H' y=>?_⟩
  obtain⟨rfl,px⟩:=wk.yld i H x H' (hok i ys σ H p) hlt y
  exact hs i x ys σ _ hlt px p hl
 ·have e:i=n:=()
  subst e
  exact .inl ⟨wk.stop i H (hok i ys σ H p) (L0 _),hd ys σ H p⟩
theorem zmZ{k:List Key}{n:Int}(h:zcZ fk)(h0:0<=n)(h9:n<=99):zcZ (zaj fk k (.int n))/\(zaj fk k (.int n)).length<=fk.length+1:=by
 unfold zaj
 split
 ·refine ⟨λkv hkv=>?_,by rw[C0];exact Nat.le_succ _⟩
  obtain⟨z,hz,rfl⟩:=X0.mp hkv
  split
  ·exact ⟨n,rfl,h0,h9⟩
  ·exact h z hz
 ·refine ⟨λkv hkv=>?_,by rw[Z0];exact L0 _⟩
  rcases F1.mp hkv with z|z
  ·exact h kv z
  ·rw[K0.mp z];exact⟨n,rfl,h0,h9⟩
noncomputable def zmR:Sp:=λvs H Q _=>∃(a p:Addr) (n:Int) (us:List V) (rs:List (List Str)),vs=[.ref a, .ref p]/\Hand H a n/\n<2^38/\H p=some (.tup us)/\zH H us rs/\(∀r∈rs,zbB r=true)/\rs.length<=30/\
 ∀(f:Addr) (fk:List (List Key×V)) (H':Hp),H f=none->H' f=some (.dT fk)->zcZ fk->fk.length<=60->Hand H' a (n+120)->Keep a H H'->Q (.ref f) H'
theorem zoP(Y:Ev K mg):FnOk P w K mg base CX0 3 Y.a__law_fond Y.d__law_fond zbV zmR:=by
 have G__law_take:FnOk P w K mg base CX0 1 Y.a__law_take Y.d__law_take z7 zew:=zd2 Y
 have G__law_pick:FnOk P w K mg base CX0 2 Y.a__law_pick Y.d__law_pick zaG (zg6 K):=zhm Y
 refine Y._law_fond.fn.okQ zbM (λvs H Q E h=>?_) `V3
 ·obtain ⟨a,p,n,us,rs,rfl,_⟩:=h;rfl
 ·obtain ⟨a,p,n,us,rs,rfl,hH,hn,hp,T,hrow,l3,q⟩:=h
  have npa:p≠a:=λz=>by obtain⟨_,_,_,e',_⟩:=hH;rw[z,e'] at hp;cases hp
  refine⟨_,(zh (zE 2 zbM.nd zp2)
   (zh (zbo D3 rfl (zbd (qv 1)) (zn 3 zbM.nd) (zm (zbo D3 rfl (zbd (zF (za (zhu zce (qv 3) zco (zcc zk)) (za (zsz (zhu zce (qv 3) zco (zcc zk)) (zn2 zfc zk)) zd)))) (zn 4 zbM.nd) (zm (zaX (zK zmE (zo G__law_take (hr.mono ⋯) Y._law_take.mg Y._law_take.kp Y._law_take.b .nil zu (za (qv 0) (za zk zd))) zk) (zm (zoz (hu1 hr) (qv 2) (qv 4) (zo G__law_pick (hr.mono ⋯) Y._law_pick.mg Y._law_pick.kp Y._law_pick.b .nil zu (za (qv 0) (za (zhc [V.int 0,V.int 1,V.int 5,V.int 5,V.int 7,V.int 50,V.int 99] `Z3) zd))))) z8)))))
   (zm (zw (qv 2))))),?_⟩
  refine λf hf=>?_
  have S0:=Same.new (o:= .dT []) hf
  have nfa:f≠a:=hH.ne hf
  refine⟨_,rfl,p,rfl,⟨_, .inl (.inl (S0 _ _ hp))⟩,?_⟩
  refine zaN (zap (K:=K) (xs:=us)) (λi σ' H'=>(∃o3 o4,σ'=[some (.ref a),some (.ref p),some (.ref f),o3,o4])/\(∃fk,H' f=some (.dT fk)/\zcZ fk/\fk.length<=2*i)/\Hand H' a (n+4*i)/\Keep a H H') ?_ ?_ ?_ ?_
  ·exact ⟨⟨_,_,rfl⟩,⟨[],zb,(λ_ z=>nomatch z),L0 _⟩,(hH.same S0).mono (),Keep.of S0⟩
  ·exact λi σ' H' z=> .inl (.inl (z.2.2.2 _ _ npa hp))
  ·rintro i y σ' H5 hi hy ⟨⟨o3,o4,rfl⟩,⟨fk,e5,k5,l5⟩,hH5,s5⟩
   have hi':i<rs.length:=by rw[←T.1];exact hi
   obtain⟨b,rfl,hb⟩:=T.2 i y rs[i] hy (D0 hi')
   have hr0:=hrow _ (Z2 hi')
   obtain⟨x1,x2,wd,er,h1,h2,ne,_⟩:=zR hr0
   rw[er] at hb
   have nba:b≠a:=λz=>by obtain⟨_,_,_,e',_⟩:=hH;rw[z,e'] at hb;cases hb
   have hb5:=s5 _ _ nba hb
   dsimp only[zay]
   refine⟨_,rfl,2,rfl,zb6 hb5 λp1 H6 e6 s6=>?_⟩
   have e6:H6 p1=some (.tup [V.str x1,V.str x2]):=e6
   refine⟨_,rfl,2,rfl,zb6 (s6 _ _ hb5) λp2 H7 e7 s7=>?_⟩
   have e7:H7 p2=some (.tup [V.str x1,V.str x2]):=e7
   refine⟨p2,_,rfl, .inl (.inl e7),λp3 h3=>?_⟩
   rw[show([V.str x1,V.str x2]:List V).reverse=[V.str x2,V.str x1] from rfl]
   refine⟨few rfl,λp4 h4=>⟨p4,rfl,⟨_, .inl (.inl zb)⟩,?_⟩⟩
   have S3:=Same.new (o:= .tup [V.str x2,V.str x1]) h3
   have S4:=Same.new (o:= .tup [V.ref p1,V.ref p3]) h4
   have s58:=s6.trans (s7.trans (S3.trans S4))
   have t1:=S4 _ _ (S3 _ _ (s7 _ _ e6))
   have t3:=S4 _ _ (zb (H:=H7) (a:=p3) (o:= .tup [V.str x2,V.str x1]))
   have t4:=zb (H:=upd H7 p3 (.tup [V.str x2,V.str x1])) (a:=p4) (o:= .tup [V.ref p1,V.ref p3])
   show zkI _ _ _ _ (Itt K p4) (upd (upd H7 p3 (.tup [V.str x2,V.str x1])) p4 (.tup [V.ref p1,V.ref p3]))
   generalize upd (upd H7 p3 (.tup [V.str x2,V.str x1])) p4 (.tup [V.ref p1,V.ref p3])=H8 at *
   have hH8:=hH5.same s58
   have n1:p1≠a:=λz=>by obtain⟨_,_,_,e',_⟩:=hH8;rw[z,e'] at t1;cases t1
   have n3:p3≠a:=λz=>by obtain⟨_,_,_,e',_⟩:=hH8;rw[z,e'] at t3;cases t3
   have n4:p4≠a:=λz=>by obtain⟨_,_,_,e',_⟩:=hH8;rw[z,e'] at t4;cases t4
   have f8:=s58 _ _ e5
   have m1:p1≠f:=λz=>by rw[z,f8] at t1;cases t1
   have m3:p3≠f:=λz=>by rw[z,f8] at t3;cases t3
   have m4:p4≠f:=λz=>by rw[z,f8] at t4;cases t4
   refine zaN (zap (K:=K) (xs:=[V.ref p1,V.ref p3])) (λj σ' H'=>(∃o4,σ'=[some (.ref a),some (.ref p),some (.ref f),some (.ref b),o4])/\(∃fk',H' f=some (.dT fk')/\zcZ fk'/\fk'.length<=2*i+j)/\Hand H' a (n+4*i+2*j)/\Keep a H H'/\(∀c o,c≠a->c≠f->H8 c=some o->H' c=some o)) ?_ ?_ ?_ ?_
   ·exact ⟨⟨_,rfl⟩,⟨fk,f8,k5,()⟩,hH8.mono (),s5.trans (Keep.of s58),λc o _ _ e=>e⟩
   ·exact λj σ' H' z=> .inl (.inl (z.2.2.2.2 _ _ n4 m4 t4))
   ·rintro j z σ' H9 hj hz ⟨⟨o4,rfl⟩,⟨fk',f9,k9,l9⟩,hH9,s9,t9⟩
    obtain⟨pz,u1,u2,rfl,hpz,nz⟩:∃pz u1 u2,z= .ref pz/\H9 pz=some (.tup [V.str u1,V.str u2])/\pz≠a:=by
     rcases j with _|_|j
     ·cases hz;exact⟨p1,_,_,rfl,t9 _ _ n1 m1 t1,n1⟩
     ·cases hz;exact⟨p3,_,_,rfl,t9 _ _ n3 m3 t3,n3⟩
     ·cases hz
    have hj2:j<2:=hj
    have e30:=T.1
    dsimp only[zay]
    refine⟨_,rfl,a,_,_,rfl,hH9,(),⋯,⋯,λd HA d0 d3 hHA kA=>?_⟩
    refine⟨_,_,rfl,rfl,_,rfl,?_⟩
    cases ed:decide (0<d)with
    |false=>exact zaI rfl ⟨⟨_,rfl⟩,⟨fk',kA _ _ nfa f9,k9,()⟩,hHA.mono (),s9.trans kA,λc o c1 c2 e=>kA _ _ c1 (t9 c o c1 c2 e)⟩
    |true=>
     refine zbe rfl ?_
     refine⟨_,rfl,few rfl,λl hl=>?_⟩
     have SL:=Same.new (o:= .lst [V.int 0,V.int 1,V.int 5,V.int 5,V.int 7,V.int 50,V.int 99]) hl
     refine⟨a,_,hHA.same SL,(), .inl ⟨l,_,rfl,hHA.ne hl,SqL.of zb,⋯,⋯,λv HB hv hHB kB=>?_⟩⟩
     obtain⟨nn,rfl,n0,n9⟩:∃nn:Int,v= .int nn/\0<=nn/\nn<=99:=by
      simp only[R0,List.not_mem_nil,or_false] at hv
      rcases hv with rfl|rfl|rfl|rfl|rfl|rfl|rfl<;>exact ⟨_,rfl,⋯,⋯⟩
     have fB:=kB _ _ nfa (SL _ _ (kA _ _ nfa f9))
     have zB:=kB _ _ nz (SL _ _ (kA _ _ nz hpz))
     obtain⟨kf,lf⟩:=zmZ (k:=[Sum.inr u1,Sum.inr u2]) k9 n0 n9
     refine⟨_,rfl,_,rfl,f,_,rfl,DPut.t (k:=[Sum.inr u1,Sum.inr u2]) fB zB (zj ()),⟨_,rfl⟩,⟨_,zb,kf,()⟩,?_,λc o c1 e=>?_,λc o c1 c2 e=>?_⟩
     ·have hB:=hHB.mono (n':=n+4*i+2*((j+1:Nat):Int)) ()
      obtain⟨x',m',t',e',r⟩:=hB
      exact⟨x',m',t',by rw[zc nfa.symm];exact e',r⟩
     ·rw[zc (zi e hf)]
      exact kB c o c1 (SL _ _ (kA c o c1 (s9 c o c1 e)))
     ·rw[zc c2]
      exact kB c o c1 (SL _ _ (kA c o c1 (t9 c o c1 c2 e)))
   ·rintro σ' H9 ⟨⟨o4,rfl⟩,⟨fk',f9,k9,l9⟩,hH9,s9,_⟩
    have l9:fk'.length<=2*i+2:=l9
    have hH9:Hand H9 a (n+4*i+2*2):=hH9
    exact⟨⟨_,_,rfl⟩,⟨fk',f9,k9,()⟩,hH9.mono (),s9⟩
  ·rintro σ' H5 ⟨⟨o3,o4,rfl⟩,⟨fk,e5,k5,l5⟩,hH5,s5⟩
   have:=T.1
   exact⟨_,rfl,q f fk H5 hf e5 k5 () (hH5.mono ()) s5⟩
noncomputable def kNs(ps:List (Str×Str))(x:Str):List Str:=srt (zb2 ps x)
noncomputable def kLk(rs:List (List Str))(fk:List (List Key×V))(ps:List (Str×Str))(x:Str):D:= .tup ((kNs ps x).map (klD rs fk x))
noncomputable def kHd(rs:List (List Str))(ps:List (Str×Str))(x:Str):D:= .tup (khL (zas rs x (kNs ps x)) (zas rs x (kNs ps x)))
noncomputable def l2p(p:Str×Str):List Str:=[p.1,p.2]
structure KinT(g:Str)(rs:List (List Str))(hs:List Str)(ps:List (Str×Str)):Prop where
 rise:hs.Pairwise (λa b=>ltS a b=true)
 mem:∀x,x∈hs↔x=g\/∃r∈rs,x∈r.take 2
 tp:(ps.map l2p).Perm (rs.map zT)
 riseP:(ps.map l2p).Pairwise (λa b=>ltL a b=true)
inductive NrE(H:Hp)(ps:List (Str×Str)):List (Key×V)->List Str->Prop
 |nil:NrE H ps [] []
 |cons {x:Str} {l:Addr} {kvs:List (Key×V)} {hs:List Str} (h:H l=some (.lst ((kNs ps x).map V.str))) (t:NrE H ps kvs hs):NrE H ps ((Sum.inr x, .ref l)::kvs) (x::hs)
section
variable{kvs:List (Key×V)}
theorem NrE.snoc(h:NrE H ps kvs hs)(e:H l=some (.lst ((kNs ps x).map V.str))):NrE H ps (kvs ++ [(Sum.inr x, .ref l)]) (hs ++ [x]):=by
 induction h with
 |nil=>exact .cons e .nil
 |cons h t ih=>exact .cons h ih
theorem NrE.none(h:NrE H ps kvs hs){x:Str}(hx:x∉hs):zae kvs (Sum.inr x)=none:=by
 induction h with
 |nil=>rfl
 |cons h t ih=>
  rw[R0,not_or] at hx
  rw[zbL (λz=>hx.1 (by injection z with z;exact z.symm))]
  exact ih hx.2
theorem NrE.len(h:NrE H ps kvs hs):kvs.length=hs.length:=by
 induction h with
 |nil=>rfl
 |cons h t ih=>rw[Y1,Y1,ih]
theorem NrE.mono(h:NrE H ps kvs hs)(s:∀c xs,H c=some (.lst xs)->∀x∈kvs,x.2= .ref c->H' c=some (.lst xs)):NrE H' ps kvs hs:=by
 induction h with
 |nil=>exact .nil
 |cons h t ih=>exact .cons (s _ _ h _ Q0 rfl) (ih λc xs e x hx=>s c xs e x (V0 _ hx))
theorem NrE.get(h:NrE H ps kvs hs)(hx:x∈hs):∃l,zae kvs (Sum.inr x)=some (.ref l)/\H l=some (.lst ((kNs ps x).map V.str)):=by
 induction h with
 |nil=>cases hx
 | @cons y l kvs hs h t ih=>
   by_cases c:y=x
   ·subst c;exact⟨l,zcW rfl,h⟩
   ·obtain ⟨l',e1,e2⟩:=ih ((R0.mp hx).resolve_left λz=>c z.symm)
    exact⟨l',by rw[zbL (λz=>c (by injection z))];exact e1,e2⟩
end
theorem zqg{l:List Str}(h:l.length=2):∃p:Str×Str,l=l2p p:=by
 match l,h with
 |[a,b],_=>exact ⟨(a,b),rfl⟩
theorem zlf:∀{ls:List (List Str)},(∀l∈ls,l.length=2)->∃ps:List (Str×Str),ls=ps.map l2p
 |[],_=>⟨[],rfl⟩
 |l::ls,h=>by
  obtain⟨p,e⟩:=zqg (h l Q0)
  obtain⟨ps,e2⟩:=zlf λl hl=>h l (V0 _ hl)
  exact⟨p::ps,by rw[e,e2];rfl⟩
theorem znK(h:zbB r=true):(zT r).length=2:=by
 obtain⟨a,b,w,rfl,_⟩:=zR h
 unfold zT
 rw[(zz _).length_eq]
 rfl
theorem zdQ:x∈zT r↔x∈r.take 2:=by
 unfold zT
 exact(zz _).mem_iff
theorem znw:(ps.map l2p).map tD=ps.map pairD:=by rw[G3];rfl
theorem KinT.tlt(k:KinT g rs hs ps)(ko:KinOk rs){t:Str×Str}(ht:t∈ps):ltS t.1 t.2=true:=by
 obtain⟨r,hr,e⟩:=X0.mp (k.tp.mem_iff.mp (X0.mpr ⟨t,ht,rfl⟩))
 obtain⟨a,b,w,rfl,_,_,ne,_⟩:=zR (ko.row r hr)
 have h:(zT [a,b,w]).Pairwise (λa b=>ltS a b=true):=zc3 (by simpa using ne)
 rw[e] at h
 exact(List.pairwise_cons.mp h).1 _ Q0
theorem dgk{kvs:List (Key×V)}(e:H a=some (.dK kvs))(ev:zae kvs (Sum.inr x)=some v):DGet H a (.str x) (some v):=by
 have:=DGet.k (k:=Sum.inr x) e
 rw[ev] at this
 exact this
theorem zoJ(p q:Str×Str):ltL (l2p p) (l2p q)=ltP p q:=by
 obtain⟨a,b⟩:=p
 obtain⟨c,d⟩:=q
 show ltL [a,b] [c,d]=_
 unfold ltP
 rw[ltL,ltL,ltL]
theorem KinT.tin(k:KinT g rs hs ps){t:Str×Str}(ht:t∈ps):t.1∈hs/\t.2∈hs:=by
 obtain⟨r,hr',e⟩:=X0.mp (k.tp.mem_iff.mp (X0.mpr ⟨t,ht,rfl⟩))
 have h1:t.1∈zT r:=by rw[e];exact Q0
 have h2:t.2∈zT r:=by rw[e];exact V0 _ Q0
 exact⟨(k.mem _).mpr (.inr ⟨r,hr',zdQ.mp h1⟩),(k.mem _).mpr (.inr ⟨r,hr',zdQ.mp h2⟩)⟩
theorem KinT.tok(k:KinT g rs hs ps)(ko:KinOk rs)(hn:∀x∈hs,zf x=true)(h10:hs.length<=10)(ll:lks.length=hs.length)(lh:hds.length=hs.length)(likes:∀d∈lks,zeP d=true)(hands:∀d∈hds,zet d=true):TownOk g hs ps lks hds where
 rise:=k.rise
 one:=List.length_pos_of_mem ((k.mem g).mpr (.inl rfl))
 ten:=h10
 names:=hn
 goal:=(k.mem g).mpr (.inl rfl)
 riseP:=by
  have h:=k.riseP
  rw[V2] at h
  exact h.imp λ{a b} h=>by rw[zoJ] at h;exact h
 ties:=λt ht=>⟨(k.tin ht).1,(k.tin ht).2,k.tlt ko ht⟩
 ll:=ll
 lh:=lh
 likes:=likes
 hands:=hands
theorem KinT.bare(k:KinT g rs hs ps)(ko:KinOk rs)(hn:∀x∈hs,zf x=true)(h10:hs.length<=10):TownOk g hs ps (hs.map λ_=> .tup []) (hs.map λ_=> .tup []):=
 k.tok ko hn h10 (C0 _) (C0 _) (λd hd=>by obtain⟨_,_,rfl⟩:=X0.mp hd;rfl) (λd hd=>by obtain⟨_,_,rfl⟩:=X0.mp hd;rfl)
noncomputable def zof(f:Str->D):D->D| .str x=>f x|d=>d
theorem zgn{f:Str->D}:((hs.map D.str).filter (λ_=>true)).map (zof f)=hs.map f:=by
 rw[List.filter_eq_self.mpr λ_ _=>rfl,G3]
 exact List.map_congr_left λx _=>rfl
noncomputable def zmB:Sp:=λvs H Q _=>∃(g:Str) (p f:Addr) (us:List V) (rs:List (List Str)) (fk:List (List Key×V)) (xs:List Str),vs=[.str g, .ref p, .ref f]/\H p=some (.tup us)/\zH H us rs/\KinOk rs/\rs.length<=20/\zf g=true/\g∈xs/\(∀r∈rs,∀x∈r.take 2,x∈xs)/\xs.length<=10/\(∀x∈xs,zf x=true)/\H f=some (.dT fk)/\zcZ fk/\
 ∀(v:V) (hs:List Str) (ps:List (Str×Str)) (H':Hp),Rep H' v (zbR g hs ps (hs.map (kLk rs fk ps)) (hs.map (kHd rs ps)))->KinT g rs hs ps->Same H H'->Q v H'
theorem ziU(Y:Ev K mg):FnOk P w K mg base CX0 3 Y.a_kin_town Y.d_kin_town zcA zmB:=by
 have G_ties_of:FnOk P w K mg base CX0 1 Y.a_ties_of Y.d_ties_of zdj zi4:=zj9 Y
 have G_tied:FnOk P w K mg base CX0 1 Y.a_tied Y.d_tied zfa zjE:=zk0 Y
 have G_kin_likings:FnOk P w K mg base CX0 2 Y.a_kin_likings Y.d_kin_likings za2 zix:=zfe Y
 have G_kin_hands:FnOk P w K mg base CX0 2 Y.a_kin_hands Y.d_kin_hands zbT zik:=zhO Y
 refine Y.kin_town.fn.okQC zaW (λvs H Q E h=>?_) (λcdv A outer s H vs Q E hk hr h=>?_)
 ·obtain ⟨g,p,f,us,rs,fk,xs,rfl,_⟩:=h;rfl
 ·obtain ⟨g,p,f,us,rs,fk,xs,rfl,hp,T,ko,l20,hg,gx,nx,x10,xn,hf,hfk,q⟩:=h
  refine⟨_,(zh (zE 3 zaW.nd (zaf zJ Y.tuple zaJ (za (zr (zge rfl) Y.sorted zah (za (zN zsn (zrd hk (qv 0)) (zqm (src:=[none,none]) zcs rfl rfl (zbd (qc 1)) (λ_ _ _ _ _=>(zn 0 zcs.nd)) (λ_ _ _ _ _=>zbn) (λ_ _ _ _ _=>(zrF (K:=K) rfl (zhu (ziR (K:=K) rfl) (qv 0) zco (zcc zk)))) (λ_ _ _ _ _=>(zn 1 zcs.nd)) (λ_ _ _ _ _=>zbn) (λ_ _ _ _ _=>(qv 1)))) zd)) zd)))
   (zh (zbW 4 zaW.nd (zF (za (qv 0) (za (qv 3) (za (zo G_ties_of (hr.mono ⋯) Y.ties_of.mg Y.ties_of.kp Y.ties_of.b .nil zu (za (qc 1) zd)) (za (zF zd) (za (zF zd) zd)))))))
   (zh (zbW 5 zaW.nd (zfi (src:=[none,some 4]) zdN rfl rfl (zbd (qv 3)) (λ_ _ _ _ _=>(zn 0 zdN.nd)) (λ_ _ _ _ _=>zbn) (λ_ _ _ _ _=>(qv 0)) (λ_ _ _ _ _=>(zo G_tied (hr.mono ⋯) Y.tied.mg Y.tied.kp Y.tied.b .nil zu (za (qc 1) (za (qv 0) zd))))))
   (zh (zE 6 zaW.nd (zaf zJ Y.tuple zaJ (za (zbz (src:=[none,some 2,some 1,some 5]) zd5 rfl rfl (zbd (qv 3)) (λ_ _ _ _ _=>(zn 0 zd5.nd)) (λ_ _ _ _ _=>zbn) (λ_ _ _ _ _=>(zo G_kin_likings (hr.mono ⋯) Y.kin_likings.mg Y.kin_likings.kp Y.kin_likings.b .nil zu (za (qv 0) (za (zdu (hu1 hr) (qc 3) (qv 0)) (za (qc 2) (za (qc 1) zd))))))) zd)))
   (zh (zE 7 zaW.nd (zaf zJ Y.tuple zaJ (za (zbz (src:=[none,some 1,some 5]) zd4 rfl rfl (zbd (qv 3)) (λ_ _ _ _ _=>(zn 0 zd4.nd)) (λ_ _ _ _ _=>zbn) (λ_ _ _ _ _=>(zo G_kin_hands (hr.mono ⋯) Y.kin_hands.mg Y.kin_hands.kp Y.kin_hands.b .nil zu (za (qv 0) (za (zdu (hu1 hr) (qc 2) (qv 0)) (za (qc 1) zd)))))) zd)))
   (zm (zw (zN zdV (zhu zce (qc 4) zco (zcc zk)) (zF (za (qv 6) (za (qv 7) zd))))))))))),?_⟩
  dsimp only[zgg,Cx.nox]
  intro p1 hp1
  refine⟨_,rfl,g,rfl,zb,?_⟩
  have S1:Same H (upd (upd H p1 (StX w p1 [])) p1 (StX w p1 [g])):=λc o e=>by rw[zc (zi e hp1),zc (zi e hp1)];exact e
  have e1:upd (upd H p1 (StX w p1 [])) p1 (StX w p1 [g]) p1=some (StX w p1 [g]):=zb
  generalize upd (upd H p1 (StX w p1 [])) p1 (StX w p1 [g])=H1 at *
  have hl:=T.1
  refine⟨_,rfl,p,rfl,⟨_, .inl (.inl (S1 _ _ hp))⟩,?_⟩
  have wk:=zap (K:=K) (a:=p) (xs:=us)
  refine zmu (n:=us.length) (λl i ys σ' H'=>(∃o1 o2,σ'=[o1,o2])/\(ys.Nodup/\∀x,x∈ys↔∃r∈rs.take i,x∈r.take 2)/\Same H1 H') ?_ ?_ ?_ ?_ ?_
  ·exact λl hl=>⟨⟨_,_,rfl⟩,⟨List.nodup_nil,λx=>⟨λz=>(nomatch z),λ⟨r,z,_⟩=>(nomatch z)⟩⟩,Same.new hl⟩
  ·exact λl i ys σ' H' hl hi z=>wk.go i H' (.inl (.inl (z.2.2 _ _ (S1 _ _ hp)))) hi
  ·exact λl ys σ' H' hl z=>wk.stop _ H' (.inl (.inl (z.2.2 _ _ (S1 _ _ hp)))) (L0 _)
  ·rintro l i y ys σ' H2 H3 hl2 hi ⟨⟨o1,o2,rfl⟩,⟨nd,mem⟩,s2⟩ el yl
   obtain⟨rfl,py⟩:=wk.yld i H2 y H3 (.inl (.inl (s2 _ _ (S1 _ _ hp)))) hi yl
   have hi':i<rs.length:=()
   have er:rs[i]?=some rs[i]:=D0 hi'
   obtain⟨b,rfl,hb⟩:=T.2 i y rs[i] py er
   have hrw:=ko.row _ (Z2 hi')
   have tk:rs.take (i+1)=rs.take i ++ [rs[i]]:=by rw[D2,er];rfl
   have nxi:=nx _ (Z2 hi')
   generalize rs[i]=r at *
   obtain⟨x1,x2,w',rfl,_⟩:=zR hrw
   have hb2:=s2 _ _ (S1 _ _ hb)
   dsimp only[zay]
   refine⟨_,rfl,2,rfl,zb6 hb2 λp5 H5 e5 s5=>?_⟩
   have e5:H5 p5=some (.tup [V.str x1,V.str x2]):=e5
   refine⟨p5,rfl,⟨_, .inl (.inl e5)⟩,s5 _ _ el,?_⟩
   refine zrp (zap (K:=K) (a:=p5) (xs:=[V.str x1,V.str x2])) (λj zs σ' H'=>(∃o1 o2,σ'=[o1,o2])/\(zs.Nodup/\∀x,x∈zs↔x∈ys\/x∈ [x1,x2].take j)/\Same H1 H'/\H' p5=some (.tup [V.str x1,V.str x2])) ?_ ?_ ?_ ?_
   ·exact ⟨⟨_,_,rfl⟩,⟨nd,λx=>`j3⟩,s2.trans s5,e5⟩
   ·exact λj zs σ' H' z=> .inl (.inl z.2.2.2)
   ·rintro j z zs σ' H6 hj hz ⟨⟨o3,o4,rfl⟩,⟨nd6,mem6⟩,s6,e6⟩ el6
    have hj:j<2:=hj
    obtain⟨z0,rfl,ez⟩:∃z0:Str,z= .str z0/\ [x1,x2][j]?=some z0:=by
     match j,hj with
     |0,_=>cases hz;exact⟨_,rfl,rfl⟩
     |1,_=>cases hz;exact⟨_,rfl,rfl⟩
    dsimp only[zay]
    have lz:zs.length<=10:=B2 (zD nd6 λx hx=>by
     rcases(mem6 x).mp hx with y|y
     ·obtain ⟨r,h1,h2⟩:=(mem x).mp y
      exact nx r (List.mem_of_mem_take h1) x h2
     ·exact nxi x (List.mem_of_mem_take y)) x10
    refine⟨_,rfl,_,rfl,el6,(),⟨_,_,rfl⟩,⟨zkl nd6,λx=>?_⟩,λc o e=>?_,?_⟩
    ·rw[zie,mem6,D2,ez,F1,or_assoc]
     simp
    ·rw[zc (zi e hl2)];exact s6 _ _ e
    ·rw[zc λz=>by rw[z,el6] at e6;cases e6];exact e6
   ·rintro zs σ' H6 ⟨⟨o3,o4,rfl⟩,⟨nd6,mem6⟩,s6,_⟩
    refine⟨⟨_,_,rfl⟩,⟨nd6,λx=>?_⟩,s6⟩
    rw[mem6,mem,tk]
    show _\/x∈ [x1,x2]↔_
    constructor
    ·rintro (⟨r,h1,h2⟩|h)
     ·exact ⟨r,W1 _ h1,h2⟩
     ·exact ⟨_,O0 _ Q0,h⟩
    ·rintro ⟨r,h1,h2⟩
     rcases F1.mp h1 with z|z
     ·exact .inl ⟨r,z,h2⟩
     ·rw[K0.mp z] at h2;exact .inr h2
  rintro l2 ys σ' H2 hl2 ⟨_,⟨nd,mem⟩,s2⟩ e2
  rw[hl,P2] at mem
  have ne12:l2≠p1:=λz=>by rw[z,e1] at hl2;cases hl2
  have lys:ys.length<=10:=B2 (zD nd λx hx=>by obtain⟨r,h1,h2⟩:=(mem x).mp hx;exact nx r h1 x h2) x10
  have ndu:(za0 [g] ys).Nodup:=zev (U1.mpr ⟨λz=>(nomatch z),List.nodup_nil⟩)
  have memu:∀x,x∈za0 [g] ys↔x=g\/∃r∈rs,x∈r.take 2:=λx=>by rw[zdJ,mem,K0]
  have lu:(za0 [g] ys).length<=10:=B2 (zD ndu λx hx=>by
   rcases(memu x).mp hx with z|⟨r,h1,h2⟩
   ·rw[z];exact gx
   ·exact nx r h1 x h2) x10
  refine⟨p1,l2,[g],ys,rfl,rfl,ne12,s2 _ _ e1,e2,(λz=>nomatch z),(by decide:1<=4),(),λl3 hl3=>?_⟩
  have S3:=Same.new (o:=StX w l3 (za0 [g] ys)) hl3
  refine⟨l3,za0 [g] ys,rfl,zb,(),λhs l4 pm rise hl4=>⟨l4,_,rfl, .inl ⟨SqL.of zb,λp5 hp5=>?_⟩⟩⟩
  have S4:=Same.new (o:= .lst (hs.map V.str)) hl4
  have S5:=Same.new (o:= .tup (hs.map V.str)) hp5
  have e5:=zb (H:=upd (upd H2 l3 (StX w l3 (za0 [g] ys))) l4 (.lst (hs.map V.str))) (a:=p5) (o:= .tup (hs.map V.str))
  have s05:=S1.trans (s2.trans (S3.trans (S4.trans S5)))
  generalize upd (upd (upd H2 l3 (StX w l3 (za0 [g] ys))) l4 (.lst (hs.map V.str))) p5 (.tup (hs.map V.str))=H5 at *
  have hm:∀x,x∈hs↔x=g\/∃r∈rs,x∈r.take 2:=λx=>by rw[pm.mem_iff];exact memu x
  have lhs:hs.length<=10:=by rw[pm.length_eq];exact lu
  have hnd:hs.Nodup:=pm.nodup_iff.mpr ndu
  have hsx:∀x∈hs,x∈xs:=λx hx=>by
   rcases(hm x).mp hx with z|⟨r,h1,h2⟩
   ·rw[z];exact gx
   ·exact nx r h1 x h2
  have hsn:∀x∈hs,zf x=true:=λx hx=>xn x (hsx x hx)
  clear S1 s2 S3 S4 S5 e1 e2 hl2 hl3 hl4 hp5 hp1 ne12 mem memu
  refine⟨_,rfl,_,rfl,_,rfl,p,us,rs,rfl,s05 _ _ hp,z4 T s05,ko.row,(),λp6 us6 ls H6 e6 T6 pm6 rise6 s6=>⟨few rfl,λp7 hp7=>⟨few rfl,λp8 hp8=>⟨few rfl,λp9 hp9=>?_⟩⟩⟩⟩
  obtain⟨ps,rfl⟩:=zlf (ls:=ls) λl hl=>by
   obtain⟨r,hr',rfl⟩:=X0.mp (pm6.mem_iff.mp hl)
   exact znK (ko.row r hr')
  have kt:KinT g rs hs ps:=⟨rise,hm,pm6,rise6 ko.ties⟩
  have lps:ps.length<=20:=by have:=pm6.length_eq;rw[C0,C0] at this;lia
  have S7:=Same.new (o:= .tup []) hp7
  have S8:=Same.new (o:= .tup []) hp8
  have S9:=Same.new (o:= .tup [.str g, .ref p5, .ref p6, .ref p7, .ref p8]) hp9
  have e7:=S9 _ _ (S8 _ _ (zb (H:=H6) (a:=p7) (o:= .tup [])))
  have e8:=S9 _ _ (zb (H:=upd H6 p7 (.tup [])) (a:=p8) (o:= .tup []))
  have e9:=zb (H:=upd (upd H6 p7 (.tup [])) p8 (.tup [])) (a:=p9) (o:= .tup [.str g, .ref p5, .ref p6, .ref p7, .ref p8])
  have s69:=S7.trans (S8.trans S9)
  generalize upd (upd (upd H6 p7 (.tup [])) p8 (.tup [])) p9 (.tup [.str g, .ref p5, .ref p6, .ref p7, .ref p8])=H9 at *
  have s09:=s05.trans (s6.trans s69)
  have e5':=s69 _ _ (s6 _ _ e5)
  have e6':=s69 _ _ e6
  have rh:Rep H9 (.ref p5) (.tup (hs.map D.str)):= .mkL e5' (by rw[C0];lia) (za9 λx hx=>zy (hsn x hx))
  have tin:∀t∈ps,t.1∈hs/\t.2∈hs:=λt ht=>kt.tin ht
  have rt:Rep H9 (.ref p6) (.tup (ps.map pairD)):= .mkL e6' (by rw[C0];lia) (by
   rw[←znw]
   refine zn7 (z4 T6 s69) λq hq=>?_
   obtain⟨t,ht,rfl⟩:=X0.mp hq
   refine⟨(by decide:2<=1000),λx hx=>?_⟩
   have⟨h1,h2⟩:=tin t ht
   rcases R0.mp hx with z|z
   ·rw[z];exact zy (hsn _ h1)
   ·rw[K0.mp z];exact zy (hsn _ h2))
  have rb:Rep H9 (.ref p9) (zbR g hs ps [] []):= .mkL e9 (by decide:5<=1000) (.cons (.str _ (zy hg)) (.cons rh (.cons rt (.cons (.mkL e7 ⋯ .nil) (.cons (.mkL e8 ⋯ .nil) .nil)))))
  refine⟨_,rfl,p5,rfl,⟨_, .inl (.inl e5')⟩,?_⟩
  have wh:=zap (K:=K) (a:=p5) (xs:=hs.map V.str)
  rw[C0] at wh
  refine zka (n:=hs.length) (λl i ys σ' H'=>(∃o1,σ'=[o1,some (.ref p9)])/\NrE H' ps ys (hs.take i)/\(∀x∈ys,x.2≠ .ref l)/\Same H9 H') ?_ ?_ ?_ ?_ ?_
  ·exact λl hl=>⟨⟨_,rfl⟩, .nil,(λ_ z=>nomatch z),Same.new hl⟩
  ·exact λl i ys σ' H' hl hi z=>wh.go i H' (.inl (.inl (z.2.2.2 _ _ e5'))) hi
  ·exact λl ys σ' H' hl z=>wh.stop _ H' (.inl (.inl (z.2.2.2 _ _ e5'))) (L0 _)
  ·rintro l i y ys σ' HA HA' hl hi ⟨⟨o1,rfl⟩,nr,nrl,sA⟩ el yl
   obtain⟨rfl,py⟩:=wh.yld i HA y HA' (.inl (.inl (sA _ _ e5'))) hi yl
   have ei:hs[i]?=some hs[i]:=D0 hi
   have ey:y= .str hs[i]:=by rw[N0,ei] at py;cases py;rfl
   subst ey
   have tk:hs.take (i+1)=hs.take i ++ [hs[i]]:=by rw[D2,ei];rfl
   have nt:hs[i]∉hs.take i:=λz=>by
    obtain⟨j,hj,ej⟩:=E2 z
    rw[C2] at hj
    rw[List.getElem_take] at ej
    have:=(List.getElem_inj hnd).mp ej
    lia
   generalize hs[i]=x0 at *
   dsimp only[zay]
   refine⟨_,rfl,_,rfl,_,rfl, .ref p9,x0,g,hs,ps,[],[],rfl,rb.same sA,(),λlt ts HB hlt elt perm srtd sB=>?_⟩
   have et:ts=kNs ps x0:=zpF perm srtd
   subst et
   have elB:=sB _ _ el
   have nlt:lt≠l:=λz=>by rw[z,el] at hlt;cases hlt
   refine⟨Sum.inr x0,rfl,elB,zj (by have:=nr.len;rw[C2] at this;lia),⟨_,rfl⟩,?_,λz hz=>?_,λc o e=>?_⟩
   ·rw[tk,zef _ (nr.none nt)]
    refine NrE.snoc (nr.mono λc xs e z hz ez=>?_) (by rw[zc nlt];exact elt)
    rw[zc λy=>nrl z hz (by rw[ez,y])]
    exact sB _ _ e
   ·rw[zef _ (nr.none nt)] at hz
    rcases F1.mp hz with y|y
    ·exact nrl z y
    ·rw[K0.mp y]
     exact λy=>nlt (by injection y)
   ·rw[zc (zi e hl)];exact sB _ _ (sA _ _ e)
  rintro nd0 ys0 σ' HA hnd0 ⟨_,nr,_,sA⟩ eA
  rw[P2] at nr
  have e5A:=sA _ _ e5'
  have s0A:=s09.trans sA
  refine⟨_,rfl,p5,rfl,⟨_, .inl (.inl e5A)⟩,?_⟩
  have TnN:∀x,∀y∈kNs ps x,zf y=true:=λx y hy=>by
   rcases zbH.mp ((zz _).mem_iff.mp hy)with z|z
   ·exact hsn _ (tin _ z).1
   ·exact hsn _ (tin _ z).2
  have B0:=kt.bare ko hsn lhs
  have nln:∀x,(kNs ps x).length<=10:=λx=>by
   rw[kNs,(zz _).length_eq]
   exact znD B0 x
  refine ze7 (g:=λ_=>true) (f:=zof (kLk rs fk ps)) (σr:=[some (.ref f),some (.ref p),some (.ref nd0)]) (zap (K:=K)) (λH' s'=> .inl (.inl (s' _ _ e5A))) (za9 (H:=HA) λx hx=>zy (hsn x hx)) (by rw[C0];lia) rfl (λx d HB Q1 sB rx hd q1=>q1 HB (Same.refl _)) ?_ λll vl HB sB hll ell rl=>?_
  ·rintro x d HB sB rx hd HC Q1 sC q1
   obtain⟨y,hy,rfl⟩:=X0.mp hd
   cases rx with|str _ _=>
   have sAC:=sB.trans sC
   obtain⟨ln,ev,eln⟩:=nr.get hy
   refine⟨_,rfl,_,rfl,_,rfl,nd0,_,rfl,dgk (sAC _ _ eA) ev,_,rfl,_,rfl,ln,p,f,y,kNs ps y,us,rs,fk,rfl,sAC _ _ eln,(s0A.trans sAC) _ _ hp,z4 T (s0A.trans sAC),ko.row,(),hsn y hy,TnN y,B2 (nln y) ⋯,(s0A.trans sAC) _ _ hf,hfk,λv HD rv sD=>q1 v HD sD rv⟩
  rw[zgn] at rl
  refine⟨ll,vl,rfl, .inl ⟨SqL.of ell,λpl hpl=>?_⟩⟩
  have SC:=Same.new (o:= .tup vl) hpl
  have ec:=zb (H:=HB) (a:=pl) (o:= .tup vl)
  have lvl:=rl.1
  rw[C0] at lvl
  have rlk:Rep (upd HB pl (.tup vl)) (.ref pl) (.tup (hs.map (kLk rs fk ps))):= .mkL ec (by rw[C0];lia) (rl.mono (.of SC))
  generalize upd HB pl (.tup vl)=HC at *
  have sAC:=sB.trans SC
  have e5C:=sAC _ _ e5A
  refine⟨_,rfl,p5,rfl,⟨_, .inl (.inl e5C)⟩,?_⟩
  refine ze7 (g:=λ_=>true) (f:=zof (kHd rs ps)) (σr:=[some (.ref p),some (.ref nd0)]) (zap (K:=K)) (λH' s'=> .inl (.inl (s' _ _ e5C))) (za9 (H:=HC) λx hx=>zy (hsn x hx)) (by rw[C0];lia) rfl (λx d HB Q1 sB rx hd q1=>q1 HB (Same.refl _)) ?_ λlh vh HD sD hlh elh rh'=>?_
  ·rintro x d HD sD rx hd HE Q1 sE q1
   obtain⟨y,hy,rfl⟩:=X0.mp hd
   cases rx with|str _ _=>
   have sAE:=sAC.trans (sD.trans sE)
   obtain⟨ln,ev,eln⟩:=nr.get hy
   refine⟨_,rfl,_,rfl,_,rfl,nd0,_,rfl,dgk (sAE _ _ eA) ev,_,rfl,ln,p,y,kNs ps y,us,rs,rfl,sAE _ _ eln,(s0A.trans sAE) _ _ hp,z4 T (s0A.trans sAE),ko.row,(),hsn y hy,TnN y,B2 (nln y) ⋯,λv HF rv sF=>q1 v HF sF rv⟩
  rw[zgn] at rh'
  refine⟨lh,vh,rfl, .inl ⟨SqL.of elh,λph hph=>?_⟩⟩
  have SE:=Same.new (o:= .tup vh) hph
  have ee:=zb (H:=HD) (a:=ph) (o:= .tup vh)
  have lvh:=rh'.1
  rw[C0] at lvh
  have rhd:Rep (upd HD ph (.tup vh)) (.ref ph) (.tup (hs.map (kHd rs ps))):= .mkL ee (by rw[C0];lia) (rh'.mono (.of SE))
  generalize upd HD ph (.tup vh)=HE at *
  have s9E:=sA.trans (sAC.trans (sD.trans SE))
  refine⟨_,rfl,3,rfl,zb6 (s9E _ _ e9) λpc HF eF sF=>?_⟩
  have eF:HF pc=some (.tup [.str g, .ref p5, .ref p6]):=eF
  refine⟨_,rfl,_,rfl,few rfl,λpd hpd=>?_⟩
  have SG:=Same.new (o:= .tup [.ref pl, .ref ph]) hpd
  have eG:=zb (H:=HF) (a:=pd) (o:= .tup [.ref pl, .ref ph])
  generalize upd HF pd (.tup [.ref pl, .ref ph])=HG at *
  refine zfb (SG _ _ eF) eG (by show 3+2<=1000;decide) λpz HZ eZ sZ=>?_
  have eZ:HZ pz=some (.tup [.str g, .ref p5, .ref p6, .ref pl, .ref ph]):=eZ
  have sEZ:=sF.trans (SG.trans sZ)
  have s9Z:=s9E.trans sEZ
  refine q _ hs ps HZ (.mkL eZ (by decide:5<=1000) (.cons (.str _ (zy hg)) (.cons (rh.same s9Z) (.cons (rt.same s9Z) (.cons ((rlk.same (sD.trans SE)).same sEZ) (.cons (rhd.same sEZ) .nil)))))) kt (s09.trans s9Z)
theorem zdm{c:D->Bool}{g:List Str->List Str->Option Str->D->Bool}(Y:Ev K mg)(G_holds:FnOk P w K mg base CX0 k Y.a_holds Y.d_holds zcf (zel c g))(c':D->Bool)(g':List Str->List Str->Option Str->D->Bool)
 (hc:∀d,c' d=true->∃x e,d= .tup [.str x,e]) (h1:∀ws ms to x e,c' (.tup [.str x,e])=true->x="not"->c e=true/\(!g ws ms to e)=g' ws ms to (.tup [.str x,e]))
 (h2:∀x e,c' (.tup [.str x,e])=true->¬x="not"->zG (.tup [.str x,e])=true/\∀ws ms to,phB ws ms to x e=g' ws ms to (.tup [.str x,e])):
 FnOk P w K mg base CX0 (k+1) Y.a_holds Y.d_holds zcf (zel c' g'):=by
 refine Y.holds.fn.okQ ze3 (λvs H Q E h=>?_) `V3
 ·obtain ⟨v,d,pw,pm,vt,ws,ms,to,rfl,_⟩:=h;rfl
 ·obtain ⟨v,d,pw,pm,vt,ws,ms,to,rfl,hd,hcd,hpw,hpm,hto,nw,nm,w1,lw,lm,q⟩:=h
  obtain⟨x,e,rfl⟩:=hc d hcd
  obtain⟨p,v0,v1,rfl,hp,r0,r1⟩:=hd.of2
  cases r0 with
  |str _ hx=>
  refine⟨_,(zh (zgA (qv 0) (zdr 2 rfl (zx (zn 4 ze3.nd) (zx (zn 5 ze3.nd) zaY))))
   (zh (zaX (zK zat (qv 4) zbb) (zm (zw (zte (zo G_holds hr Y.holds.mg Y.holds.kp Y.holds.b .nil zu (za (qv 5) (za (qv 1) (za (qv 2) (za (qv 3) zd)))))))) z8)
   (zh (zaX (zK zat (qv 4) zbb) (zm (zw (zcH zdh (qv 5) (qv 1)))) z8)
   (zh (zaX (zK zat (qv 4) zbb) (zm (zw (ztg (zcH zmE (zr zQ Y.len zaP (za (qv 1) zd)) zk) (ztn (zcH zat (zag zM (qv 1) zk) (qv 5)))))) z8)
   (zh (zaX (zK zat (qv 4) zbb) (zm (zw (zcH zat (qv 3) (qv 5)))) z8)
   (zh (zaX (zK zat (qv 4) zbb) (zm (zw (zcH zdh (qv 5) (qv 2)))) z8)
   (zm (zw (zcH zqH (zN zj2 (zr zQ Y.len zaP (za (qv 1) zd)) zk) (qv 5)))))))))),?_⟩
  refine⟨_,rfl,p,_,rfl, .inl (.inl hp),rfl,_,_,rfl,_,_,rfl,rfl,?_⟩
  refine⟨_,rfl,rfl,_,rfl,zd9 (λel=>?_) (λel=>?_)⟩
  ·obtain ⟨ce,ge⟩:=h1 ws ms to x e hcd (V.str.inj (Y0 el))
   refine⟨_,rfl,_,rfl,_,rfl,_,rfl,v1,e,pw,pm,vt,ws,ms,to,rfl,r1,ce,hpw,hpm,hto,nw,nm,w1,lw,lm,λH' s'=>⟨_,rfl,?_⟩⟩
   have q:=q H' s'
   rw[←ge] at q
   exact q
  have q:=q H (Same.refl H)
  obtain⟨hpl,ge⟩:=h2 x e hcd λz=>el (U0 (by rw[z]))
  rw[←ge ws ms to] at q
  have bad:∀{y z:Str},y=z->¬decide (V.str y=V.str z)=true->False:=λe h=>h (by rw[e];exact U0 rfl)
  refine⟨_,rfl,rfl,_,rfl,zd9 (λe1=>?_) (λe1=>?_)⟩
  ·have e1:=V.str.inj (Y0 e1)
   subst e1
   rcases zbf hpl with⟨z,_⟩|⟨_,y,rfl,ny⟩
   ·exact absurd z `Z3
   cases r1 with|str _ _=>
   rw[zts,←zdc] at q
   exact⟨_,rfl,_,rfl,pw,_,rfl, .inr (.inl (.inl hpw)),rfl,zda,q⟩
  refine⟨_,rfl,rfl,_,rfl,zd9 (λe2=>?_) (λe2=>?_)⟩
  ·have e2:=V.str.inj (Y0 e2)
   subst e2
   rcases zbf hpl with⟨z,_⟩|⟨_,y,rfl,ny⟩
   ·exact absurd z `Z3
   cases r1 with|str _ _=>
   rw[zp7] at q
   refine⟨_,rfl, .inl ⟨pw,_,rfl, .inr (.inl (.inl hpw)),_,_,rfl,rfl,_,rfl,?_⟩⟩
   match ws,hpw,q with
   |[],hpw,q=>exact zaI rfl q
   |[a],hpw,q=>exact zaI rfl q
   |a::b::r,hpw,q=>
    refine zbe (U0 (by rw[C0,Y1,Y1];lia)) ?_
    refine⟨_,rfl,pw,_,1,_,rfl,rfl, .inl (.inl hpw),at1,_,rfl,rfl,?_⟩
    rw[zbi]
    have eb:decide ((a::b::r)[1]?=some y)=decide (b=y):=by
     rw[Bool.eq_iff_iff,B3,B3];simp
    rw[eb] at q
    exact q
  refine⟨_,rfl,rfl,_,rfl,zd9 (λe3=>?_) (λe3=>?_)⟩
  ·have e3:=V.str.inj (Y0 e3)
   subst e3
   rcases zbf hpl with⟨z,_⟩|⟨_,y,rfl,ny⟩
   ·exact absurd z `Z3
   cases r1 with|str _ _=>
   obtain⟨hsc,hde⟩:=hto.eq (y:=y)
   rw[zsV,←hde] at q
   exact⟨_,rfl,_,rfl,hsc,q⟩
  refine⟨_,rfl,rfl,_,rfl,zd9 (λe4=>?_) (λe4=>?_)⟩
  ·have e4:=V.str.inj (Y0 e4)
   subst e4
   rcases zbf hpl with⟨z,_⟩|⟨_,y,rfl,ny⟩
   ·exact absurd z `Z3
   cases r1 with|str _ _=>
   rw[zpM,←zdc] at q
   exact⟨_,rfl,_,rfl,pm,_,rfl, .inr (.inl (.inl hpm)),rfl,zda,q⟩
  rcases zbf hpl with⟨rfl,i,rfl,i0,i9⟩|⟨hn,y,rfl,ny⟩
  ·cases r1 with|int _=>
   rw[zp3] at q
   refine⟨_,rfl, .inl ⟨pw,_,rfl, .inr (.inl (.inl hpw)),_,_,rfl,rfl,_,rfl,_,_,rfl,rfl,?_⟩⟩
   have eb:decide (i<=((ws.map V.str).length:Int) -1)=decide (i<(ws.length:Int)):=by
    rw[Bool.eq_iff_iff,B3,B3,C0];lia
   rw[←eb] at q
   exact q
  ·rcases zh3 hn with z|z|z|z
   ·exact (bad z e1).elim
   ·exact (bad z e2).elim
   ·exact (bad z e3).elim
   ·exact (bad z e4).elim
theorem zlS(Y:Ev K mg):FnOk P w K mg base CX0 1 Y.a_holds Y.d_holds zcf (zel (λ_=>false) (λ_ _ _ _=>false)):=by
 refine Y.holds.fn.okQ ze3 (λvs H Q E h=>?_) `V3
 ·obtain ⟨v,d,_,_,_,_,_,_,rfl,_,z,_⟩:=h;cases z
 ·obtain ⟨v,d,_,_,_,_,_,_,rfl,_,z,_⟩:=h;cases z
theorem zm1(Y:Ev K mg):FnOk P w K mg base CX0 3 Y.a_holds Y.d_holds zcf (zel zO zbj):=by
 refine zdm (c:=zG) (g:=zem) Y ?_ zO zbj zmd ?_ ?_
 ·refine zdm Y (zlS Y) zG zem zjh ?_ ?_
  ·intro ws ms to x e h z
   subst z
   exact absurd h (by rw[zgs];exact O1)
  ·exact λx e h _=>⟨h,λ_ _ _=>rfl⟩
 ·intro ws ms to x e h z
  subst z
  rw[zkj,c0 rfl] at h
  exact⟨h,by show(!zem ws ms to e)=(if("not":Str)="not"then !zem ws ms to e else phB ws ms to "not" e);rw[c0 rfl]⟩
 ·intro x e h z
  rw[zkj,P0 z] at h
  exact⟨h,λws ms to=>by show phB ws ms to x e=(if x="not"then !zem ws ms to e else phB ws ms to x e);rw[P0 z]⟩
theorem zeH(Y:Ev K mg):FnOk P w K mg base CX0 4 Y.a_all_hold Y.d_all_hold zbx zke:=by
 have G_holds:FnOk P w K mg base CX0 3 Y.a_holds Y.d_holds zcf (zel zO zbj):=zm1 Y
 refine Y.all_hold.fn.okQ zfF (λvs H Q E h=>?_) `V3
 ·obtain ⟨v,cs,pw,pm,vt,ws,ms,to,rfl,_⟩:=h;rfl
 ·obtain ⟨v,cs,pw,pm,vt,ws,ms,to,rfl,hd,hcs,hpw,hpm,hto,nw,nm,w1,lw,lm,q⟩:=h
  obtain⟨pc,uc,rfl,hpc,rc,_⟩:=hd.ofT
  refine⟨_,(zh (zbo D3 rfl (zbd (qv 0)) (zn 4 zfF.nd) (zm (zaX (zkP (zgJ (zo G_holds (hr.mono ⋯) Y.holds.mg Y.holds.kp Y.holds.b .nil zu (za (qv 4) (za (qv 1) (za (qv 2) (za (qv 3) zd))))))) (zm (zw zlP)) z8)))
   (zm (zw zlP))),?_⟩
  refine⟨_,rfl,pc,rfl,⟨_, .inl (.inl hpc)⟩,?_⟩
  refine zaN (zap (K:=K) (xs:=uc)) (λi σ' H'=>(∃o4,σ'=[some (.ref pc),some (.ref pw),some (.ref pm),some vt,o4])/\(cs.take i).all (zbj ws ms to)=true/\Same H H') ⟨⟨_,rfl⟩,rfl,Same.refl _⟩ (λi σ' H' z=> .inl (.inl (z.2.2 _ _ hpc))) ?_ ?_
  ·rintro i y σ' H1 hi hy ⟨⟨o4,rfl⟩,ha,s1⟩
   obtain⟨c,hc,rcc⟩:=rc.get hy
   have hcm:=B1 hc
   have tk:(cs.take (i+1)).all (zbj ws ms to)=((cs.take i).all (zbj ws ms to)&&zbj ws ms to c):=by
    rw[D2,hc,List.all_append];simp
   refine⟨_,rfl,_,rfl,_,rfl,_,rfl,y,c,pw,pm,vt,ws,ms,to,rfl,rcc.same s1,hcs c hcm,s1 _ _ hpw,s1 _ _ hpm,hto,nw,nm,w1,lw,lm,λH2 s2=>⟨_,rfl,?_⟩⟩
   cases hb:zbj ws ms to c with
   |false=>
    have e:zcN ws ms to cs=false:=List.all_eq_false.mpr ⟨c,hcm,by rw[hb];decide⟩
    have q:=q H2 (s1.trans s2)
    rw[e] at q
    exact zbe rfl q
   |true=>exact zaI rfl ⟨⟨_,rfl⟩,by rw[tk,ha,hb];rfl,s1.trans s2⟩
  ·rintro σ' H1 ⟨⟨o4,rfl⟩,ha,s1⟩
   rw[rc.1,P2] at ha
   have q:=q H1 s1
   have e:zcN ws ms to cs=true:=ha
   rw[e] at q
   exact q
theorem zf3(Y:Ev K mg):FnOk P w K mg base CX0 1 Y.a_likings_of Y.d_likings_of zbv ztp:=by
 refine Y.likings_of.fn.okQ zhb (λvs H Q E h=>?_) `V3
 ·obtain ⟨v,x,g,hs,ps,lks,hds,j,rfl,_⟩:=h;rfl
 ·obtain ⟨v,x,g,hs,ps,lks,hds,j,rfl,hv,T,hj,q⟩:=h
  obtain⟨p,pr,pt,pl,pa,vt,vl,va,rfl,hp,hpr,hpt,rt,hpl,rl,hpa,ra⟩:=zea hv
  have hjl:j<hs.length:=by
   rcases D1 j hs.length with y|y
   ·exact y
   ·rw[I0 y] at hj;cases hj
  have hjk:j<lks.length:=by rw[T.ll];exact hjl
  have hjv:j<vl.length:=by rw[rl.1];exact hjk
  refine⟨_,(zm (zw (zag zM (zag zM (qv 0) zk) (ze9 F.plainAttrs_tuple F.slot_tuple_index F.type_tuple_index zgU (zag zM (qv 0) zk) (za (qv 1) zd))))),?_⟩
  refine⟨_,rfl,p,_,3,_,rfl,rfl, .inl (.inl hp),zab (j:=3) rfl,?_⟩
  refine⟨_,rfl,p,_,1,_,rfl,rfl, .inl (.inl hp),zab (j:=1) rfl,?_⟩
  refine⟨.inr (.inr (.inr (.inr ⟨rfl,_,hpr⟩))),_,rfl,pr,hs,x,j,rfl,rfl, .inl (.inl hpr),hj,ziW T.hs_nd hj,?_⟩
  exact⟨pl,_,_,vl[j],rfl,rfl, .inl (.inl hpl),zab (by simp[hjv]),q _ lks[j] (D0 hjk) (rl.2 j _ _ (D0 hjv) (D0 hjk))⟩
theorem zim(Y:Ev K mg):FnOk P w K mg base CX0 5 Y.a_worth Y.d_worth zej zg1:=by
 have G_all_hold:FnOk P w K mg base CX0 4 Y.a_all_hold Y.d_all_hold zbx zke:=zeH Y
 have G_likings_of:FnOk P w K mg base CX0 1 Y.a_likings_of Y.d_likings_of zbv ztp:=zf3 Y
 refine Y.worth.fn.okQ zhi (λvs H Q E h=>?_) `V3
 ·obtain ⟨v,pw,pm,x,ws,ms,g,hs,ps,lks,hds,j,rs,rfl,_⟩:=h;rfl
 ·obtain ⟨v,pw,pm,x,ws,ms,g,hs,ps,lks,hds,j,rs,rfl,hv,T,hj,hlj,hpw,hpm,nw,nm,lw,lm,q⟩:=h
  have hlk:rs.length<=90/\∀r∈rs,zZ r=true:=by
   have h:=T.likes _ (B1 hlj)
   have h:(decide (rs.length<=90)&&rs.all zZ)=true:=h
   rw[E1] at h
   exact⟨Y0 h.1,C3.mp h.2⟩
  refine⟨_,(zh (zbo D3 rfl (zbd (zo G_likings_of (hr.mono ⋯) Y.likings_of.mg Y.likings_of.kp Y.likings_of.b .nil zu (za (qv 0) (za (zag zM (qv 1) zk) zd)))) (zdr 2 rfl (zx (zn 3 zhi.nd) (zx (zn 4 zhi.nd) zaY))) (zm (zaX (zgJ (zo G_all_hold (hr.mono ⋯) Y.all_hold.mg Y.all_hold.kp Y.all_hold.bd (.cons (a:=V.non) rfl .nil) zu (za (qv 3) (za (qv 1) (za (qv 2) zd))))) (zm (zw (qv 4))) z8)))
   (zm (zw zk))),?_⟩
  refine⟨_,rfl,_,rfl,pw,_,0,_,rfl,rfl, .inl (.inl hpw),at0,v,x,g,hs,ps,lks,hds,j,rfl,hv,T,hj,λvr d hd rd=>?_⟩
  rw[hlj] at hd
  cases hd
  obtain⟨pq,us,rfl,hpq,ru,_⟩:=rd.ofT
  refine⟨pq,rfl,⟨_, .inl (.inl hpq)⟩,?_⟩
  refine zaN (zap (K:=K) (xs:=us)) (λi σ' H'=>(∃o3 o4,σ'=[some v,some (.ref pw),some (.ref pm),o3,o4])/\zI (x::ws) ms rs=zI (x::ws) ms (rs.drop i)/\Same H H') ⟨⟨_,_,rfl⟩,rfl,Same.refl _⟩ (λi σ' H' z=> .inl (.inl (z.2.2 _ _ hpq))) ?_ ?_
  ·rintro i y σ' H1 hi hy ⟨⟨o3,o4,rfl⟩,hw,s1⟩
   obtain⟨r,hr',rr⟩:=ru.get hy
   obtain⟨cs,t,rfl,c4,hcs,ht⟩:=zgT (hlk.2 r (B1 hr'))
   obtain⟨q0,v0,v1,rfl,hq0,r0,r1⟩:=(rr.same s1).of2
   refine⟨q0,_,rfl, .inl (.inl hq0),rfl,_,_,rfl,_,_,rfl,rfl,?_⟩
   refine⟨_,rfl,_,rfl,_,rfl,v0,cs,pw,pm, .non,x::ws,ms,none,rfl,r0,hcs,s1 _ _ hpw,s1 _ _ hpm, .inl ⟨rfl,rfl⟩,nw,nm,`j3,by simp;lia,lm,λH2 s2=>⟨_,rfl,?_⟩⟩
   rw[zk3 hr',zI] at hw
   have er:zcN (x::ws) ms none (zdn (.tup [.tup cs,t]))=zcN (x::ws) ms none cs:=rfl
   rw[er] at hw
   cases hb:zcN (x::ws) ms none cs with
   |true=>
    rw[hb,c0 rfl] at hw
    exact zbe rfl ⟨_,rfl,q _ H2 (by rw[hw];exact r1.same s2) (s1.trans s2)⟩
   |false=>
    rw[hb,P0 ⋯] at hw
    exact zaI rfl ⟨⟨_,_,rfl⟩,hw,s1.trans s2⟩
  ·rintro σ' H1 ⟨⟨o3,o4,rfl⟩,hw,s1⟩
   rw[ru.1,List.drop_length,zI] at hw
   exact q _ H1 (by rw[hw];exact .int 0) s1
theorem ziO(Y:Ev K mg):FnOk P w K mg base CX0 1 Y.a_hands_of Y.d_hands_of zcw zs0:=by
 refine Y.hands_of.fn.okQ zjL (λvs H Q E h=>?_) `V3
 ·obtain ⟨v,x,g,hs,ps,lks,hds,j,rfl,_⟩:=h;rfl
 ·obtain ⟨v,x,g,hs,ps,lks,hds,j,rfl,hv,T,hj,q⟩:=h
  obtain⟨p,pr,pt,pl,pa,vt,vl,va,rfl,hp,hpr,hpt,rt,hpl,rl,hpa,ra⟩:=zea hv
  have hjl:j<hs.length:=by
   rcases D1 j hs.length with y|y
   ·exact y
   ·rw[I0 y] at hj;cases hj
  have hjk:j<hds.length:=by rw[T.lh];exact hjl
  have hjv:j<va.length:=by rw[ra.1];exact hjk
  refine⟨_,(zm (zw (zag zM (zag zM (qv 0) zk) (ze9 F.plainAttrs_tuple F.slot_tuple_index F.type_tuple_index zgU (zag zM (qv 0) zk) (za (qv 1) zd))))),?_⟩
  refine⟨_,rfl,p,_,4,_,rfl,rfl, .inl (.inl hp),zab (j:=4) rfl,?_⟩
  refine⟨_,rfl,p,_,1,_,rfl,rfl, .inl (.inl hp),zab (j:=1) rfl,?_⟩
  refine⟨.inr (.inr (.inr (.inr ⟨rfl,_,hpr⟩))),_,rfl,pr,hs,x,j,rfl,rfl, .inl (.inl hpr),hj,ziW T.hs_nd hj,?_⟩
  exact⟨pa,_,_,va[j],rfl,rfl, .inl (.inl hpa),zab (by simp[hjv]),q _ hds[j] (D0 hjk) (ra.2 j _ _ (D0 hjv) (D0 hjk))⟩
theorem zeU(Y:Ev K mg):FnOk P w K mg base CX0 1 Y.a_marks_behind Y.d_marks_behind zaM zi0:=by
 refine Y.marks_behind.fn.okQ zaQ (λvs H Q E h=>?_) `V3
 ·obtain ⟨pm,v,t,w',m,rfl,_⟩:=h;rfl
 ·obtain ⟨pm,v,t,w',m,rfl,hpm,hv,tn,mn,nd,l13,q⟩:=h
  obtain⟨pa,v0,v1,rfl,hpa,r0,r1⟩:=hv.of2
  cases r0 with|str _ _=>
  cases r1 with|str _ _=>
  refine⟨_,(zh (zgA (qv 1) (zdr 2 rfl (zx (zn 2 zaQ.nd) (zx (zlh 3 zaQ.nd) zaY))))
   (zh (zeu 4 (src:=[none,some 3]) zca rfl rfl zaQ.nd (zbd (qv 0)) (λ_ _ _ _ _=>(zn 0 zca.nd)) (λ_ _ _ _ _=>(ziS (zK zkL (qv 0) (qc 1)))) (λ_ _ _ _ _=>(qv 0)))
   (zh (zaX (zK zat (qv 2) zbb) (zm (zci (ze9 F3 F.slot_list_append F.type_list_append z5 (qv 4) (za (qc 3) zd)))) z8)
   (zm (zw (zaf zJ Y.tuple zaJ (za (zr zbu Y.sorted zah (za (qv 4) zd)) zd))))))),?_⟩
  refine⟨_,rfl,pa,_,rfl, .inl (.inl hpa),rfl,_,_,rfl,_,_,rfl,rfl,?_⟩
  refine⟨_,rfl,pm,rfl,⟨_, .inl (.inl hpm)⟩,?_⟩
  refine ze7 (g:=neD m) (f:=λd=>d) (σr:=[some (.str m)]) (zap (K:=K)) (λH' s'=> .inl (.inl (s' _ _ hpm))) (za9 λy hy=>zy (tn y hy)) (by rw[C0];lia) rfl ?_ (λx d HA sA rx hd=>zkm rfl rx) λl1 us H1 s1 hl1 e1 r1=>?_
  ·intro z d HA Q1 sA rz hd q1
   obtain⟨b,_,rfl⟩:=X0.mp hd
   cases rz with|str _ _=>
   refine⟨_,rfl,_,rfl,rfl,_,rfl,?_⟩
   rw[zbi]
   exact q1 HA (Same.refl _)
  rw[zrC] at r1
  have eus:=zgE r1
  subst eus
  have lf:=List.length_filter_le (λx=>!decide (x=m)) t
  dsimp only[zay]
  have fin:∀(H2:Hp),H2 l1=some (.lst ((zaC t w' m).map V.str))->Same H H2->∀(ss:List Str) (l2:Addr),ss.Perm (zaC t w' m)->sortedS ss=true->H2 l2=none->∃p ys,[V.ref l2]=[.ref p]/\((SqL K (upd H2 l2 (.lst (ss.map V.str))) p ys/\∀l,upd H2 l2 (.lst (ss.map V.str)) l=none->Q (.ref l) (upd (upd H2 l2 (.lst (ss.map V.str))) l (.tup ys)))\/(SqT K (upd H2 l2 (.lst (ss.map V.str))) p ys/\Q (.ref p) (upd H2 l2 (.lst (ss.map V.str))))):=λH2 e2 s2 ss l2 hp2 hs2 hl2=>⟨l2,_,rfl, .inl ⟨SqL.of zb,λp hp=>by
   have es:=znm hp2 hs2 (zey nd)
   subst es
   exact q p _ zb ((s2.trans (Same.new hl2)).trans (Same.new hp))⟩⟩
  refine⟨_,rfl,rfl,_,rfl,zd9 (λe=>?_) (λe=>?_)⟩
  ·have ew:=V.str.inj (Y0 e)
   have eb:zaC t w' m=t.filter (λx=>!decide (x=m))++ [m]:=by unfold zaC;rw[c0 ew]
   refine⟨_,rfl, .inl ⟨rfl,_,SqL.of e1⟩,_,rfl,l1,_,_,rfl,rfl,e1,zj (by rw[C0];lia),?_⟩
   have e2:(upd H1 l1 (.lst ((t.filter λx=>!decide (x=m)).map V.str ++ [V.str m]))) l1=some (.lst ((zaC t w' m).map V.str)):=by rw[zb,eb,F2];rfl
   have s2:Same H (upd H1 l1 (.lst ((t.filter λx=>!decide (x=m)).map V.str ++ [V.str m]))):=λc o z=>by rw[zc (zi z hl1)];exact s1 _ _ z
   generalize (upd H1 l1 (HO.lst ((t.filter λx=>!decide (x=m)).map V.str ++ [V.str m])))=H2 at *
   exact⟨_,rfl,l1,zaC t w' m,rfl, .inl (SqL.of e2),by rw[eb,Z0,List.length_singleton];lia,fin H2 e2 s2⟩
  ·have ew:¬w'="put":=λz=>e (U0 (by rw[z]))
   have eb:zaC t w' m=t.filter (λx=>!decide (x=m)):=by unfold zaC;rw[P0 ew,List.append_nil]
   have e2:H1 l1=some (.lst ((zaC t w' m).map V.str)):=by rw[eb];exact e1
   exact⟨_,rfl,l1,zaC t w' m,rfl, .inl (SqL.of e2),by rw[eb];lia,fin H1 e2 s1⟩
theorem zl1(Y:Ev K mg):FnOk P w K mg base CX0 5 Y.a_handed Y.d_handed zdZ ziK:=by
 have G_all_hold:FnOk P w K mg base CX0 4 Y.a_all_hold Y.d_all_hold zbx zke:=zeH Y
 have G_hands_of:FnOk P w K mg base CX0 1 Y.a_hands_of Y.d_hands_of zcw zs0:=ziO Y
 have G_marks_behind:FnOk P w K mg base CX0 1 Y.a_marks_behind Y.d_marks_behind zaM zi0:=zeU Y
 refine Y.handed.fn.okQ zc2 (λvs H Q E h=>?_) `V3
 ·obtain ⟨v,pw,pm,vt,x,ws,ms,to,g,hs,ps,lks,hds,j,rs,O,rfl,_⟩:=h;rfl
 ·obtain ⟨v,pw,pm,vt,x,ws,ms,to,g,hs,ps,lks,hds,j,rs,O,rfl,hv,T,hj,hdj,HO',O13,On,M0,hpw,hpm,hto,nw,lw,q⟩:=h
  refine⟨_,(zh (zE 4 zc2.nd (qv 2))
   (zh (zbo D3 rfl (zbd (zo G_hands_of (hr.mono ⋯) Y.hands_of.mg Y.hands_of.kp Y.hands_of.b .nil zu (za (qv 0) (za (zag zM (qv 1) zk) zd)))) (zdr 2 rfl (zx (zn 5 zc2.nd) (zx (zn 6 zc2.nd) zaY))) (zh (zaX (zkP (zgJ (zo G_all_hold (hr.mono ⋯) Y.all_hold.mg Y.all_hold.kp Y.all_hold.b .nil zu (za (qv 5) (za (qv 1) (za (qv 4) (za (qv 3) zd))))))) (zm zmY) z8)
   (zh (zaX (zK zat (zag zM (qv 6) zk) zbb) (zm (zw zeO)) z8)
   (zm (zE 4 zc2.nd (zo G_marks_behind (hr.mono ⋯) Y.marks_behind.mg Y.marks_behind.kp Y.marks_behind.b .nil zu (za (qv 4) (za (qv 6) zd))))))))
   (zm (zw (qv 4))))),?_⟩
  refine⟨_,rfl,?_⟩
  refine⟨_,rfl,_,rfl,pw,_,0,_,rfl,rfl, .inl (.inl hpw),at0,v,x,g,hs,ps,lks,hds,j,rfl,hv,T,hj,λvr d hd rd=>?_⟩
  rw[hdj] at hd
  cases hd
  obtain⟨pq,us,rfl,hpq,ru,_⟩:=rd.ofT
  refine⟨pq,rfl,⟨_, .inl (.inl hpq)⟩,?_⟩
  refine zaN (zap (K:=K) (xs:=us)) (λi σ' H'=>(∃pt t o5 o6,σ'=[some v,some (.ref pw),some (.ref pm),some vt,some (.ref pt),o5,o6]/\H' pt=some (.tup (t.map V.str))/\Mk0 O t/\zC (x::ws) to rs ms=zC (x::ws) to (rs.drop i) t)/\Same H H') ⟨⟨pm,ms,_,_,rfl,hpm,M0,rfl⟩,Same.refl _⟩ (λi σ' H' z=> .inl (.inl (z.2 _ _ hpq))) ?_ ?_
  ·rintro i y σ' H1 hi hy ⟨⟨pt,t,o5,o6,rfl,hpt,Mt,he⟩,s1⟩
   obtain⟨r,hr',rr⟩:=ru.get hy
   obtain⟨cs,xa,rfl,hcs,hx⟩:=HO'.2 r (B1 hr')
   obtain⟨q0,v0,v1,rfl,hq0,r0,r1⟩:=(rr.same s1).of2
   have tl:=Mt.len O13
   have tn:∀y∈t,zf y=true:=λy hy=>On y (Mt.mem y hy)
   refine⟨q0,_,rfl, .inl (.inl hq0),rfl,_,_,rfl,_,_,rfl,rfl,?_⟩
   refine⟨_,rfl,_,rfl,_,rfl,_,rfl,v0,cs,pw,pt,vt,x::ws,t,to,rfl,r0,hcs,s1 _ _ hpw,hpt,hto,nw,tn,`j3,by simp;lia,(),λH2 s2=>⟨_,rfl,?_⟩⟩
   rw[zk3 hr',zC] at he
   have er:zcN (x::ws) t to (zdn (.tup [.tup cs,xa]))=zcN (x::ws) t to cs:=rfl
   have et:zms (.tup [.tup cs,xa])=xa:=rfl
   rw[er,et] at he
   cases hb:zcN (x::ws) t to cs with
   |false=>
    rw[hb,P0 ⋯] at he
    exact zbe rfl ⟨⟨pt,t,_,_,rfl,s2 _ _ hpt,Mt,he⟩,s1.trans s2⟩
   |true=>
    rw[hb,c0 rfl] at he
    refine zaI rfl ?_
    rcases hx with rfl|⟨w1,m1,rfl,hw1,hm1⟩
    ·obtain ⟨pa,ua,rfl,hpa,ra',_⟩:=(r1.same s2).ofT
     have la:ua.length=1:=ra'.1
     obtain⟨u0,rfl⟩:∃u0,ua=[u0]:=by
      match ua,la with
      |[u0],_=>exact ⟨u0,rfl⟩
     have h0:=ra'.head.1
     cases h0 with|str _ _=>
     refine⟨_,rfl,pa,_,0,_,rfl,rfl, .inl (.inl hpa),at0,rfl,_,rfl,zbe (by rw[U0 rfl]) ?_⟩
     exact q .non H2 (by rw[he];rfl) (s1.trans s2)
    ·obtain ⟨pa,z0,z1,rfl,hpa,rz0,rz1⟩:=(r1.same s2).of2
     cases rz0 with|str _ _=>
     have nk:decide (V.str w1=V.str "keep")=false:=by
      rw[zbi]
      rcases hw1 with rfl|rfl<;>decide +kernel
     refine⟨_,rfl,pa,_,0,_,rfl,rfl, .inl (.inl hpa),at0,rfl,_,rfl,zaI nk ?_⟩
     refine⟨_,rfl,_,rfl,pt, .ref pa,t,w1,m1,rfl,s2 _ _ hpt,r1.same s2,tn,On m1 hm1,Mt.nd,tl,λp3 H3 e3 s3=>?_⟩
     exact⟨⟨p3,_,_,_,rfl,e3,Mt.next hm1,he⟩,(s1.trans s2).trans s3⟩
  ·rintro σ' H1 ⟨⟨pt,t,o5,o6,rfl,hpt,Mt,he⟩,s1⟩
   rw[ru.1,List.drop_length,zC] at he
   exact⟨_,rfl,q _ H1 (by rw[he];exact⟨pt,rfl,hpt⟩) s1⟩
theorem zoy(T:TownOk g hs ps lks hds)(h:x∈hs):∃(j:Nat) (rs:List D),hs[j]?=some x/\lks[j]?=some (.tup rs)/\zW hs lks x=rs:=by
 obtain⟨j,hj,e⟩:=E2 h
 have hl:j<lks.length:=by rw[T.ll];exact hj
 have hd:=T.likes _ (Z2 hl)
 cases ed:lks[j] with
 |tup rs=>
  have e1:hs[j]?=some x:=by rw[D0 hj,e]
  have e2:lks[j]?=some (.tup rs):=by rw[D0 hl,ed]
  exact⟨j,rs,e1,e2,zhx T.hs_nd e1 e2⟩
 |_=>rw[ed] at hd;cases hd
theorem zqU(T:TownOk g hs ps lks hds)(PO:Pool hs lks hds O)(h:x∈hs):∃(j:Nat) (rs:List D),hs[j]?=some x/\hds[j]?=some (.tup rs)/\zW hs hds x=rs/\zd7 O rs:=by
 obtain⟨j,d,e1,e2,hm⟩:=zrm T h
 obtain⟨rs,rfl,hk⟩:=zl4 (T.hands d hm) (PO.hd d hm)
 exact⟨j,rs,e1,e2,zhx T.hs_nd e1 e2,hk⟩
theorem zdX{g:Str}{hs:List Str}{ps:List (Str×Str)}{lks hds:List D}{O:List Str}(T:TownOk g hs ps lks hds)(PO:Pool hs lks hds O):∀{w t:List Str},(∀y∈w,y∈hs)->zp hs lks hds w=some t->Mr O t
 |[],t,_,e=>by rw[zp] at e;cases e;exact Mr.nil
 |[_],t,_,e=>by rw[zp] at e;cases e;exact Mr.nil
 |y::x::ws,t,h,e=>by
  rw[zp] at e
  have h':=λz hz=>h z (V0 _ hz)
  cases e2:zp hs lks hds (x::ws)with
  |none=>rw[e2] at e;cases e
  |some t2=>
   rw[e2] at e
   obtain⟨j,rs,_,_,er,hk⟩:=zqU T PO (h' x Q0)
   exact znQ (w:=x::ws) (by show zd7 O (zW hs hds x);rw[er];exact hk) (zdX T PO h' e2) e
theorem zcC{hs:List Str}{lks hds:List D}:∀{w:List Str} {k:Nat},k<w.length->zp hs lks hds (w.drop k)=none->zp hs lks hds w=none
 |w,0,_,e=>by rw[List.drop_zero] at e;exact e
 |[],k+1,h,_=>by simp at h
 |[y],k+1,h,_=>by simp at h
 |y::x::ws,k+1,h,e=>by
  have:=zcC (w:=x::ws) (k:=k) (by simpa using h) e
  rw[zp,this]
noncomputable def zhE:Sp:=λvs H Q _=>∃(v:V) (pw pm:Addr) (y x:Str) (ws ms:List Str) (g:Str) (hs:List Str) (ps:List (Str×Str)) (lks hds:List D) (O:List Str),vs=[v, .ref pw, .ref pm, .str y]/\Rep H v (zbR g hs ps lks hds)/\TownOk g hs ps lks hds/\Pool hs lks hds O/\(∀z∈y::x::ws,z∈hs)/\Mr O ms/\H pw=some (.tup ((x::ws).map V.str))/\H pm=some (.tup (ms.map V.str))/\ws.length<=80/\∀(u:V) (H':Hp),zo2 H' u (zau hs lks hds y (x::ws) ms)->Same H H'->Q u H'
theorem zcJ(Y:Ev K mg):FnOk P w K mg base CX0 6 Y.a_marks_ahead Y.d_marks_ahead zax zhE:=by
 have G_handed:FnOk P w K mg base CX0 5 Y.a_handed Y.d_handed zdZ ziK:=zl1 Y
 have G_worth:FnOk P w K mg base CX0 5 Y.a_worth Y.d_worth zej zg1:=zim Y
 refine Y.marks_ahead.fn.okQ zds (λvs H Q E h=>?_) `V3
 ·obtain ⟨v,pw,pm,y,x,ws,ms,g,hs,ps,lks,hds,O,rfl,_⟩:=h;rfl
 ·obtain ⟨v,pw,pm,y,x,ws,ms,g,hs,ps,lks,hds,O,rfl,hv,T,PO,hw,M,hpw,hpm,lw,q⟩:=h
  have hy:=hw y Q0
  have hx:=hw x (V0 _ Q0)
  have hn:∀z∈y::x::ws,zf z=true:=λz hz=>T.names z (hw z hz)
  obtain⟨j,rs,hj,hdj,er,hk⟩:=zqU T PO hx
  obtain⟨j2,rs2,hj2,hlj2,er2⟩:=zoy T hy
  have ea0:zC (x::ws) (some y) rs ms=none->zau hs lks hds y (x::ws) ms=none:=λe=>by
   unfold zau
   rw[show(x::ws).headD ""=x from rfl,er,e]
  have ea1:∀t,zC (x::ws) (some y) rs ms=some t->zau hs lks hds y (x::ws) ms=if zdE (zI (y::x::ws) t rs2)=true then none else some t:=λt e=>by
   unfold zau
   rw[show(x::ws).headD ""=x from rfl,er,er2,e]
  refine⟨_,(zh (zE 4 zds.nd (zo G_handed (hr.mono ⋯) Y.handed.mg Y.handed.kp Y.handed.b .nil zu (za (qv 0) (za (qv 1) (za (qv 2) (za (qv 3) zd))))))
   (zh (zaX (t_w (zsC (zK zhG (qv 4) zeO) (zqZ (zK zhG (zo G_worth (hr.mono ⋯) Y.worth.mg Y.worth.kp Y.worth.b .nil zu (za (qv 0) (za (zN zdV (zF (za (qv 3) zd)) (qv 1)) (za (qv 4) zd)))) zeO)))) (zm (zw zeO)) z8)
   (zm (zw (qv 4))))),?_⟩
  refine⟨_,rfl,_,rfl,_,rfl,_,rfl,v,pw,pm, .str y,x,ws,ms,some y,g,hs,ps,lks,hds,j,rs,O,rfl,hv,T,hj,hdj,hk,PO.few,PO.nm,M.toMk0,hpw,hpm, .inr ⟨y,rfl,rfl,hn y Q0⟩,λz hz=>hn z (V0 _ hz),(),λu H1 tu s1=>?_⟩
  cases e:zC (x::ws) (some y) rs ms with
  |none=>
   rw[e] at tu
   rw[ea0 e] at q
   cases(show u= .non from tu)
   exact⟨_,rfl,rfl,_,rfl,zbe rfl (zbe rfl (q _ _ rfl s1))⟩
  |some t=>
   rw[e] at tu
   rw[ea1 t e] at q
   obtain⟨p,rfl,hp⟩:=tu
   have Mt:=zc8 hk.2 M e
   refine⟨_,rfl,rfl,_,rfl,zaI rfl ?_⟩
   refine⟨_,rfl,_,rfl,few rfl,λp1 hp1=>⟨_,rfl,p1,pw,_,_,rfl,rfl, .inl (.inl zb), .inl (.inl (Same.new hp1 _ _ (s1 _ _ hpw))),A3 (zj (by rw[C0];show 1+(ws.length+1)<=_;lia)),(λz=>nomatch z),(λ_ z=>nomatch z),λ_ _ p2 hp2=>?_⟩⟩
   have S1:=Same.new (o:= .tup [V.str y]) hp1
   have S2:=Same.new (o:= .tup ([V.str y]++(x::ws).map V.str)) hp2
   have s03:=(s1.trans S1).trans S2
   refine⟨_,rfl,v,p2,p,y,x::ws,t,g,hs,ps,lks,hds,j2,rs2,rfl,hv.same s03,T,hj2,hlj2,zb,S2 _ _ (S1 _ _ hp),hn,λz hz=>PO.nm z (Mt.mem z hz),by show ws.length+1<=90;lia,B2 (Mt.toMk0.len PO.few) ⋯,λu2 H4 r4 s4=>?_⟩
   refine⟨rfl,_,rfl,?_⟩
   rw[zpi r4]
   have s04:=s03.trans s4
   cases hb:zdE (zI (y::x::ws) t rs2)with
   |true=>
    rw[hb,c0 rfl] at q
    exact zbe rfl (q _ _ rfl s04)
   |false=>
    rw[hb,P0 ⋯] at q
    exact zaI rfl ⟨_,rfl,q _ _ ⟨p,rfl,s4 _ _ (S2 _ _ (S1 _ _ hp))⟩ s04⟩
noncomputable def zgH:Sp:=λvs H Q _=>∃(v:V) (pw:Addr) (w:List Str) (g:Str) (hs:List Str) (ps:List (Str×Str)) (lks hds:List D) (O:List Str),vs=[v, .ref pw]/\Rep H v (zbR g hs ps lks hds)/\TownOk g hs ps lks hds/\Pool hs lks hds O/\(∀z∈w,z∈hs)/\H pw=some (.tup (w.map V.str))/\1<=w.length/\w.length<=80/\∀(u:V) (H':Hp),zo2 H' u (zp hs lks hds w)->Same H H'->Q u H'
theorem ziQ(Y:Ev K mg):FnOk P w K mg base CX0 7 Y.a_marks_of Y.d_marks_of zcm zgH:=by
 have G_marks_ahead:FnOk P w K mg base CX0 6 Y.a_marks_ahead Y.d_marks_ahead zax zhE:=zcJ Y
 refine Y.marks_of.fn.okQ zch (λvs H Q E h=>?_) `V3
 ·obtain ⟨v,pw,w,g,hs,ps,lks,hds,O,rfl,_⟩:=h;rfl
 ·obtain ⟨v,pw,w,g,hs,ps,lks,hds,O,rfl,hv,T,PO,hw,hpw,w1,w80,q⟩:=h
  refine⟨_,(zh (zE 2 zch.nd (zF zd))
   (zh (zbo D3 rfl (zse Y.range Y.reversed (za (zN zj2 (zr zQ Y.len zaP (za (qv 1) zd)) zk) zd)) (zn 3 zch.nd) (zh (zE 2 zch.nd (zo G_marks_ahead (hr.mono ⋯) Y.marks_ahead.mg Y.marks_ahead.kp Y.marks_ahead.b .nil zu (za (qv 0) (za (zhu zce (qv 1) (zcc (zN zaF (qv 3) zk)) zco) (za (qv 2) (za (zag zM (qv 1) (qv 3)) zd))))))
   (zm (zaX (zK zhG (qv 2) zeO) (zm (zw zeO)) z8))))
   (zm (zw (qv 2))))),?_⟩
  refine⟨few rfl,λp0 hp0=>?_⟩
  have S0:=Same.new (o:= .tup []) hp0
  have hp0':upd H p0 (.tup []) p0=some (.tup (([]:List Str).map V.str)):=zb
  generalize upd H p0 (HO.tup [])=H0 at *
  have nn:((w.map V.str).length:Int) -1=((w.length -1:Nat):Int):=by rw[C0];lia
  refine⟨_,rfl, .inl ⟨pw,_,rfl, .inr (.inl (.inl (S0 _ _ hpw))),_,_,rfl,rfl,w.length -1,by show [V.int (((w.map V.str).length:Int) -1)]=_;rw[nn],(),?_⟩⟩
  have d0:zp hs lks hds (w.drop (w.length -1))=some []:=by
   rw[List.drop_eq_getElem_cons (),List.drop_eq_nil_of_le (),zp]
  refine zaN zoH (λi σ' H'=>(∃pm ms o3,σ'=[some v,some (.ref pw),some (.ref pm),o3]/\H' pm=some (.tup (ms.map V.str))/\zp hs lks hds (w.drop (w.length -1 -i))=some ms)/\Same H H') ⟨⟨p0,[],_,rfl,hp0',d0⟩,S0⟩ (λ_ _ _ _=>trivial) ?_ ?_
  ·rintro i y σ' H1 hi rfl ⟨⟨pm,ms,o3,rfl,hpm,hms⟩,s1⟩
   obtain⟨k,hk⟩:∃k:Nat,k=w.length -1 -1 -i:=⟨_,rfl⟩
   have hk1:w.length -1 -i=k+1:=()
   have ei:((w.length -1:Nat):Int) -1 -(i:Int)=(k:Int):=()
   have hkl:k<w.length:=()
   rw[hk1] at hms
   rw[ei]
   obtain⟨x,ws,ew⟩:∃x ws,w.drop (k+1)=x::ws:=by
    rw[List.drop_eq_getElem_cons ()];exact⟨_,_,rfl⟩
   have lws:ws.length<=80:=by have:=congrArg List.length ew;rw[List.length_drop,Y1] at this;lia
   have ed:w.drop k=w[k]::x::ws:=by rw[List.drop_eq_getElem_cons hkl,ew]
   have hin:∀z∈w[k]::x::ws,z∈hs:=λz hz=>hw z (List.mem_of_mem_drop (by rw[ed];exact hz))
   rw[ew] at hms
   have Mm:=zdX T PO (λz hz=>hin z (V0 _ hz)) hms
   have e1:((k:Int)+1)=((k+1:Nat):Int):=()
   have ec:zcD (w.map V.str) (some ((k:Int)+1)) none=(x::ws).map V.str:=by rw[e1,znj,←List.map_drop,ew]
   refine⟨_,rfl,_,rfl,_,rfl,_,_,rfl,rfl,_,rfl,pw,_,rfl, .inl (.inl (s1 _ _ hpw)),?_,λp2 hp2=>?_⟩
   ·intro z
    rw[ec] at z
    have:=congrArg List.length z
    rw[C0,C0,←ew,List.length_drop] at this
    lia
   rw[ec] at *
   have S2:=Same.new (o:= .tup ((x::ws).map V.str)) hp2
   refine⟨_,rfl,_,rfl,_,rfl,pw,_,_, .str w[k],rfl,rfl, .inl (.inl (S2 _ _ (s1 _ _ hpw))),zab (by rw[N0,D0 hkl];rfl),v,p2,pm,w[k],x,ws,ms,g,hs,ps,lks,hds,O,rfl,hv.same (s1.trans S2),T,PO,hin,Mm,zb,S2 _ _ hpm,lws,λu H3 tu s3=>?_⟩
   have s03:=(s1.trans S2).trans s3
   have em:zp hs lks hds (w.drop k)=zau hs lks hds w[k] (x::ws) ms:=by rw[ed,zp,hms]
   cases e:zau hs lks hds w[k] (x::ws) ms with
   |none=>
    rw[e] at tu em
    cases(show u= .non from tu)
    refine⟨_,rfl,rfl,_,rfl,zbe rfl (q _ _ ?_ s03)⟩
    rw[zcC hkl em];rfl
   |some t=>
    rw[e] at tu em
    obtain⟨p,rfl,hp⟩:=tu
    refine⟨_,rfl,rfl,_,rfl,zaI rfl ⟨⟨p,t,_,rfl,hp,?_⟩,s03⟩⟩
    rw[show w.length -1 -(i+1)=k by lia];exact em
  ·rintro σ' H1 ⟨⟨pm,ms,o3,rfl,hpm,hms⟩,s1⟩
   rw[Nat.sub_self,List.drop_zero] at hms
   refine⟨_,rfl,q _ _ ?_ s1⟩
   rw[hms]
   exact⟨pm,rfl,hpm⟩
theorem ztu(r:Room k A):A.units+70<cLine:=by have:=r.un;lia
theorem zme{a b c:V}:atI [a,b,c] (-1)=some c:=rfl
def zdA(ps:List (Str×Str)):Prop:=(∃xs k,xs.Nodup/\Spr xs ps k 5)/\ps.length<=30
theorem zgl(Y:Ev K mg):FnOk P w K mg base CX0 6 Y.a_liking_key Y.d_liking_key zbp zqI:=by
 have G_worth:FnOk P w K mg base CX0 5 Y.a_worth Y.d_worth zej zg1:=zim Y
 refine Y.liking_key.fn.okQ zhU (λvs H Q E h=>?_) `V3
 ·obtain ⟨v,pw,pm,x,ws,ms,g,hs,ps,lks,hds,j,rs,i,rfl,_⟩:=h;rfl
 ·obtain ⟨v,pw,pm,x,ws,ms,g,hs,ps,lks,hds,j,rs,i,rfl,hv,T,hj,hlj,hpw,hpm,nw,nm,lw,lm,hi,q⟩:=h
  refine⟨_,(zm (zw (zF (za (zn2 zfc (zo G_worth (hr.mono ⋯) Y.worth.mg Y.worth.kp Y.worth.b .nil zu (za (qv 0) (za (qv 1) (za (qv 2) zd))))) (za (zr zQ Y.len zaP (za (qv 1) zd)) (za (qv 1) zd)))))),?_⟩
  refine⟨_,rfl,_,rfl,_,rfl,v,pw,pm,x,ws,ms,g,hs,ps,lks,hds,j,rs,rfl,hv,T,hj,hlj,hpw,hpm,nw,nm,lw,lm,λu H1 ru s1=>?_⟩
  rw[hi] at ru
  cases ru with|int _=>
  refine⟨_,rfl,_,rfl, .inl ⟨pw,_,rfl, .inr (.inl (.inl (s1 _ _ hpw))),_,rfl,few rfl,λpk hpk=>?_⟩⟩
  have S:=Same.new (o:= .tup [V.int (-i), .int (((x::ws).map V.str).length:Int), .ref pw]) hpk
  refine q _ _ ⟨pk,pw,rfl,?_,S _ _ (s1 _ _ hpw),λy hy=>zaa (nw y hy)⟩ (s1.trans S)
  rw[zb,C0]
def zeb(H:Hp)(b:Addr)(w:List Str):Prop:=H b=some (.tup (w.map V.str))
def zmw(H:Hp)(b:Addr)(e:WM):Prop:=∃pw pm,H b=some (.tup [.ref pw, .ref pm])/\H pw=some (.tup (e.1.map V.str))/\H pm=some (.tup (e.2.map V.str))
structure EOk(x:Str)(rs:List D)(e:WM):Prop where
 hd:∃ws,e.1=x::ws
 nw:∀y∈e.1,zf y=true
 nm:∀y∈e.2,zf y=true
 lw:e.1.length<=80
 lm:e.2.length<=100
 wt:zI e.1 e.2 rs= .int (wI rs e)
theorem AtG.mono{Oa:Hp->Addr->α->Prop}{ps:List α}(h:AtG Oa H vs ps)(m:∀b p,Oa H b p->Oa H' b p):AtG Oa H' vs ps:=
 ⟨h.1,λi v p e1 e2=>let ⟨b,e,o⟩:=h.2 i v p e1 e2;⟨b,e,m b p o⟩⟩
theorem AtG.snoc{Oa:Hp->Addr->α->Prop}{ps:List α}{b:Addr}{p:α}(h:AtG Oa H vs ps)(o:Oa H b p):AtG Oa H (vs ++ [.ref b]) (ps ++ [p]):=by
 refine⟨by rw[Z0,Z0,h.1];rfl,λi v q e1 e2=>?_⟩
 rcases D1 i vs.length with z|z
 ·rw[N1 z] at e1
  rw[N1 (by rw[←h.1];exact z)] at e2
  exact h.2 i v q e1 e2
 ·rw[L1 z] at e1
  rw[L1 (by rw[←h.1];exact z),←h.1] at e2
  cases hk:i -vs.length with
  |zero=>rw[hk] at e1 e2;cases e1;cases e2;exact⟨b,rfl,o⟩
  |succ n=>rw[hk] at e1;cases e1
theorem KeyO.same{b:Addr}{k:Ky}(h:KeyO H b k)(s:Same H H'):KeyO H' b k:=let⟨p,e,f,o⟩:=h;⟨p,s _ _ e,s _ _ f,o⟩
noncomputable def zqT:Sp:=λvs H Q _=>∃(v:V) (l:Addr) (us:List V) (es:List WM) (x:Str) (g:Str) (hs:List Str) (ps:List (Str×Str)) (lks hds:List D) (j:Nat) (rs:List D),vs=[v, .ref l]/\Rep H v (zbR g hs ps lks hds)/\TownOk g hs ps lks hds/\hs[j]?=some x/\lks[j]?=some (.tup rs)/\H l=some (.lst us)/\AtG zmw H us es/\es.length<64/\(es.map (·.1)).Nodup/\(∀e∈es,EOk x rs e)/\
 ∀(l':Addr) (us':List V) (ks:List Ky) (H':Hp),ks.Perm (es.map (kE rs))->ks.Pairwise (λa b=>ltK a b=true)->H' l'=some (.lst us')->AtG zeb H' us' (ks.map (·.2.2))->H l'=none->Same H H'->Q (.ref l') H'
theorem zdl(Y:Ev K mg):FnOk P w K mg base CX0 7 Y.a_most_liked_first Y.d_most_liked_first zad zqT:=by
 have G_liking_key:FnOk P w K mg base CX0 6 Y.a_liking_key Y.d_liking_key zbp zqI:=zgl Y
 refine Y.most_liked_first.fn.okQ zbI (λvs H Q E h=>?_) `V3
 ·obtain ⟨v,l,us,es,x,g,hs,ps,lks,hds,j,rs,rfl,_⟩:=h;rfl
 ·obtain ⟨v,l,us,es,x,g,hs,ps,lks,hds,j,rs,rfl,hv,T,hj,hlj,hl,at1,h64,nde,eok,q⟩:=h
  have lu:us.length=es.length:=at1.1
  refine⟨_,(zh (zE 2 zbI.nd (zr (zgi (ztu hr)) Y.sorted zah (za (zbz (src:=[none,none,some 0]) zao rfl rfl (zbG (qv 1)) (λ_ _ _ _ _=>(zgZ (K:=K) 2 rfl rfl (zx (zn 0 zao.nd) (zx (zn 1 zao.nd) zaY)))) (λ_ _ _ _ _=>zbn) (λ_ _ _ _ _=>(zo G_liking_key (hr.mono ⋯) Y.liking_key.mg Y.liking_key.kp Y.liking_key.b .nil zu (za (qc 2) (za (qv 0) (za (qv 1) zd)))))) zd)))
   (zm (zw (zbz (src:=[none]) zbg rfl rfl (zbG (qv 2)) (λ_ _ _ _ _=>(zn 0 zbg.nd)) (λ_ _ _ _ _=>zbn) (λ_ _ _ _ _=>(zag (zoZ (K:=K) rfl) (qv 0) (zn2 zfc zk))))))),?_⟩
  refine⟨_,rfl,l,rfl,⟨_,SqL.of hl⟩,?_⟩
  refine za3 (zaO (K:=K) (xs:=us)) (λl' i ys σ' H'=>(∃o1 o2,σ'=[o1,o2,some v])/\AtG KeyO H' ys ((es.take i).map (kE rs))/\Same H H') ?_ (λl' i ys σ' H' hl' z=>SqL.of (z.2.2 _ _ hl)) ?_ ?_
  ·exact λl' hl'=>⟨⟨_,_,rfl⟩,⟨rfl,λi v p e1 _=>by cases e1⟩,Same.new hl'⟩
  ·rintro l' i y0 ys σ' H1 hl' hi hy ⟨⟨o1,o2,rfl⟩,a1,s1⟩ hl1
   have hi':i<es.length:=()
   obtain⟨b,rfl,pw,pm,hb,hpw,hpm⟩:=at1.2 i y0 es[i] hy (D0 hi')
   have ee:=eok es[i] (Z2 hi')
   have tk:(es.take (i+1)).map (kE rs)=(es.take i).map (kE rs)++ [kE rs es[i]]:=by rw[D2,D0 hi',F2];rfl
   rw[tk]
   have ly:ys.length=i:=by have:=a1.1;rw[C0,C2] at this;lia
   generalize es[i]=e at *
   obtain⟨ew,em⟩:=e
   obtain⟨ws,rfl⟩:=ee.hd
   refine⟨b,_,rfl, .inl (.inl (s1 _ _ hb)),rfl,_,_,rfl,_,_,rfl,rfl,?_⟩
   refine⟨_,rfl,_,rfl,_,rfl,v,pw,pm,x,ws,em,g,hs,ps,lks,hds,j,rs,wI rs (x::ws,em),rfl,hv.same s1,T,hj,hlj,s1 _ _ hpw,s1 _ _ hpm,ee.nw,ee.nm,by have:=ee.lw;simp only[Y1] at this;lia,ee.lm,ee.wt,λu H2 ku s2=>?_⟩
   obtain⟨kb,kp,rfl,k1,k2,k3⟩:=ku
   have hl2:=s2 _ _ hl1
   refine⟨hl2,zj (),⟨_,_,rfl⟩,?_,λc o e=>by rw[zc (zi e hl')];exact s2 _ _ (s1 c o e)⟩
   have up:∀c k,KeyO H2 c k->KeyO (upd H2 l' (.lst (ys ++ [.ref kb]))) c k:=λc k ⟨p,e,f,o⟩=>⟨p,by rw[zc (zak e hl2 (by intro z;cases z))];exact e,by rw[zc (zak f hl2 (by intro z;cases z))];exact f,o⟩
   exact AtG.snoc (AtG.mono a1 λc k h=>up c k (KeyO.same h s2)) (up kb _ ⟨kp,k1,k2,k3⟩)
  rintro l1 zs σ' H1 hl1' ⟨⟨o1,o2,rfl⟩,a1,s1⟩ hl1
  rw[lu,P2] at a1
  refine⟨l1,zs,es.map (kE rs),rfl, .inl (SqL.of hl1),a1,by rw[C0];exact h64,λks vs' l2 hperm hpw' a2 hl2=>?_⟩
  have ndk:(es.map (kE rs)).Nodup:=by
   refine V2.mpr ((V2.mp nde).imp λh z=>h ?_)
   exact congrArg (λk:Ky=>k.2.2) z
  have pw2:=hpw' ndk
  have S2:=Same.new (o:= .lst vs') hl2
  have s12:=s1.trans S2
  refine⟨_,rfl,?_⟩
  have lk:vs'.length=ks.length:=a2.1
  refine⟨l2,rfl,⟨_,SqL.of zb⟩,?_⟩
  refine za3 (zaO (K:=K) (xs:=vs')) (λl' i ys σ' H'=>(∃o1,σ'=[o1])/\AtG zeb H' ys ((ks.take i).map (·.2.2))/\Same (upd H1 l2 (.lst vs')) H') ?_ (λl' i ys σ' H' hl' z=>SqL.of (z.2.2 _ _ zb)) ?_ ?_
  ·exact λl' hl'=>⟨⟨_,rfl⟩,⟨rfl,λi v p e1 _=>by cases e1⟩,Same.new hl'⟩
  ·rintro l' i y0 ys σ' H3 hl' hi hy ⟨⟨o1,rfl⟩,a3,s3⟩ hl3
   have hi':i<ks.length:=()
   obtain⟨b,rfl,p,hb,hp,_⟩:=a2.2 i y0 ks[i] hy (D0 hi')
   have tk:(ks.take (i+1)).map (λk:Ky=>k.2.2)=(ks.take i).map (λk:Ky=>k.2.2)++ [ks[i].2.2]:=by rw[D2,D0 hi',F2];rfl
   rw[tk]
   have ly:ys.length=i:=by have:=a3.1;rw[C0,C2] at this;lia
   have lks64:ks.length<64:=by rw[hperm.length_eq,C0];exact h64
   have hb3:=s3 _ _ (S2 _ _ hb)
   have hp3:=s3 _ _ (S2 _ _ hp)
   refine⟨_,rfl,_,rfl,b,_,-1,_,rfl,rfl, .inl (.inl hb3),zme,?_⟩
   refine⟨hl3,zj (),⟨_,rfl⟩,?_,λc o e=>by rw[zc (zi e hl')];exact s3 c o e⟩
   have up:∀c (w:List Str),H3 c=some (.tup (w.map V.str))->upd H3 l' (.lst (ys ++ [.ref p])) c=some (.tup (w.map V.str)):=λc w e=>by rw[zc (zak e hl3 (by intro z;cases z))];exact e
   exact AtG.snoc (AtG.mono a3 λc w e=>up c w e) (up p _ hp3)
  rintro l3 zs3 σ' H3 hl3' ⟨⟨o3,rfl⟩,a3,s3⟩ hl3
  rw[lk,P2] at a3
  exact q l3 zs3 ks H3 hperm pw2 hl3 a3 (zar s12 hl3') (s12.trans s3)
noncomputable def zaZ(w:List Str):List Key:=w.map Sum.inr
theorem zg4{w:List Str}:(zaZ w).map kV=w.map V.str:=by unfold zaZ;rw[G3];rfl
theorem zfB:∀{a b:List Str},zaZ a=zaZ b->a=b
 |[],[],_=>rfl
 |[],_::_,h=>by cases h
 |_::_,[],h=>by cases h
 |x::xs,y::ys,h=>by
  have h:(Sum.inr x::zaZ xs:List Key)=Sum.inr y::zaZ ys:=h
  injection h with h1 h2
  rw[Sum.inr.inj h1,zfB h2]
theorem zpn{k:List Key}(nd:(kvs.map (·.1)).Nodup)(e:kvs[i]?=some (k,v)):zae kvs k=some v:=by
 induction kvs generalizing i with
 |nil=>cases e
 |cons p kvs ih=>
  rw[V1,U1] at nd
  cases i with
  |zero=>cases e;exact zcW rfl
  |succ i=>
   rw[List.getElem?_cons_succ] at e
   rw[zbL λz=>nd.1 (by rw[z];exact X0.mpr ⟨_,B1 e,rfl⟩)]
   exact ih nd.2 e
structure LMk(M:List Str->Option (List Str))(H:Hp)(kvs:List (List Key×V))(L:List (List Str)):Prop where
 len:kvs.length=L.length
 at_:∀(i:Nat) (kv:List Key×V) (w:List Str),kvs[i]?=some kv->L[i]?=some w->kv.1=zaZ w/\∃p m,kv.2= .ref p/\H p=some (.tup (m.map V.str))/\M w=some m
section
variable{M:List Str->Option (List Str)}
theorem LMk.keys(h:LMk M H kvs L):kvs.map (·.1)=L.map zaZ:=by
 apply List.ext_getElem?
 intro i
 rw[N0,N0]
 rcases D1 i kvs.length with z|z
 ·have z':i<L.length:=by rw[←h.len];exact z
  rw[D0 z,D0 z']
  exact congrArg some (h.at_ i _ _ (D0 z) (D0 z')).1
 ·rw[I0 z,I0 (by rw[←h.len];exact z)];rfl
theorem LMk.nodup(h:LMk M H kvs L)(nd:L.Nodup):(kvs.map (·.1)).Nodup:=by
 rw[h.keys]
 exact V2.mpr (nd.imp λh z=>h (zfB z))
theorem LMk.get(h:LMk M H kvs L)(nd:L.Nodup){w:List Str}(hw:w∈L):∃p m,zae kvs (zaZ w)=some (.ref p)/\H p=some (.tup (m.map V.str))/\M w=some m:=by
 obtain⟨i,hi,e⟩:=E2 hw
 have hk:i<kvs.length:=by rw[h.len];exact hi
 obtain⟨e1,p,m,e2,e3,e4⟩:=h.at_ i kvs[i] w (D0 hk) (by rw[D0 hi,e])
 exact⟨p,m,zpn (h.nodup nd) (by rw[D0 hk,←e1,←e2]),e3,e4⟩
theorem LMk.none(h:LMk M H kvs L){w:List Str}(hw:w∉L):zae kvs (zaZ w)=none:=by
 cases e:zae kvs (zaZ w)with
 |none=>rfl
 |some v=>
  exfalso
  unfold zae at e
  cases e2:kvs.find? λkv=>decide (kv.1=zaZ w)with
  |none=>rw[e2] at e;cases e
  |some kv=>
   have h1:=List.find?_some e2
   have h2:=List.mem_of_find?_eq_some e2
   have:zaZ w∈kvs.map (·.1):=X0.mpr ⟨kv,h2,Y0 h1⟩
   rw[h.keys] at this
   obtain⟨w',hw',e3⟩:=X0.mp this
   exact hw (zfB e3▸hw')
theorem LMk.mono(h:LMk M H kvs L)(s:∀a xs,H a=some (.tup xs)->H' a=some (.tup xs)):LMk M H' kvs L:=
 ⟨h.len,λi kv w e1 e2=>let ⟨a,p,m,b,c,d⟩:=h.at_ i kv w e1 e2;⟨a,p,m,b,s _ _ c,d⟩⟩
theorem LMk.put(h:LMk M H kvs L){w m:List Str}(hw:w∉L)(hp:H p=some (.tup (m.map V.str)))(hM:M w=some m):LMk M H (zaj kvs (zaZ w) (.ref p)) (L ++ [w]):=by
 rw[zef _ (h.none hw)]
 refine⟨by rw[Z0,Z0,h.len];rfl,λi kv w' e1 e2=>?_⟩
 rcases D1 i kvs.length with z|z
 ·rw[N1 z] at e1
  rw[N1 (by rw[←h.len];exact z)] at e2
  exact h.at_ i kv w' e1 e2
 ·rw[L1 z] at e1
  rw[L1 (by rw[←h.len];exact z),←h.len] at e2
  cases hk:i -kvs.length with
  |zero=>rw[hk] at e1 e2;cases e1;cases e2;exact⟨rfl,p,m,rfl,hp,hM⟩
  |succ n=>rw[hk] at e1;cases e1
end
theorem zj4{a:Str}(h:zp hs lks hds (y::a::q)≠none):zp hs lks hds (a::q)≠none:=λe=>h (by rw[zp,e])
theorem zis(hp:∀p∈ps,ltS p.1 p.2=true):y∈zb2 ps x↔mmS y x∈ps:=by
 unfold zb2
 rw[F1,X0,X0]
 constructor
 ·rintro (⟨p,h,rfl⟩|⟨p,h,rfl⟩)
  ·obtain ⟨h1,h2⟩:=J1.mp h
   have:=Y0 h2
   subst this
   rw[zoC (hp p h1)];exact h1
  ·obtain ⟨h1,h2⟩:=J1.mp h
   have:=Y0 h2
   subst this
   rw[zaw.sym,zoC (hp p h1)];exact h1
 ·intro h
  rcases zaw.two y x with e|e
  ·rw[e] at h
   exact .inl ⟨_,J1.mpr ⟨h,U0 rfl⟩,rfl⟩
  ·rw[e] at h
   exact .inr ⟨_,J1.mpr ⟨h,U0 rfl⟩,rfl⟩
theorem zdT(hg:g∈hs)(hp:∀p∈ps,p.1∈hs/\p.2∈hs)(sp:zdA ps)(nd:L.Nodup)(sw:∀w∈L,SW g ps w):L.length<=hs.length*32/\∀x,(L.filter λw=>decide (w.head?=some x)).length<=32:=by
 obtain⟨⟨xs,k,nx,sp⟩,_⟩:=sp
 have h1:∀x,(L.filter λw=>decide (w.head?=some x)).length<=32:=λx=>zsk nx sp (a:=x) (g:=g) (nd.sublist List.filter_sublist) λw hw=>by
  obtain⟨h1,h2⟩:=J1.mp hw
  exact⟨sw w h1,Y0 h2⟩
 refine⟨zk8 nd (λw hw=>?_) λx _=>h1 x,h1⟩
 obtain⟨x,r,rfl⟩:=(sw w hw).ne
 exact⟨x,SW.mem hg hp (sw _ hw) x Q0,rfl⟩
theorem zlw{w G:List Str}(h:WOk hs w)(gnd:G.Nodup)(gh:∀y∈G,y∈hs)(gw:∀y∈G,y∉w):zfQ hs.length (G.map (·::w))+1<=Fw (hs.length -w.length):=by
 have hl:G.length+w.length<=hs.length:=by
  have hn:(G ++w).Nodup:=X2.mpr ⟨gnd,h.nd,λa ha b hb e=>gw a ha (e▸hb)⟩
  have:=zD (m:=hs) hn λx hx=>by
   rcases F1.mp hx with hx|hx
   ·exact gh x hx
   ·exact h.mem x hx
  rwa[Z0] at this
 have e:zfQ hs.length (G.map (·::w))=G.length*Fw (hs.length -(w.length+1)):=by
  rw[zjf (L:=w.length+1) λc hc=>by obtain⟨y,_,rfl⟩:=X0.mp hc;rfl,C0]
 rw[e]
 cases hk:hs.length -w.length with
 |zero=>
  have:G.length=0:=()
  rw[this,Nat.zero_mul];exact L0 1
 |succ k=>
  have e2:hs.length -(w.length+1)=k:=()
  rw[e2]
  show _<=1+(k+1)*Fw k
  have:G.length*Fw k<=(k+1)*Fw k:=Nat.mul_le_mul_right _ ()
  lia
noncomputable def zoA:Sp:=λvs H Q _=>∃(v:V) (g:Str) (hs:List Str) (ps:List (Str×Str)) (lks hds:List D) (O:List Str),vs=[v]/\Rep H v (zbR g hs ps lks hds)/\TownOk g hs ps lks hds/\Pool hs lks hds O/\zdA ps/\∀(d:Addr) (kvs:List (List Key×V)) (L:List (List Str)) (H':Hp),H' d=some (.dT kvs)->LMk (zp hs lks hds) H' kvs L->L.Nodup->(∀w,w∈L↔SW g ps w/\zp hs lks hds w≠none)->H d=none->Same H H'->Q (.ref d) H'
theorem zgW(Y:Ev K mg):FnOk P w K mg base CX0 7 Y.a_let_marks Y.d_let_marks zbP zoA:=by
 have G_tied:FnOk P w K mg base CX0 1 Y.a_tied Y.d_tied zfa zjE:=zk0 Y
 have G_marks_ahead:FnOk P w K mg base CX0 6 Y.a_marks_ahead Y.d_marks_ahead zax zhE:=zcJ Y
 refine Y.let_marks.fn.okQ zal (λvs H Q E h=>?_) `V3
 ·obtain ⟨v,g,hs,ps,lks,hds,O,rfl,_⟩:=h;rfl
 ·obtain ⟨v,g,hs,ps,lks,hds,O,rfl,hv,T,PO,sp,q⟩:=h
  obtain⟨p,pr,pt,pl,pa,vt,vl,va,rfl,hp,hpr,hpt,rt,hpl,rl,hpa,ra⟩:=zea hv
  have T10:=T.ten
  have T1:=T.one
  have tin:∀p∈ps,p.1∈hs/\p.2∈hs:=λp hp=>⟨(T.ties p hp).1,(T.ties p hp).2.1⟩
  have tlt:∀p∈ps,ltS p.1 p.2=true:=λp hp=>(T.ties p hp).2.2
  refine⟨_,(zh (zE 1 zal.nd (zF (za (zag zM (qv 0) zk) zd)))
   (zh (zE 2 zal.nd (zqb (hu1 hr) (qv 1) (zF zd)))
   (zh (zE 3 zal.nd (zdo (za (qv 1) zd)))
   (zh (zoF (zqn (qv 3)) (zh (zE 4 zal.nd (zsO F3 F.slot_list_pop F.type_list_pop zsx (qv 3)))
   (zm (zbo D3 rfl (zbG (zo G_tied (hr.mono ⋯) Y.tied.mg Y.tied.kp Y.tied.b .nil zu (za (qv 0) (za (zag zM (qv 4) zk) zd)))) (zn 5 zal.nd) (zh (zE 6 zal.nd (znP (zK zdh (qv 5) (qv 4)) zeO (zo G_marks_ahead (hr.mono ⋯) Y.marks_ahead.mg Y.marks_ahead.kp Y.marks_ahead.b .nil zu (za (qv 0) (za (qv 4) (za (zdu (hu1 hr) (qv 2) (qv 4)) (za (qv 5) zd)))))))
   (zh (zaX (zK zhG (qv 6) zeO) (zm zmY) z8)
   (zh (zaX (zK zat (zr zlW Y.len zaP (za (qv 2) zd)) (zne Y.m_MOST_LET Y.r_MOST_LET)) (zm zpU) z8)
   (zh (zoz (hu1 hr) (qv 2) (zN zdV (zF (za (qv 5) zd)) (qv 4)) (qv 6))
   (zm (zci (ze9 F3 F.slot_list_append F.type_list_append z5 (qv 3) (za (zN zdV (zF (za (qv 5) zd)) (qv 4)) zd))))))))))))
   (zm (zw (qv 2))))))),?_⟩
  refine⟨_,rfl,p,_,0,_,rfl,rfl, .inl (.inl hp),at0,few rfl,λp1 hp1=>?_⟩
  intro d hd
  refine⟨_,rfl,few rfl,λp2 hp2=>?_⟩
  have S1:=Same.new (o:= .tup [V.str g]) hp1
  have nd1:p1≠d:=λz=>by rw[z,zb] at hd;cases hd
  have n2d:p2≠d:=λz=>by rw[z,zb] at hp2;cases hp2
  refine⟨by rw[zc (Ne.symm n2d),zb],p1,zaZ [g], .ref p2,rfl,?_,?_⟩
  ·rw[zg4,zc (zi (o:= .tup [V.str g]) (by rw[zc nd1,zb]) hp2),zc nd1,zb];rfl
  have hdH:H d=none:=S1.free hd
  have S2:Same H (upd (upd (upd (upd H p1 (.tup [V.str g])) d (.dT [])) p2 (.tup [])) d (.dT [(zaZ [g], .ref p2)])):=λc o e=>by
   rw[zc (zi e hdH)]
   exact Same.new hp2 _ _ (Same.new hd _ _ (S1 _ _ e))
  have e1:(upd (upd (upd (upd H p1 (.tup [V.str g])) d (.dT [])) p2 (.tup [])) d (.dT [(zaZ [g], .ref p2)])) p1=some (.tup ([g].map V.str)):=by
   rw[zc nd1,zc (zi (o:= .tup [V.str g]) (by rw[zc nd1,zb]) hp2),zc nd1,zb];rfl
  have e2:(upd (upd (upd (upd H p1 (.tup [V.str g])) d (.dT [])) p2 (.tup [])) d (.dT [(zaZ [g], .ref p2)])) p2=some (.tup (([]:List Str).map V.str)):=by
   rw[zc n2d,zb];rfl
  have e3:(upd (upd (upd (upd H p1 (.tup [V.str g])) d (.dT [])) p2 (.tup [])) d (.dT [(zaZ [g], .ref p2)])) d=some (.dT [(zaZ [g], .ref p2)]):=zb
  generalize (upd (upd (upd (upd H p1 (HO.tup [V.str g])) d (HO.dT [])) p2 (HO.tup [])) d (HO.dT [(zaZ [g],V.ref p2)]))=H2 at *
  refine⟨_,rfl,few rfl,λf hf=>?_⟩
  have hfH:H f=none:=S2.free hf
  have ndf:d≠f:=zi e3 hf
  have S3:=Same.new (o:= .lst [V.ref p1]) hf
  have M1:zp hs lks hds [g]=some []:=rfl
  refine⟨λm σ' H'=>∃(L F:List (List Str)) (kvs:List (List Key×V)) (fs:List V) (o4 o5 o6:Option V),σ'=[some (.ref p),some (.ref p1),some (.ref d),some (.ref f),o4,o5,o6]/\H' d=some (.dT kvs)/\LMk (zp hs lks hds) H' kvs L/\H' f=some (.lst fs)/\AtG zeb H' fs F/\Df g ps (zp hs lks hds) L F/\m=zfQ hs.length F/\Same H H',⟨_,[[g]],[[g]],_,_,_,_,_,rfl,S3 _ _ e3,⟨rfl,λi kv w h1 h2=>?_⟩,zb,⟨rfl,λi v w h1 h2=>?_⟩,Df.start (by rw[M1];exact λz=>nomatch z),rfl,S2.trans S3⟩,?_⟩
  ·cases i with
   |zero=>cases h1;cases h2;exact⟨rfl,p2,[],rfl,S3 _ _ e2,rfl⟩
   |succ i=>cases h1
  ·cases i with
   |zero=>cases h1;cases h2;exact⟨p1,rfl,S3 _ _ e1⟩
   |succ i=>cases h1
  rintro m σ' H4 ⟨L,F,kvs,fs,o4,o5,o6,rfl,hd4,lm,hf4,af,df,rfl,s4⟩
  have lf:fs.length=F.length:=af.1
  refine⟨_,rfl,!fs.isEmpty, .inl ⟨fs,SqL.of hf4,rfl⟩,zd9 (λhb=>?_) (λhb=>?_)⟩
  ·have hpos:0<F.length:=by
    cases fs with
    |nil=>simp at hb
    |cons a b=>rw[←lf];exact Nat.succ_pos _
   obtain⟨F',w,rfl⟩:∃F' w,F=F' ++ [w]:=⟨F.dropLast,F.getLast (List.ne_nil_of_length_pos hpos),(List.dropLast_concat_getLast _).symm⟩
   have lf':fs.length=F'.length+1:=by rw[lf,Z0];rfl
   obtain⟨b,eb,hb4⟩:∃b,fs[fs.length -1]?=some (.ref b)/\H4 b=some (.tup (w.map V.str)):=by
    have h1:fs.length -1<fs.length:=()
    obtain⟨b,e,o⟩:=af.2 (fs.length -1) fs[fs.length -1] w (D0 h1) (by rw[lf',Nat.add_sub_cancel,L1 (L0 _),Nat.sub_self];rfl)
    exact⟨b,by rw[D0 h1,e],o⟩
   have wL:w∈L:=df.fsub w (O0 _ (K0.mpr rfl))
   obtain⟨sw,mw⟩:=df.sw w wL
   obtain⟨x,r,rfl⟩:=sw.ne
   have wmem:∀y∈x::r,y∈hs:=SW.mem T.goal tin sw
   have wok:WOk hs (x::r):=⟨Nat.le_add_left 1 _,sw.nd,wmem⟩
   have w10:=wok.len T10
   refine⟨_,λσ' H' h=>h,?_⟩
   refine⟨_,rfl, .inl ⟨rfl,_,SqL.of hf4⟩,f,fs, .ref b,rfl,rfl,hf4,eb,?_⟩
   have hbf:b≠f:=zak hb4 hf4 (by intro z;cases z)
   have hb5:upd H4 f (.lst fs.dropLast) b=some (.tup ((x::r).map V.str)):=by rw[zc hbf];exact hb4
   have s5:Same H (upd H4 f (.lst fs.dropLast)):=λc o e=>by rw[zc (zi e hfH)];exact s4 c o e
   refine⟨_,rfl,_,rfl,b,_,0,_,rfl,rfl, .inl (.inl hb5),at0, .ref p,x,g,hs,ps,lks,hds,rfl,hv.same s5,sp.2,λlt ts H6 hlt elt perm srt s6=>?_⟩
   refine⟨lt,rfl,⟨_,SqL.of elt⟩,?_⟩
   have hd6:H6 d=some (.dT kvs):=s6 _ _ (by rw[zc ndf];exact hd4)
   have hf6:H6 f=some (.lst fs.dropLast):=s6 _ _ zb
   have hb6:=s6 _ _ hb5
   have ltd:lt≠d:=λz=>by rw[z,zc ndf,hd4] at hlt;cases hlt
   have ltf:lt≠f:=λz=>by rw[z,zb] at hlt;cases hlt
   have bd:b≠d:=zak hb6 hd6 (by intro z;cases z)
   have tsm:∀y,y∈ts↔mmS y x∈ps:=λy=>perm.mem_iff.trans (zis tlt)
   have tsN:ts.Nodup:=perm.nodup_iff.mpr (zhg T x)
   have up4:∀c xs,H4 c=some (.tup xs)->H6 c=some (.tup xs):=λc xs e=>s6 _ _ (by rw[zc (zak e hf4 (by intro z;cases z))];exact e)
   have af6:AtG zeb H6 fs.dropLast F':=by
    refine⟨by rw[List.length_dropLast,lf',Nat.add_sub_cancel],λi v w' h1 h2=>?_⟩
    have hi:i<F'.length:=by
     rcases D1 i F'.length with z|z
     ·exact z
     ·rw[I0 z] at h2;cases h2
    rw[List.getElem?_dropLast,c0 ()] at h1
    obtain⟨c,e,o⟩:=af.2 i v w' h1 (by rw[N1 hi];exact h2)
    exact⟨c,e,up4 _ _ o⟩
   refine zaN (zaO (K:=K) (xs:=ts.map V.str)) (λi σ' H'=>∃(L:List (List Str)) (G:List Str) (kvs:List (List Key×V)) (fs:List V) (o5 o6:Option V),σ'=[some (.ref p),some (.ref p1),some (.ref d),some (.ref f),some (.ref b),o5,o6]/\H' d=some (.dT kvs)/\LMk (zp hs lks hds) H' kvs L/\H' f=some (.lst fs)/\AtG zeb H' fs (F' ++G.map (·::x::r))/\DfW g ps (zp hs lks hds) x r (ts.take i) L (F' ++G.map (·::x::r))/\G.Nodup/\(∀y∈G,y∈ts.take i/\y∉x::r)/\Same H H'/\H' lt=some (.lst (ts.map V.str))/\H' b=some (.tup ((x::r).map V.str))) ?_ (λi σ' H' ⟨_,_,_,_,_,_,_,_,_,_,_,_,_,_,_,h,_⟩=>SqL.of h) ?_ ?_
   ·exact ⟨L,[],kvs,fs.dropLast,_,_,rfl,hd6,lm.mono up4,hf6,by rw[List.map_nil,List.append_nil];exact af6,by rw[List.map_nil,List.append_nil,List.take_zero];exact df.pop,List.nodup_nil,λ_ z=>(nomatch z),s5.trans s6,elt,hb6⟩
   ·rintro i y0 σ' H7 hi hy ⟨L7,G,kvs7,fs7,o5',o6',rfl,hd7,lm7,hf7,af7,dw,gnd,gm,s7,elt7,hb7⟩
    rw[C0] at hi
    rw[N0] at hy
    obtain⟨y,ey,rfl⟩:∃y,ts[i]?=some y/\y0= .str y:=by
     cases e:ts[i]? with
     |none=>rw[e] at hy;cases hy
     |some y=>rw[e] at hy;cases hy;exact⟨y,rfl,rfl⟩
    have hys:y∈ts:=B1 ey
    have tie:mmS y x∈ps:=(tsm y).mp hys
    have hyh:y∈hs:=by
     rcases zaw.two y x with e|e
     ·have:=(tin _ tie).1;rw[e] at this;exact this
     ·have:=(tin _ tie).2;rw[e] at this;exact this
    have tk:ts.take (i+1)=ts.take i ++ [y]:=by rw[D2,ey];rfl
    have ynew:y∉ts.take i:=λz=>by
     have:(ts.take i ++ [y]).Nodup:=by rw[←tk];exact tsN.sublist (List.take_sublist _ _)
     exact(X2.mp this).2.2 y z y (K0.mpr rfl) rfl
    have skip:(y∈x::r\/zp hs lks hds (y::x::r)=none)->∀(o5 o6:Option V) (H':Hp),Same H7 H'->∃(L:List (List Str)) (G:List Str) (kvs:List (List Key×V)) (fs:List V) (o5' o6':Option V),[some (V.ref p),some (.ref p1),some (.ref d),some (.ref f),some (.ref b),o5,o6]=[some (.ref p),some (.ref p1),some (.ref d),some (.ref f),some (.ref b),o5',o6']/\H' d=some (.dT kvs)/\LMk (zp hs lks hds) H' kvs L/\H' f=some (.lst fs)/\AtG zeb H' fs (F' ++G.map (·::x::r))/\DfW g ps (zp hs lks hds) x r (ts.take (i+1)) L (F' ++G.map (·::x::r))/\G.Nodup/\(∀y∈G,y∈ts.take (i+1)/\y∉x::r)/\Same H H'/\H' lt=some (.lst (ts.map V.str))/\H' b=some (.tup ((x::r).map V.str)):=λh o5 o6 H' s8=>
     ⟨L7,G,kvs7,fs7,_,_,rfl,s8 _ _ hd7,lm7.mono λa xs e=>s8 _ _ e,s8 _ _ hf7,AtG.mono af7 λc w e=>s8 _ _ e,by rw[tk];exact dw.skip h,gnd,λz hz=>⟨by rw[tk];exact W1 _ (gm z hz).1,(gm z hz).2⟩,s7.trans s8,s8 _ _ elt7,s8 _ _ hb7⟩
    refine⟨_,rfl,_,rfl,b,_,rfl, .inr (.inl (.inl hb7)),rfl,zda,_,rfl,?_⟩
    cases hin:inV (V.str y) ((x::r).map V.str)with
    |true=>
     have hyw:y∈x::r:=by
      rw[zdc,List.any_eq_true] at hin
      obtain⟨z,hz,e⟩:=hin
      exact Y0 e▸hz
     exact zbe rfl ⟨_,rfl,rfl,_,rfl,zbe rfl (skip (.inl hyw) _ _ _ (Same.refl _))⟩
    |false=>
     have hnw:y∉x::r:=λz=>by
      rw[zdc,List.any_eq_false] at hin
      exact hin y z (U0 rfl)
     obtain⟨pm,ms,ev,hpm,eM⟩:=lm7.get dw.nd dw.me.1
     have MR:=zdX T PO wmem eM
     have eA:zp hs lks hds (y::x::r)=zau hs lks hds y (x::r) ms:=by rw[zp,eM]
     have dg:DGet H7 d (.ref b) (some (.ref pm)):=by
      have:=DGet.t (k:=zaZ (x::r)) hd7 (by rw[zg4];exact hb7)
      rw[ev] at this;exact this
     refine zaI rfl ⟨_,rfl,_,rfl,_,rfl,_,rfl,d,_,rfl,dg,_,rfl, .ref p,b,pm,y,x,r,ms,g,hs,ps,lks,hds,O,rfl,hv.same s7,T,PO,λz hz=>?_,MR,hb7,hpm,by have:r.length+1<=10:=w10;lia,λu H8 hu s8=>?_⟩
     ·rcases R0.mp hz with rfl|hz
      ·exact hyh
      ·exact wmem z hz
     rw[←eA] at hu
     cases eo:zp hs lks hds (y::x::r)with
     |none=>
      rw[eo] at hu
      have hu:u= .non:=hu
      subst hu
      exact⟨_,rfl,rfl,_,rfl,zbe rfl (skip (.inr eo) _ _ _ s8)⟩
     |some t=>
      rw[eo] at hu
      obtain⟨pt',rfl,hpt'⟩:=hu
      have hd8:=s8 _ _ hd7
      refine⟨_,rfl,rfl,_,rfl,zaI rfl ?_⟩
      have fewL:=(zdT T.goal tin sp dw.nd λw hw=>(dw.sw w hw).1).1
      have lenk:kvs7.length<=320:=by rw[lm7.len];lia
      refine⟨_,rfl,d,kvs7,rfl, .inl hd8,rfl,_,rfl,zd9 (λhc=>?_) (λ_=>?_)⟩
      ·exfalso
       simp at hc
       lia
      refine⟨_,rfl,_,rfl,_,rfl,few rfl,λp6 hp6=>⟨_,rfl,p6,b,_,_,rfl,rfl, .inl (.inl zb), .inl (.inl (Same.new hp6 _ _ (s8 _ _ hb7))),A3 (zj (by rw[C0];show 1+(r.length+1)<=_;have:r.length+1<=10:=w10;lia)),(λz=>nomatch z),(λ_ z=>nomatch z),λ_ _ p7 hp7=>?_⟩⟩
      have S9:=(Same.new (o:= .tup [V.str y]) hp6).trans (Same.new (o:= .tup ([V.str y]++(x::r).map V.str)) hp7)
      have e7:(upd (upd H8 p6 (.tup [V.str y])) p7 (.tup ([V.str y]++(x::r).map V.str))) p7=some (.tup ((y::x::r).map V.str)):=zb
      generalize (upd (upd H8 p6 (HO.tup [V.str y])) p7 (HO.tup ([V.str y]++(x::r).map V.str)))=H9 at *
      have s79:=s8.trans S9
      have hd9:=S9 _ _ hd8
      have hf9:=s79 _ _ hf7
      refine⟨d,_,rfl,DPut.t (k:=zaZ (y::x::r)) hd9 (by rw[zg4];exact e7) (zj ()),?_⟩
      have dH10:∀c o,c≠d->H9 c=some o->upd H9 d (.dT (zaj kvs7 (zaZ (y::x::r)) (.ref pt'))) c=some o:=λc o hc e=>by rw[zc hc];exact e
      have hd10:upd H9 d (.dT (zaj kvs7 (zaZ (y::x::r)) (.ref pt'))) d=some (.dT (zaj kvs7 (zaZ (y::x::r)) (.ref pt'))):=zb
      generalize (upd H9 d (HO.dT (zaj kvs7 (zaZ (y::x::r)) (V.ref pt'))))=H10 at *
      have hf10:=dH10 _ _ (Ne.symm ndf) hf9
      have hb10:=dH10 _ _ bd (s79 _ _ hb7)
      refine⟨_,rfl, .inl ⟨rfl,_,SqL.of hf10⟩,_,rfl,few rfl,λp8 hp8=>⟨_,rfl,p8,b,_,_,rfl,rfl, .inl (.inl zb), .inl (.inl (Same.new hp8 _ _ hb10)),A3 (zj (by rw[C0];show 1+(r.length+1)<=_;have:r.length+1<=10:=w10;lia)),(λz=>nomatch z),(λ_ z=>nomatch z),λ_ _ p9 hp9=>?_⟩⟩
      have S11:=(Same.new (o:= .tup [V.str y]) hp8).trans (Same.new (o:= .tup ([V.str y]++(x::r).map V.str)) hp9)
      have e9:(upd (upd H10 p8 (.tup [V.str y])) p9 (.tup ([V.str y]++(x::r).map V.str))) p9=some (.tup ((y::x::r).map V.str)):=zb
      generalize (upd (upd H10 p8 (HO.tup [V.str y])) p9 (HO.tup ([V.str y]++(x::r).map V.str)))=H11 at *
      have hf11:=S11 _ _ hf10
      have lfs:fs7.length<=330:=by
       have h1:fs7.length=(F' ++G.map (·::x::r)).length:=af7.1
       have h2:=zbY dw.fnd dw.fsub
       lia
      refine⟨f,fs7, .ref p9,rfl,rfl,hf11,zj (),?_⟩
      have fH:∀c o,c≠d->c≠f->H7 c=some o->upd H11 f (.lst (fs7 ++ [.ref p9])) c=some o:=λc o hc hc' e=>by
       rw[zc hc']
       exact S11 _ _ (dH10 _ _ hc (s79 _ _ e))
      have tup9:∀c xs,H9 c=some (.tup xs)->upd H11 f (.lst (fs7 ++ [.ref p9])) c=some (.tup xs):=λc xs e=>by
       rw[zc (zak e hf9 (by intro z;cases z))]
       exact S11 _ _ (dH10 _ _ (zak e hd9 (by intro z;cases z)) e)
      have ap:F' ++(G ++ [y]).map (·::x::r)=F' ++G.map (·::x::r)++ [y::x::r]:=by rw[F2,List.append_assoc];rfl
      have hnL:y::x::r∉L7:=λz=>ynew (dw.kids y z)
      refine⟨L7 ++ [y::x::r],G ++ [y],_,_,_,_,rfl,by rw[zc ndf];exact S11 _ _ hd10,((lm7.mono λa xs e=>s79 _ _ e).put (m:=t) hnL (S9 _ _ hpt') eo).mono tup9,zb,?_,?_,?_,?_,?_,fH _ _ ltd ltf elt7,fH _ _ bd hbf hb7⟩
      ·rw[ap]
       exact AtG.snoc (AtG.mono af7 λc w e=>tup9 _ _ (s79 _ _ e)) (by show upd H11 f _ p9=_;rw[zc (zak e9 hf11 (by intro z;cases z))];exact e9)
      ·rw[ap,tk]
       exact dw.add ynew hnw tie (by rw[eo];exact λz=>nomatch z)
      ·exact X2.mpr ⟨gnd,`j3,λa ha b' hb' z=>ynew (by rw[←K0.mp hb',←z];exact(gm a ha).1)⟩
      ·intro z hz
       rw[tk]
       rcases F1.mp hz with hz|hz
       ·exact ⟨W1 _ (gm z hz).1,(gm z hz).2⟩
       ·rw[K0.mp hz];exact⟨O0 _ (K0.mpr rfl),hnw⟩
      ·intro c o e
       exact fH c o (zi e hdH) (zi e hfH) (s7 c o e)
   ·rintro σ' H7 ⟨L7,G,kvs7,fs7,o5',o6',rfl,hd7,lm7,hf7,af7,dw,gnd,gm,s7,_,_⟩
    rw[C0,P2] at dw
    have dn:=dw.done λy h=>(tsm y).mpr h
    refine⟨_,?_,L7,_,kvs7,fs7,_,_,_,rfl,hd7,lm7,hf7,af7,dn,rfl,s7⟩
    have c1:zfQ hs.length (G.map (·::x::r))+1<=Fw (hs.length -(x::r).length):=zlw wok gnd (λy hy=>by
     have h1:=(tsm y).mp (List.mem_of_mem_take (gm y hy).1)
     rcases zaw.two y x with e|e
     ·have:=(tin _ h1).1;rw[e] at this;exact this
     ·have:=(tin _ h1).2;rw[e] at this;exact this) λy hy=>(gm y hy).2
    rw[ziY,ziY]
    have c2:zfQ hs.length [x::r]=Fw (hs.length -(x::r).length):=rfl
    lia
  ·have:F=[]:=by
    have:fs=[]:=by
     cases fs with
     |nil=>rfl
     |cons a b=>simp at hb
    rw[this] at lf
    exact List.length_eq_zero_iff.mp lf.symm
   subst this
   exact⟨_,rfl,q d kvs L H4 hd4 lm df.nd (df.all λy a q=>zj4) hdH s4⟩
structure GL{α:Type}(Oa:Hp->Addr->α->Prop)(H H':Hp)(hs:List Str)(ls:List Addr)(G:Str->List α):Prop where
 len:ls.length=hs.length
 nd:ls.Nodup
 at_:∀(i:Nat) (l:Addr) (x:Str),ls[i]?=some l->hs[i]?=some x->(∃us,H' l=some (.lst us)/\AtG Oa H' us (G x))/\H l=none
section
variable{Oa:Hp->Addr->α->Prop}{H'':Hp}{ls:List Addr}{G:Str->List α}
theorem GL.nil:GL Oa H H' [] [] G:=⟨rfl,List.nodup_nil,λi l x e _=>by cases e⟩
theorem GL.mono(h:GL Oa H H' hs ls G)(h1:∀l us,H' l=some (.lst us)->H'' l=some (.lst us))(h2:∀b a,Oa H' b a->Oa H'' b a):GL Oa H H'' hs ls G:=
 ⟨h.len,h.nd,λi l x e1 e2=>let ⟨⟨us,e,a⟩,n⟩:=h.at_ i l x e1 e2;⟨⟨us,h1 _ _ e,AtG.mono a h2⟩,n⟩⟩
theorem GL.snoc(h:GL Oa H H' hs ls G)(hp:H' p=some (.lst []))(hp0:H p=none)(hn:p∉ls)(hG:G x=[]):GL Oa H H' (hs ++ [x]) (ls ++ [p]) G:=by
 refine⟨by rw[Z0,Z0,h.len];rfl,X2.mpr ⟨h.nd,`j3,λa ha b hb z=>hn (by rw[←K0.mp hb,←z];exact ha)⟩,λi l y e1 e2=>?_⟩
 rcases D1 i ls.length with z|z
 ·rw[N1 z] at e1
  rw[N1 (by rw[←h.len];exact z)] at e2
  exact h.at_ i l y e1 e2
 ·rw[L1 z] at e1
  rw[L1 (by rw[←h.len];exact z),←h.len] at e2
  cases hk:i -ls.length with
  |zero=>rw[hk] at e1 e2;cases e1;cases e2;exact⟨⟨[],hp,by rw[hG];exact⟨rfl,λi v p e _=>by cases e⟩⟩,hp0⟩
  |succ n=>rw[hk] at e1;cases e1
theorem GL.app{b:Addr}{a:α}{us:List V}(h:GL Oa H H' hs ls G)(nh:hs.Nodup)(el:ls[i]?=some l)(ex:hs[i]?=some x)(eu:H' l=some (.lst us))(hO:∀c d,Oa H' c d->Oa (upd H' l (.lst (us ++ [.ref b]))) c d)(o:Oa H' b a):
 GL Oa H (upd H' l (.lst (us ++ [.ref b]))) hs ls (λz=>if z=x then G x ++ [a] else G z):=by
 have il:i<ls.length:=by
  rcases D1 i ls.length with z|z
  ·exact z
  ·rw[I0 z] at el;cases el
 have ih:i<hs.length:=by rw[←h.len];exact il
 rw[D0 il] at el
 rw[D0 ih] at ex
 refine⟨h.len,h.nd,λj l' y e1 e2=>?_⟩
 obtain⟨⟨us',eu',at'⟩,n⟩:=h.at_ j l' y e1 e2
 refine⟨?_,n⟩
 have jl:j<ls.length:=by
  rcases D1 j ls.length with z|z
  ·exact z
  ·rw[I0 z] at e1;cases e1
 have jh:j<hs.length:=by rw[←h.len];exact jl
 rw[D0 jl] at e1
 rw[D0 jh] at e2
 by_cases hij:j=i
 ·subst hij
  have e3:l'=l:=(o0 e1).symm.trans (o0 el)
  have e4:y=x:=(o0 e2).symm.trans (o0 ex)
  subst e3 e4
  rw[eu] at eu'
  cases eu'
  refine⟨_,zb,?_⟩
  simp only[if_true]
  exact AtG.snoc (AtG.mono at' hO) (hO _ _ o)
 ·have nl:l'≠l:=λz=>hij ((List.getElem_inj h.nd).mp ((o0 e1).trans (z.trans (o0 el).symm)))
  have ny:y≠x:=λz=>hij ((List.getElem_inj nh).mp ((o0 e2).trans (z.trans (o0 ex).symm)))
  refine⟨us',by rw[zc nl];exact eu',?_⟩
  simp only[P0 ny]
  exact AtG.mono at' hO
theorem GL.get(h:GL Oa H H' hs ls G)(nh:hs.Nodup)(hx:x∈hs):∃(i:Nat) (l:Addr) (us:List V),ls[i]?=some l/\hs[i]?=some x/\zae (zaV hs (ls.map V.ref)) (Sum.inr x)=some (.ref l)/\H' l=some (.lst us)/\AtG Oa H' us (G x)/\H l=none:=by
 obtain⟨i,hi,e⟩:=E2 hx
 have il:i<ls.length:=by rw[h.len];exact hi
 have e1:ls[i]?=some ls[i]:=D0 il
 have e2:hs[i]?=some x:=by rw[D0 hi,e]
 obtain⟨⟨us,eu,at'⟩,n⟩:=h.at_ i _ x e1 e2
 exact⟨i,ls[i],us,e1,e2,zpE nh e2 (by rw[N0,e1];rfl),eu,at',n⟩
end
theorem zlA{y:V}(h:hs.length=ys.length):zaV (hs ++ [x]) (ys ++ [y])=zaV hs ys ++ [(Sum.inr x,y)]:=by
 unfold zaV
 rw[List.zip_append h,F2];rfl
theorem zlE(h:x∉hs):zae (zaV hs ys) (Sum.inr x)=none:=by
 induction hs generalizing ys with
 |nil=>rfl
 |cons a hs ih=>
  cases ys with
  |nil=>rfl
  |cons y ys=>
   show zae ((Sum.inr a,y)::zaV hs ys) (Sum.inr x)=none
   rw[zbL λz=>h (by rw[←Sum.inr.inj z];exact Q0)]
   exact ih λz=>h (V0 _ z)
theorem ziB{y:V}(h:hs.length=ys.length)(hx:x∉hs):zaj (zaV hs ys) (Sum.inr x) y=zaV (hs ++ [x]) (ys ++ [y]):=by
 rw[zef _ (zlE hx),zlA h]
def zsh(g:Str)(ps:List (Str×Str))(M:List Str->Option (List Str))(rs:List D)(x:Str)(k:Ky):Prop:=∃r m,k=kE rs (x::r,m)/\SW g ps (x::r)/\M (x::r)=some m
def Due(g:Str)(hs:List Str)(ps:List (Str×Str))(lks hds:List D)(x:Str)(ws:List (List Str)):Prop:=(x=g/\ws=[[g]])\/(x≠g/\∃ks:List Ky,ks.Pairwise (λa b=>ltK a b=true)/\(∀k,k∈ks↔zsh g ps (zp hs lks hds) (zW hs lks x) x k)/\ws=ks.map (·.2.2))
theorem zfJ:∀{as bs:List Ky},as.Pairwise (λa b=>ltK a b=true)->bs.Pairwise (λa b=>ltK a b=true)->(∀k,k∈as↔k∈bs)->as=bs
 |[],[],_,_,_=>rfl
 |[],b::bs,_,_,h=>absurd ((h b).mpr Q0) `j3
 |a::as,[],_,_,h=>absurd ((h a).mp Q0) `j3
 |a::as,b::bs,h1,h2,h=>by
  rw[List.pairwise_cons] at h1 h2
  have e:a=b:=by
   rcases R0.mp ((h a).mp Q0)with z|z
   ·exact z
   ·rcases R0.mp ((h b).mpr Q0)with y|y
    ·exact y.symm
    ·have:=zhS (h1.1 b y) (h2.1 a z)
     rw[zdf] at this;cases this
  subst e
  rw[zfJ h1.2 h2.2 λk=>?_]
  constructor
  ·intro hk
   rcases R0.mp ((h k).mp (V0 _ hk))with z|z
   ·subst z;have:=h1.1 k hk;rw[zdf] at this;cases this
   ·exact z
  ·intro hk
   rcases R0.mp ((h k).mpr (V0 _ hk))with z|z
   ·subst z;have:=h2.1 k hk;rw[zdf] at this;cases this
   ·exact z
theorem Due.uniq{ws ws':List (List Str)}(h:Due g hs ps lks hds x ws)(h':Due g hs ps lks hds x ws'):ws=ws':=by
 rcases h with⟨e,rfl⟩|⟨n,ks,p1,m1,rfl⟩<;>rcases h' with⟨e',rfl⟩|⟨n',ks',p2,m2,rfl⟩
 ·rfl
 ·exact absurd e n'
 ·exact absurd e' n
 ·rw[zfJ p1 p2 λk=>(m1 k).trans (m2 k).symm]
theorem zgN{ws ms:List Str}:∀{rs:List D},(∀r∈rs,zZ r=true)->zI ws ms rs= .non\/∃i,zI ws ms rs= .int i
 |[],_=> .inr ⟨0,rfl⟩
 |r::rs,h=>by
  rw[zI]
  split
  ·obtain ⟨cs,x,rfl,_,_,hx⟩:=zgT (h r Q0)
   exact hx
  ·exact zgN λr hr=>h r (V0 _ hr)
theorem zmv(T:TownOk g hs ps lks hds){rs:List D}(h:lks[j]?=some (.tup rs)):∀r∈rs,zZ r=true:=by
 have:=T.likes _ (B1 h)
 have:(decide (rs.length<=90)&&rs.all zZ)=true:=this
 exact C3.mp ((E1 _ _).mp this).2
theorem zqc(T:TownOk g hs ps lks hds)(PO:Pool hs lks hds O){m:List Str}(s:SW g ps (x::r))(hx:x≠g)(e:zp hs lks hds (x::r)=some m):EOk x (zW hs lks x) (x::r,m):=by
 have tin:∀p∈ps,p.1∈hs/\p.2∈hs:=λp hp=>⟨(T.ties p hp).1,(T.ties p hp).2.1⟩
 have mem:=SW.mem T.goal tin s
 have MR:=zdX T PO mem e
 have w10:(x::r).length<=10:=B2 (zD s.nd mem) T.ten
 refine⟨⟨r,rfl⟩,λy hy=>T.names y (mem y hy),λy hy=>PO.nm y (MR.mem y hy),by show(x::r).length<=80;lia,B2 (MR.toMk0.len PO.few) ⋯,?_⟩
 obtain⟨j,rs,hj,hlj,er⟩:=zoy T (mem x Q0)
 rw[er]
 cases r with
 |nil=>exact absurd s.one hx
 |cons a q=>
  rw[zp] at e
  cases e1:zp hs lks hds (a::q)with
  |none=>rw[e1] at e;cases e
  |some t=>
   rw[e1] at e
   have e:zau hs lks hds x (a::q) t=some m:=e
   unfold zau at e
   split at e
   ·cases e
   ·rename_i t' _
    by_cases hb:zdE (zI (x::a::q) t' (zW hs lks x))=true
    ·rw[c0 hb] at e;cases e
    ·rw[P0 hb] at e
     cases e
     rw[er] at hb
     rcases zgN (ws:=x::a::q) (ms:=m) (zmv T hlj)with z|⟨i,z⟩
     ·rw[z] at hb;exact absurd rfl hb
     ·show zI (x::a::q) m rs= .int (wI rs (x::a::q,m))
      unfold wI
      simp only[z]
theorem GL.snocW{Oa:Hp->Addr->α->Prop}{ls:List Addr}{G:Str->List α}{us:List V}{zs:List α}(h:GL Oa H H' hs ls G)(hx:x∉hs)(hp:H' p=some (.lst us))(ha:AtG Oa H' us zs)(hp0:H p=none)(hn:p∉ls):GL Oa H H' (hs ++ [x]) (ls ++ [p]) (λz=>if z=x then zs else G z):=by
 refine⟨by rw[Z0,Z0,h.len];rfl,X2.mpr ⟨h.nd,`j3,λa ha b hb z=>hn (by rw[←K0.mp hb,←z];exact ha)⟩,λi l y e1 e2=>?_⟩
 rcases D1 i ls.length with z|z
 ·rw[N1 z] at e1
  rw[N1 (by rw[←h.len];exact z)] at e2
  have:y≠x:=λw=>hx (w▸B1 e2)
  simp only[P0 this]
  exact h.at_ i l y e1 e2
 ·rw[L1 z] at e1
  rw[L1 (by rw[←h.len];exact z),←h.len] at e2
  cases hk:i -ls.length with
  |zero=>
   rw[hk] at e1 e2;cases e1;cases e2
   simp only[if_true]
   exact⟨⟨us,hp,ha⟩,hp0⟩
  |succ n=>rw[hk] at e1;cases e1
noncomputable def ent(M:List Str->Option (List Str))(L:List (List Str))(x:Str):List WM:=(L.filter λw=>decide (w.head?=some x)).map λw=>(w,(M w).getD [])
theorem zog{M:List Str->Option (List Str)}(e:L[i]?=some (x::r))(em:M (x::r)=some ms):ent M (L.take (i+1))=λz=>if z=x then ent M (L.take i) x ++ [(x::r,ms)] else ent M (L.take i) z:=by
 funext z
 unfold ent
 rw[D2,e,List.filter_append,F2]
 show _ ++List.map _ (List.filter _ [x::r])=_
 by_cases h:z=x
 ·subst h
  rw[c0 rfl,List.filter_cons_of_pos `j3,List.filter_nil]
  show _ ++ [(z::r,(M (z::r)).getD [])]=_
  rw[em];rfl
 ·rw[P0 h,List.filter_cons_of_neg (by simp;exact λw=>h w.symm),List.filter_nil]
  show _ ++ []=_
  rw[List.append_nil]
noncomputable def znY:Sp:=λvs H Q _=>∃(v:V) (g:Str) (hs:List Str) (ps:List (Str×Str)) (lks hds:List D) (O:List Str),vs=[v]/\Rep H v (zbR g hs ps lks hds)/\TownOk g hs ps lks hds/\Pool hs lks hds O/\zdA ps/\∀(d:Addr) (ls:List Addr) (W:Str->List (List Str)) (H':Hp),H' d=some (.dK (zaV hs (ls.map V.ref)))->GL zeb H H' hs ls W->(∀x∈hs,Due g hs ps lks hds x (W x))->H d=none->Same H H'->Q (.ref d) H'
theorem zpL(Y:Ev K mg):FnOk P w K mg base CX0 8 Y.a_lets Y.d_lets zh1 znY:=by
 have G_let_marks:FnOk P w K mg base CX0 7 Y.a_let_marks Y.d_let_marks zbP zoA:=zgW Y
 have G_most_liked_first:FnOk P w K mg base CX0 7 Y.a_most_liked_first Y.d_most_liked_first zad zqT:=zdl Y
 refine Y.lets.fn.okQ zeq (λvs H Q E h=>?_) `V3
 ·obtain ⟨v,g,hs,ps,lks,hds,O,rfl,_⟩:=h;rfl
 ·obtain ⟨v,g,hs,ps,lks,hds,O,rfl,hv,T,PO,sp,q⟩:=h
  obtain⟨p,pr,pt,pl,pa,vt,vl,va,rfl,hp,hpr,hpt,rt,hpl,rl,hpa,ra⟩:=zea hv
  have T10:=T.ten
  have hsN:hs.Nodup:=T.hs_nd
  refine⟨_,(zh (zgA (zhu zce (qc 0) zco (zcc zk)) (zdr 2 rfl (zx (zlh 1 zeq.nd) (zx (zn 2 zeq.nd) zaY))))
   (zh (zbW 3 zeq.nd (zfi (src:=[none]) zi9 rfl rfl (zbd (qv 2)) (λ_ _ _ _ _=>(zn 0 zi9.nd)) (λ_ _ _ _ _=>zbn) (λ_ _ _ _ _=>(qv 0)) (λ_ _ _ _ _=>(zdo zd))))
   (zh (zbo D3 rfl (znz (zo G_let_marks (hr.mono ⋯) Y.let_marks.mg Y.let_marks.kp Y.let_marks.b .nil zu (za (qc 0) zd))) (zdr 2 rfl (zx (zn 4 zeq.nd) (zx (zn 5 zeq.nd) zaY))) (zm (zci (ze9 F3 F.slot_list_append F.type_list_append z5 (zdu (hu1 hr) (qc 3) (zag zM (qv 4) zk)) (za (zF (za (qv 4) (za (qv 5) zd))) zd)))))
   (zm (zw (zfi (src:=[none,some 1,some 3,some 0]) ziD rfl rfl (zbd (qv 2)) (λ_ _ _ _ _=>(zn 0 ziD.nd)) (λ_ _ _ _ _=>zbn) (λ_ _ _ _ _=>(qv 0)) (λ_ _ _ _ _=>(znP (zK zat (qv 0) (qc 1)) (zdo (za (zF (za (qc 1) zd)) zd)) (zo G_most_liked_first (hr.mono ⋯) Y.most_liked_first.mg Y.most_liked_first.kp Y.most_liked_first.b .nil zu (za (qc 3) (za (zdu (hu1 hr) (qc 2) (qv 0)) zd))))))))))),?_⟩
  have ecut:zcD [V.str g,V.ref pr,V.ref pt,V.ref pl,V.ref pa] none (some 2)=[V.str g,V.ref pr]:=zfD (n:=2)
  refine⟨_,rfl,_,rfl,p,_,rfl, .inl (.inl hp),λz=>?_,λp1 hp1=>?_⟩
  ·rw[ecut] at z;cases z
  rw[ecut]
  have S1:=Same.new (o:= .tup [V.str g,V.ref pr]) hp1
  refine⟨p1,_,rfl, .inl (.inl zb),rfl,_,_,rfl,_,_,rfl,rfl,?_⟩
  generalize (upd H p1 (HO.tup [V.str g,V.ref pr]))=H1 at *
  have hpr1:=S1 _ _ hpr
  refine⟨_,rfl,pr,rfl,⟨_, .inl (.inl hpr1)⟩,?_⟩
  refine zgC (zap (K:=K) (xs:=hs.map V.str)) (λl i ys σ' H'=>(∃o,σ'=[o])/\∃ls,ys=zaV (hs.take i) (ls.map V.ref)/\GL zmw H H' (hs.take i) ls (λ_=> [])/\Same H1 H') ?_ (λl i ys σ' H' hl ⟨_,_,_,_,s⟩=> .inl (.inl (s _ _ hpr1))) ?_ ?_
  ·exact λl hl=>⟨⟨_,rfl⟩,[],rfl,GL.nil,Same.new hl⟩
  ·rintro l i y0 ys σ' H2 hl' hi hy ⟨⟨o,rfl⟩,ls,rfl,gl,s2⟩ hl2
   rw[C0] at hi
   rw[N0] at hy
   obtain⟨y,ey,rfl⟩:∃y,hs[i]?=some y/\y0= .str y:=by
    cases e:hs[i]? with
    |none=>rw[e] at hy;cases hy
    |some y=>rw[e] at hy;cases hy;exact⟨y,rfl,rfl⟩
   have tk:hs.take (i+1)=hs.take i ++ [y]:=by rw[D2,ey];rfl
   have ynew:y∉hs.take i:=λz=>by
    have:(hs.take i ++ [y]).Nodup:=by rw[←tk];exact hsN.sublist (List.take_sublist _ _)
    exact(X2.mp this).2.2 y z y (K0.mpr rfl) rfl
   refine⟨_,rfl,few rfl,λp2 hp2=>?_⟩
   have hl3:=Same.new (o:= .lst []) hp2 _ _ hl2
   have nlp:p2≠l:=λz=>by rw[z,hl2] at hp2;cases hp2
   have lz:(hs.take i).length=(ls.map V.ref).length:=by rw[C0,gl.len]
   refine⟨Sum.inr y,rfl,hl3,?_,⟨_,rfl⟩,ls ++ [p2],?_,?_,?_⟩
   ·refine zj ?_
    unfold zaV
    rw[C0,List.length_zip,C2];lia
   ·rw[tk,ziB lz ynew,F2];rfl
   ·rw[tk]
    have up1:∀c us,H2 c=some (.lst us)->upd (upd H2 p2 (.lst [])) l (.dK (zaj (zaV (hs.take i) (ls.map V.ref)) (Sum.inr y) (.ref p2))) c=some (.lst us):=λc us e=>by
     rw[zc (zak e hl2 (by intro z;cases z))]
     exact Same.new hp2 _ _ e
    have up2:∀c us,H2 c=some (.tup us)->upd (upd H2 p2 (.lst [])) l (.dK (zaj (zaV (hs.take i) (ls.map V.ref)) (Sum.inr y) (.ref p2))) c=some (.tup us):=λc us e=>by
     rw[zc (zak e hl2 (by intro z;cases z))]
     exact Same.new hp2 _ _ e
    refine GL.snoc (gl.mono up1 λb a ⟨pw,pm,e1,e2,e3⟩=>⟨pw,pm,up2 _ _ e1,up2 _ _ e2,up2 _ _ e3⟩) (by rw[zc nlp,zb]) (zar (S1.trans s2) hp2) (λz=>?_) rfl
    obtain⟨k,hk,e⟩:=E2 z
    have hk':k<(hs.take i).length:=by rw[←gl.len];exact hk
    obtain⟨⟨us,e',_⟩,_⟩:=gl.at_ k p2 _ (by rw[D0 hk,e]) (D0 hk')
    rw[hp2] at e';cases e'
   ·intro c o e
    rw[zc (zi e hl')]
    exact Same.new hp2 _ _ (s2 c o e)
  rintro md kv0 σ' H2 hmdN ⟨⟨o,rfl⟩,ls,rfl,gl,s2⟩ hmd2
  rw[C0,P2] at gl hmd2
  have s02:=S1.trans s2
  refine⟨_,rfl, .ref p,g,hs,ps,lks,hds,O,rfl,hv.same s02,T,PO,sp,λd kvs L H3 hd3 lm ndL mem hdn s3=>?_⟩
  refine⟨d,kvs,rfl,hd3,λo bs kb ndk=>?_⟩
  have hmd3:=s3 _ _ hmd2
  have mdd:md≠d:=λz=>by rw[z,hdn] at hmd2;cases hmd2
  have hdH:H d=none:=zar s02 hdn
  have lz:((bs.zip kvs).map λp=>(V.ref p.1,p.2.2)).length=L.length:=by rw[C0,List.length_zip,kb.1,Nat.min_self,lm.len]
  have fewL:=zdT T.goal (λp hp=>⟨(T.ties p hp).1,(T.ties p hp).2.1⟩) sp ndL λw hw=>((mem w).mp hw).1
  refine zkx (n:=L.length) (λi σ' H'=>(∃o4 o5,σ'=[some (.ref p),some (.str g),some (.ref pr),some (.ref md),o4,o5])/\H' md=some (.dK (zaV hs (ls.map V.ref)))/\GL zmw H H' hs ls (ent (zp hs lks hds) (L.take i))/\H' d=some (.frz o (.dT kvs))/\(∀c xs,H3 c=some (.tup xs)->H' c=some (.tup xs))/\Same H H') ?_ (λi σ' H' hi z=>⟨by rw[lz];exact hi,z.2.2.2.1⟩) (λσ' H' z=>⟨by rw[lz];exact L0 _,z.2.2.2.1⟩) ?_ ?_
  ·have u3:∀c ob,c≠d->H3 c=some ob->upd H3 d (.frz o (.dT kvs)) c=some ob:=λc ob hc e=>by rw[zc hc];exact e
   have t3:∀c xs,H3 c=some (.tup xs)->upd H3 d (.frz o (.dT kvs)) c=some (.tup xs):=λc xs e=>u3 _ _ (zak e hd3 (by intro z;cases z)) e
   exact⟨⟨_,_,rfl⟩,u3 _ _ mdd hmd3,gl.mono (λc us e=>u3 _ _ (zak (s3 _ _ e) hd3 (by intro z;cases z)) (s3 _ _ e)) λb a ⟨pw,pm,e1,e2,e3⟩=>⟨pw,pm,t3 _ _ (s3 _ _ e1),t3 _ _ (s3 _ _ e2),t3 _ _ (s3 _ _ e3)⟩,zb,t3,λc ob e=>u3 _ _ (zi e hdH) (s3 _ _ (s02 c ob e))⟩
  ·rintro i x0 σ' H5 H6 hi ⟨⟨o4,o5,rfl⟩,hm5,gl5,hd5,t5,s5⟩ ⟨Tt,pr',ek,rfl,hT,rfl⟩
   rw[N0] at ek
   obtain⟨w,ew⟩:∃w,L[i]?=some w:=⟨_,D0 hi⟩
   have hk:i<kvs.length:=by rw[lm.len];exact hi
   have hbs:i<bs.length:=by rw[kb.1];exact hk
   have ez:(bs.zip kvs)[i]?=some (bs[i],kvs[i]):=by rw[List.getElem?_zip_eq_some];exact⟨D0 hbs,D0 hk⟩
   rw[ez] at ek
   cases ek
   obtain⟨e1,pm,ms,e2,e3,e4⟩:=lm.at_ i kvs[i] w (D0 hk) ew
   have hb3:=kb.2 i bs[i] kvs[i] (D0 hbs) (D0 hk)
   rw[e1,zg4] at hb3
   dsimp only
   rw[e2]
   generalize bs[i]=b at *
   have wL:w∈L:=B1 ew
   obtain⟨sw,_⟩:=(mem w).mp wL
   obtain⟨x,r,rfl⟩:=sw.ne
   have hxh:x∈hs:=SW.mem T.goal (λp hp=>⟨(T.ties p hp).1,(T.ties p hp).2.1⟩) sw x Q0
   have ST:=Same.new (o:= .tup [V.ref b,V.ref pm]) hT
   refine⟨Tt,_,rfl, .inl (.inl zb),rfl,_,_,rfl,_,_,rfl,rfl,?_⟩
   have hb6:=ST _ _ (t5 _ _ hb3)
   have hpm6:=ST _ _ (t5 _ _ e3)
   have gl6:=gl5.mono (H'':=upd H5 Tt (.tup [V.ref b,V.ref pm])) (λc us e=>ST _ _ e) λc a ⟨pw,pm',a1,a2,a3⟩=>⟨pw,pm',ST _ _ a1,ST _ _ a2,ST _ _ a3⟩
   have hm6:=ST _ _ hm5
   have hd6:=ST _ _ hd5
   have t6:∀c xs,H3 c=some (.tup xs)->upd H5 Tt (.tup [V.ref b,V.ref pm]) c=some (.tup xs):=λc xs e=>ST _ _ (t5 c xs e)
   have s6:=s5.trans ST
   generalize (upd H5 Tt (HO.tup [V.ref b,V.ref pm]))=H6 at *
   obtain⟨j,l,us,el,ex,ev,eu,au,ln⟩:=gl6.get hsN hxh
   have dg:DGet H6 md (.str x) (some (.ref l)):=by
    have:=DGet.k (k:=Sum.inr x) hm6
    rw[ev] at this;exact this
   refine⟨_,rfl,_,rfl,b,_,0,_,rfl,rfl, .inl (.inl hb6),at0,md, .ref l,rfl,dg, .inl ⟨rfl,_,SqL.of eu⟩,_,rfl,_,rfl,few rfl,λp8 hp8=>?_⟩
   have S8:=Same.new (o:= .tup [V.ref b,V.ref pm]) hp8
   have eu8:=S8 _ _ eu
   have lus:us.length<=160:=by
    rw[au.1]
    unfold ent
    rw[C0]
    have h1:=(List.take_sublist i L).filter (λw=>decide (w.head?=some x))
    have h2:=h1.length_le
    have h3:=fewL.2 x
    lia
   refine⟨l,us, .ref p8,rfl,rfl,eu8,zj (),?_⟩
   have t8:∀c xs,upd H6 p8 (.tup [V.ref b,V.ref pm]) c=some (.tup xs)->upd (upd H6 p8 (.tup [V.ref b,V.ref pm])) l (.lst (us ++ [.ref p8])) c=some (.tup xs):=λc xs e=>by rw[zc (zak e eu8 (by intro z;cases z))];exact e
   have e8:upd H6 p8 (.tup [V.ref b,V.ref pm]) p8=some (.tup [V.ref b,V.ref pm]):=zb
   generalize (upd H6 p8 (HO.tup [V.ref b,V.ref pm]))=H8 at *
   have gl8:=gl6.mono (H'':=H8) (λc us e=>S8 _ _ e) λc a ⟨pw,pm',a1,a2,a3⟩=>⟨pw,pm',S8 _ _ a1,S8 _ _ a2,S8 _ _ a3⟩
   refine⟨⟨_,_,rfl⟩,by rw[zc (zak (S8 _ _ hm6) eu8 (by intro z;cases z))];exact S8 _ _ hm6,?_,by rw[zc (zak (S8 _ _ hd6) eu8 (by intro z;cases z))];exact S8 _ _ hd6,λc xs e=>t8 _ _ (S8 _ _ (t6 c xs e)),λc ob e=>by rw[zc (zi e ln)];exact S8 _ _ (s6 c ob e)⟩
   rw[zog ew e4]
   exact gl8.app hsN el ex eu8 (λc a ⟨pw,pm',a1,a2,a3⟩=>⟨pw,pm',t8 _ _ a1,t8 _ _ a2,t8 _ _ a3⟩) ⟨b,pm,e8,S8 _ _ hb6,S8 _ _ hpm6⟩
  rintro σ' H5 ⟨⟨o4,o5,rfl⟩,hm5,gl5,hd5,t5,s5⟩
  rw[P2] at gl5
  have hpr5:=s5 _ _ hpr
  refine⟨_,rfl,pr,rfl,⟨_, .inl (.inl hpr5)⟩,?_⟩
  refine zgC (zap (K:=K) (xs:=hs.map V.str)) (λl i ys σ' H'=>(∃o,σ'=[o,some (.str g),some (.ref md),some (.ref p)])/\∃(ls':List Addr) (W:Str->List (List Str)),ys=zaV (hs.take i) (ls'.map V.ref)/\GL zeb H H' (hs.take i) ls' W/\(∀x∈hs.take i,Due g hs ps lks hds x (W x))/\Same H5 H') ?_ (λl i ys σ' H' hl ⟨_,_,_,_,_,_,s⟩=> .inl (.inl (s _ _ hpr5))) ?_ ?_
  ·exact λl hl=>⟨⟨_,rfl⟩,[],λ_=> [],rfl,GL.nil,λ_ z=>(nomatch z),Same.new hl⟩
  ·rintro l i y0 ys σ' H6 hl' hi hy ⟨⟨o',rfl⟩,ls',W,rfl,gl',du,s6⟩ hl6
   rw[C0] at hi
   rw[N0] at hy
   obtain⟨y,ey,rfl⟩:∃y,hs[i]?=some y/\y0= .str y:=by
    cases e:hs[i]? with
    |none=>rw[e] at hy;cases hy
    |some y=>rw[e] at hy;cases hy;exact⟨y,rfl,rfl⟩
   have tk:hs.take (i+1)=hs.take i ++ [y]:=by rw[D2,ey];rfl
   have ynew:y∉hs.take i:=λz=>by
    have:(hs.take i ++ [y]).Nodup:=by rw[←tk];exact hsN.sublist (List.take_sublist _ _)
    exact(X2.mp this).2.2 y z y (K0.mpr rfl) rfl
   have lz':(hs.take i).length=(ls'.map V.ref).length:=by rw[C0,gl'.len]
   have fin:∀(p2:Addr) (us:List V) (ws:List (List Str)) (H7:Hp),Same H6 H7->H6 p2=none->H7 p2=some (.lst us)->AtG zeb H7 us ws->Due g hs ps lks hds y ws->∃k',V.str y=kV k'/\H7 l=some (.dK (zaV (hs.take i) (ls'.map V.ref)))/\(zaV (hs.take i) (ls'.map V.ref)).length<sizeLine/\(∃o,[some (V.str y),some (.str g),some (.ref md),some (.ref p)]=[o,some (.str g),some (.ref md),some (.ref p)])/\∃(ls'':List Addr) (W':Str->List (List Str)),zaj (zaV (hs.take i) (ls'.map V.ref)) k' (.ref p2)=zaV (hs.take (i+1)) (ls''.map V.ref)/\GL zeb H (upd H7 l (.dK (zaj (zaV (hs.take i) (ls'.map V.ref)) k' (.ref p2)))) (hs.take (i+1)) ls'' W'/\(∀x∈hs.take (i+1),Due g hs ps lks hds x (W' x))/\Same H5 (upd H7 l (.dK (zaj (zaV (hs.take i) (ls'.map V.ref)) k' (.ref p2)))):=by
    intro p2 us ws H7 s7 hp2 e2 a2 dy
    have hl7:=s7 _ _ hl6
    refine⟨Sum.inr y,rfl,hl7,?_,⟨_,rfl⟩,ls' ++ [p2],λz=>if z=y then ws else W z,?_,?_,?_,?_⟩
    ·refine zj ?_
     unfold zaV
     rw[C0,List.length_zip,C2];lia
    ·rw[tk,ziB lz' ynew,F2];rfl
    ·rw[tk]
     have up1:∀c us,H7 c=some (.lst us)->upd H7 l (.dK (zaj (zaV (hs.take i) (ls'.map V.ref)) (Sum.inr y) (.ref p2))) c=some (.lst us):=λc us e=>by rw[zc (zak e hl7 (by intro z;cases z))];exact e
     have up2:∀c us,H7 c=some (.tup us)->upd H7 l (.dK (zaj (zaV (hs.take i) (ls'.map V.ref)) (Sum.inr y) (.ref p2))) c=some (.tup us):=λc us e=>by rw[zc (zak e hl7 (by intro z;cases z))];exact e
     refine GL.snocW (gl'.mono (λc us e=>up1 _ _ (s7 _ _ e)) λb a e=>up2 _ _ (s7 _ _ e)) ynew (up1 _ _ e2) (AtG.mono a2 λb a e=>up2 _ _ e) (zar (s5.trans s6) hp2) λz=>?_
     obtain⟨k,hk,e⟩:=E2 z
     have hk':k<(hs.take i).length:=by rw[←gl'.len];exact hk
     obtain⟨⟨us,e',_⟩,_⟩:=gl'.at_ k p2 _ (by rw[D0 hk,e]) (D0 hk')
     rw[hp2] at e';cases e'
    ·intro x hx
     rw[tk] at hx
     show Due g hs ps lks hds x (if x=y then ws else W x)
     by_cases h:x=y
     ·rw[c0 h,h];exact dy
     ·rw[P0 h]
      rcases F1.mp hx with hx|hx
      ·exact du x hx
      ·exact absurd (K0.mp hx) h
    ·intro c ob e
     rw[zc (zi e hl')]
     exact s7 _ _ (s6 c ob e)
   have hyh:y∈hs:=B1 ey
   refine⟨_,rfl,_,rfl,_,rfl,rfl,_,rfl,zd9 (λhc=>?_) (λhc=>?_)⟩
   ·have eg:y=g:=by simpa using hc
    refine⟨_,rfl,few rfl,λpA hpA=>⟨few rfl,λlB hlB=>?_⟩⟩
    have SA:=Same.new (o:= .tup [V.str g]) hpA
    have SB:=Same.new (o:= .lst [V.ref pA]) hlB
    refine fin lB [.ref pA] [[g]] _ (SA.trans SB) (SA.free hlB) zb ⟨rfl,λk v w h1 h2=>?_⟩ (.inl ⟨eg,rfl⟩)
    cases k with
    |zero=>cases h1;cases h2;exact⟨pA,rfl,SB _ _ zb⟩
    |succ k=>cases h1
   ·have ng:y≠g:=λz=>hc (by simp[z])
    obtain⟨k0,l0,us,el,ex,ev,eu,au,ln⟩:=gl5.get hsN hyh
    have dg:DGet H6 md (.str y) (some (.ref l0)):=by
     have:=DGet.k (k:=Sum.inr y) (s6 _ _ hm5)
     rw[ev] at this;exact this
    obtain⟨j,rs,hj,hlj,er⟩:=zoy T hyh
    have em:∀e,e∈ent (zp hs lks hds) L y↔∃r m,e=(y::r,m)/\SW g ps (y::r)/\zp hs lks hds (y::r)=some m:=λe=>by
     unfold ent
     rw[X0]
     constructor
     ·rintro ⟨w,hw,rfl⟩
      obtain⟨h1,h2⟩:=J1.mp hw
      obtain⟨s1,m1⟩:=(mem w).mp h1
      obtain⟨x,r,rfl⟩:=s1.ne
      have:x=y:=o0 (Y0 h2)
      subst this
      cases e:zp hs lks hds (x::r)with
      |none=>exact absurd e m1
      |some m=>exact ⟨r,m,by rfl,s1,e⟩
     ·rintro ⟨r,m,rfl,s1,e1⟩
      exact⟨y::r,J1.mpr ⟨(mem _).mpr ⟨s1,by rw[e1];exact λz=>nomatch z⟩,`j3⟩,by rw[e1];rfl⟩
    refine⟨_,rfl,_,rfl,_,rfl,md,_,rfl,dg, .ref p,l0,us,_,y,g,hs,ps,lks,hds,j,rs,rfl,hv.same (s5.trans s6),T,hj,hlj,s6 _ _ eu,AtG.mono au λb a ⟨pw,pm,a1,a2,a3⟩=>⟨pw,pm,s6 _ _ a1,s6 _ _ a2,s6 _ _ a3⟩,?_,?_,λe he=>?_,λl2 us2 ks H7 perm pw' e2 a2 hn s7=>fin l2 us2 _ H7 s7 hn e2 a2 (.inr ⟨ng,ks,pw',λk=>?_,rfl⟩)⟩
    ·unfold ent;rw[C0];have:=fewL.2 y;lia
    ·unfold ent
     rw[G3]
     show((L.filter _).map λw=>w).Nodup
     rw[List.map_id']
     exact ndL.sublist List.filter_sublist
    ·obtain ⟨r,m,rfl,s1,e1⟩:=(em e).mp he
     rw[←er];exact zqc T PO s1 ng e1
    ·rw[perm.mem_iff,X0,er]
     constructor
     ·rintro ⟨e,he,rfl⟩
      obtain⟨r,m,rfl,s1,e1⟩:=(em e).mp he
      exact⟨r,m,rfl,s1,e1⟩
     ·rintro ⟨r,m,rfl,s1,e1⟩
      exact⟨_,(em _).mpr ⟨r,m,rfl,s1,e1⟩,rfl⟩
  rintro l kv σ' H6 hlN ⟨⟨o',rfl⟩,ls',W,rfl,gl',du,s6⟩ hl6
  rw[C0,P2] at gl' du hl6
  exact q l ls' W H6 hl6 gl' du (zar s5 hlN) (s5.trans s6)
noncomputable def chB(rs:List (List Str))(a b:Str):Bool:=decide ([a,b,"over"]∈rs)
noncomputable def vfB(rs:List (List Str)):List Str->Bool
 |y::x::z::r=>(chB rs x y||chB rs x z)&&vfB rs (x::z::r)
 |_=>true
theorem zcB{f:Str->D}{k:Str->List D}(e:∀x,f x= .tup (k x)):∀{hs:List Str} {x:Str},x∈hs->zW hs (hs.map f) x=k x
 |h::hs,x,hx=>by
  rw[V1,zW]
  by_cases c:h=x
  ·rw[c0 c,e h,c];rfl
  ·rw[P0 c];exact zcB e ((R0.mp hx).resolve_left λz=>c z.symm)
theorem zjl{t:List Str}{a b:Str}:zcN ws t (some y) (zdn (khD a b))=(decide (ws[1]?=some a)&&decide (y=b)):=by
 show(zbj ws t (some y) (.tup [.str "from", .str a])&&(zbj ws t (some y) (.tup [.str "to", .str b])&&true))=_
 rw[Bool.and_true]
 congr 1
 show decide (some y=some b)=decide (y=b)
 exact decide_eq_decide.mpr ⟨λz=>o0 z,λz=>by rw[z]⟩
theorem zgx{ws t:List Str}{y:Str}:∀{ks:List D},(∀r∈ks,∃a b,r=khD a b)->zC ws (some y) ks t=if(ks.any λr=>zcN ws t (some y) (zdn r))=true then none else some t
 |[],_=>rfl
 |r::ks,h=>by
  obtain⟨a,b,rfl⟩:=h r Q0
  rw[zC,List.any_cons]
  by_cases c:zcN ws t (some y) (zdn (khD a b))=true
  ·rw[c0 c,c,Bool.true_or,c0 rfl];rfl
  ·rw[P0 c,Bool.eq_false_iff.mpr c,Bool.false_or];exact zgx λr hr=>h r (V0 _ hr)
theorem zc6{os:List Str}:∀r∈khL os as,∃a b,r=khD a b/\a∈as/\b∈os/\a≠b:=λr hr=>by
 unfold khL at hr
 obtain⟨a,ha,hr⟩:=List.mem_flatMap.mp hr
 obtain⟨b,hb,rfl⟩:=X0.mp hr
 obtain⟨hb,n⟩:=J1.mp hb
 exact⟨a,b,rfl,ha,hb,by simpa using n⟩
theorem zoS{os:List Str}{a b:Str}(ha:a∈as)(hb:b∈os)(n:a≠b):khD a b∈khL os as:=
 List.mem_flatMap.mpr ⟨a,ha,X0.mpr ⟨b,J1.mpr ⟨hb,by simpa using n⟩,rfl⟩⟩
theorem zex{rs:List (List Str)}{fk:List (List Key×V)}{y x:Str}{r t:List Str}:∀{ns:List Str},x∈ns->zI (y::x::r) t (ns.map (klD rs fk y))= .int (zbm fk y x+if [y,x,"over"]∈rs then 100 else 0)
 |n::ns,h=>by
  rw[V1,zI]
  have e:zcN (y::x::r) t none (zdn (klD rs fk y n))=decide (x=n):=by
   show(zbj (y::x::r) t none (.tup [.str "from", .str n])&&true)=_
   rw[Bool.and_true]
   show decide (some x=some n)=decide (x=n)
   exact decide_eq_decide.mpr ⟨λz=>o0 z,λz=>by rw[z]⟩
  rw[e]
  by_cases c:x=n
  ·rw[c0 (U0 c),c];rfl
  ·rw[P0 (by rw[A1 c];decide)];exact zex ((R0.mp h).resolve_left c)
theorem ze5:z∈zas rs x (kNs ps x)↔z∈zb2 ps x/\chB rs x z=false:=by
 unfold zas kNs chB
 rw[J1,(zz _).mem_iff]
 constructor
 ·rintro ⟨h1,h2⟩;exact⟨h1,by simpa using h2⟩
 ·rintro ⟨h1,h2⟩;exact⟨h1,by rw[h2];rfl⟩
theorem zeF(hg:g∈hs)(hp:∀p∈ps,p.1∈hs/\p.2∈hs)(lt:∀p∈ps,ltS p.1 p.2=true):∀{w:List Str},SW g ps w->zp hs (hs.map (kLk rs fk ps)) (hs.map (kHd rs ps)) w=if vfB rs w=true then some [] else none
 |[],_=>rfl
 |[x],_=>rfl
 |y::x::ws,h=>by
  obtain⟨h1,h2,h3⟩:=h.tail
  have mem:=SW.mem hg hp h
  have hx:x∈hs:=mem x `j3
  have hy:y∈hs:=mem y `j3
  rw[zp,zeF hg hp lt h1]
  have wo:∀t,zdE (zI (y::x::ws) t (zW hs (hs.map (kLk rs fk ps)) y))=false:=λt=>by
   rw[zcB (f:=kLk rs fk ps) (k:=λx=>(kNs ps x).map (klD rs fk x)) (λ_=>rfl) hy,zex]
   ·rfl
   ·unfold kNs
    rw[(zz _).mem_iff,zbH]
    rcases zaw.two y x with e|e
    ·rw[e] at h3;exact .inr h3
    ·rw[e] at h3;exact .inl h3
  have ny:y∈zb2 ps x:=(zis lt).mpr h3
  have ah:zau hs (hs.map (kLk rs fk ps)) (hs.map (kHd rs ps)) y (x::ws) []=zC (x::ws) (some y) (khL (zas rs x (kNs ps x)) (zas rs x (kNs ps x))) []:=by
   unfold zau
   rw[show(x::ws).headD ""=x from rfl,zcB (f:=kHd rs ps) (k:=λx=>khL (zas rs x (kNs ps x)) (zas rs x (kNs ps x))) (λ_=>rfl) hx]
   cases zC (x::ws) (some y) (khL (zas rs x (kNs ps x)) (zas rs x (kNs ps x))) [] with
   |none=>rfl
   |some t=>show (if _ then none else some t)=some t;rw[wo t];rfl
  rw[zgx λr hr=>let ⟨a,b,e,_⟩:=zc6 r hr;⟨a,b,e⟩] at ah
  match ws,h,h1,h2,ah with
  |[],_,_,_,ah=>
   have e:((khL (zas rs x (kNs ps x)) (zas rs x (kNs ps x))).any λr=>zcN [x] [] (some y) (zdn r))=false:=by
    rw[Bool.eq_false_iff]
    intro z
    obtain⟨r,hr,z⟩:=List.any_eq_true.mp z
    obtain⟨a,b,rfl,_⟩:=zc6 r hr
    rw[zjl] at z
    cases z
   rw[e] at ah
   exact ah
  |z::r,h,h1,h2,ah=>
   obtain⟨_,h5,h6⟩:=h1.tail
   have nz:z∈zb2 ps x:=by
    rw[zbH]
    rcases zaw.two x z with e|e
    ·rw[e] at h6;exact .inr h6
    ·rw[e] at h6;exact .inl h6
   have yz:z≠y:=λe=>h2 (by rw[←e];simp)
   have ea:((khL (zas rs x (kNs ps x)) (zas rs x (kNs ps x))).any λr'=>zcN (x::z::r) [] (some y) (zdn r'))=(!chB rs x z&&!chB rs x y):=by
    rw[Bool.eq_iff_iff,List.any_eq_true,E1]
    constructor
    ·rintro ⟨k,hk,e⟩
     obtain⟨a,b,rfl,ha,hb,_⟩:=zc6 k hk
     rw[zjl,E1] at e
     have e1:z=a:=o0 (Y0 e.1)
     have e2:y=b:=Y0 e.2
     subst e1 e2
     exact⟨by rw[(ze5.mp ha).2];rfl,by rw[(ze5.mp hb).2];rfl⟩
    ·rintro ⟨e1,e2⟩
     refine⟨khD z y,zoS (ze5.mpr ⟨nz,by simpa using e1⟩) (ze5.mpr ⟨ny,by simpa using e2⟩) yz,?_⟩
     rw[zjl,E1]
     exact⟨U0 rfl,U0 rfl⟩
   rw[ea] at ah
   rw[show vfB rs (y::x::z::r)=((chB rs x y||chB rs x z)&&vfB rs (x::z::r))from rfl]
   cases vfB rs (x::z::r)with
   |false=>rw[Bool.and_false];rfl
   |true=>
    rw[Bool.and_true]
    show zau hs (hs.map (kLk rs fk ps)) (hs.map (kHd rs ps)) y (x::z::r) []=_
    rw[ah]
    cases chB rs x z<;>cases chB rs x y<;>rfl
noncomputable def stp(x:Str):List Str->Option (Int×Str)
 |[a,b,w]=>if b=x then some (if w="over"then 0 else 1,a)else if a=x then some (if w="over"then 2 else 1,b)else none
 |_=>none
def StO(H:Hp)(b:Addr)(e:Int×Str):Prop:=H b=some (.tup [.int e.1, .str e.2])
theorem zhX{H3:Hp}{b8:Addr}{L:List (Int×Str)}(e:Int×Str)(hlf:H lf=none)(s:Same H H3)(hf:H3 lf=some (.lst us'))(R:AtG StO H3 us' L)(hb:H3 b8=none):
 upd H3 b8 (.tup [.int e.1, .str e.2]) lf=some (.lst us')/\AtG StO (upd (upd H3 b8 (.tup [.int e.1, .str e.2])) lf (.lst (us' ++ [.ref b8]))) (us' ++ [.ref b8]) (L ++ [e])/\Same H (upd (upd H3 b8 (.tup [.int e.1, .str e.2])) lf (.lst (us' ++ [.ref b8]))):=by
 have S:=Same.new (o:= .tup [.int e.1, .str e.2]) hb
 have e8:upd H3 b8 (.tup [.int e.1, .str e.2]) b8=some (.tup [.int e.1, .str e.2]):=zb
 have hf4:=S _ _ hf
 generalize upd H3 b8 (.tup [.int e.1, .str e.2])=H4 at *
 have up:∀c xs,H4 c=some (.tup xs)->upd H4 lf (.lst (us' ++ [.ref b8])) c=some (.tup xs):=λc xs e=>by rw[zc (zak e hf4 (λz=>nomatch z))];exact e
 exact⟨hf4,AtG.snoc (AtG.mono R λc e h=>up _ _ (S _ _ h)) (up _ _ e8),λc o h=>by rw[zc (zi h hlf)];exact S _ _ (s _ _ h)⟩
noncomputable def zkH:Sp:=λvs H Q _=>∃(p:Addr) (us:List V) (rs:List (List Str)) (x:Str),vs=[.ref p, .str x]/\H p=some (.tup us)/\zH H us rs/\(∀r∈rs,zbB r=true)/\rs.length<=20/\∀(l:Addr) (us':List V) (H':Hp),H l=none->H' l=some (.lst us')->AtG StO H' us' (rs.filterMap (stp x))->Same H H'->Q (.ref l) H'
theorem zox(Y:Ev K mg):FnOk P w K mg base CX0 1 Y.a__law_steps Y.d__law_steps zbq zkH:=by
 refine Y._law_steps.fn.okQ zaq (λvs H Q E h=>?_) `V3
 ·obtain ⟨p,us,rs,x,rfl,_⟩:=h;rfl
 ·obtain ⟨p,us,rs,x,rfl,hp,T,hrow,l20,q⟩:=h
  refine⟨_,(zh (zE 2 zaq.nd (zdo zd))
   (zh (zbo D3 rfl (zbd (qv 0)) (zdr 3 rfl (zx (zn 3 zaq.nd) (zx (zn 4 zaq.nd) (zx (zn 5 zaq.nd) zaY)))) (zm (zaX (zK zdh (qv 1) (zF (za (qv 3) (za (qv 4) zd)))) (zh (zE 6 zaq.nd (znP (zK zat (qv 4) (qv 1)) (qv 3) (qv 4)))
   (zm (zci (ze9 F3 F.slot_list_append F.type_list_append z5 (qv 2) (za (zF (za (znP (zK zat (qv 5) zbb) (zag zaz (zdo (za zk (za zk zd))) (zaf zeC Y.int zjJ (za (zcH zat (qv 6) (qv 3)) zd))) zk) (za (qv 6) zd))) zd))))) z8)))
   (zm (zw (qv 2))))),?_⟩
  refine⟨few rfl,λlf hlf=>?_⟩
  have S0:=Same.new (o:= .lst ([]:List V)) hlf
  refine⟨_,rfl,p,rfl,⟨_, .inl (.inl (S0 _ _ hp))⟩,?_⟩
  have lus:=T.1
  refine zaN (zap (K:=K) (a:=p) (xs:=us)) (λi σ' H'=>(∃o3 o4 o5 o6,σ'=[some (.ref p),some (.str x),some (.ref lf),o3,o4,o5,o6])/\(∃us',H' lf=some (.lst us')/\AtG StO H' us' ((rs.take i).filterMap (stp x)))/\Same H H') ?_ ?_ ?_ ?_
  ·exact ⟨⟨_,_,_,_,rfl⟩,⟨_,zb,rfl,λi v p e=>by cases e⟩,S0⟩
  ·exact λi σ' H' z=> .inl (.inl (z.2.2 _ _ hp))
  ·rintro i y σ' H1 hi hy ⟨⟨o3,o4,o5,o6,rfl⟩,⟨us',hf1,R1⟩,s1⟩
   have hi':i<rs.length:=()
   have er:rs[i]?=some rs[i]:=D0 hi'
   obtain⟨t,rfl,ht⟩:=T.2 i y rs[i] hy er
   have tk:rs.take (i+1)=rs.take i ++ [rs[i]]:=by rw[D2,er];rfl
   obtain⟨a,b,wd,ea,na,nb,ne,hw⟩:=zR (hrow rs[i] (Z2 hi'))
   rw[tk,List.filterMap_append]
   rw[ea] at ht⊢
   have lu:us'.length<=20:=by
    rw[R1.1]
    exact B2 (List.length_filterMap_le _ _) (by rw[C2];lia)
   generalize (rs.take i).filterMap (stp x)=L at *
   have ht1:=s1 _ _ ht
   refine⟨t,_,rfl, .inl (.inl ht1),rfl,_,_,rfl,_,_,rfl,_,_,rfl,rfl,?_⟩
   refine⟨_,rfl,_,rfl,_,rfl,few rfl,λpt hpt=>⟨pt,_,rfl, .inr (.inl (.inl zb)),rfl,rfl,_,rfl,?_⟩⟩
   rw[show [V.str a,V.str b]=[a,b].map V.str from rfl] at *
   rw[zdc]
   have S2:=Same.new (o:= .tup ([a,b].map V.str)) hpt
   have hf2:=S2 _ _ hf1
   have R2:=AtG.mono R1 (λc e h=>S2 _ _ h:∀c e,StO _ c e->StO _ c e)
   have s2:=s1.trans S2
   generalize upd H1 pt (.tup ([a,b].map V.str))=H2 at *
   by_cases cb:b=x
   ·subst cb
    refine zbe `j3 ?_
    refine⟨_,rfl,_,rfl,rfl,_,rfl,zbe (U0 rfl) ⟨_,rfl,?_⟩⟩
    rcases hw with⟨rfl,_⟩|rfl
    ·refine ⟨_,rfl, .inl ⟨rfl,_,SqL.of hf2⟩,_,rfl,rfl,_,rfl,zaI rfl ⟨_,rfl,few rfl,λb8 hb8=>?_⟩⟩
     obtain⟨h1,h2,h3⟩:=zhX (1,a) hlf s2 hf2 R2 hb8
     rw[show [[a,b,("equal":Str)]].filterMap (stp b)=[(1,a)] by simp[stp];decide]
     exact⟨lf,us',_,rfl,rfl,h1,zj (),⟨_,_,_,_,rfl⟩,⟨_,zb,h2⟩,h3⟩
    ·refine ⟨_,rfl, .inl ⟨rfl,_,SqL.of hf2⟩,_,rfl,rfl,_,rfl,zbe rfl ⟨few rfl,λl2 hl2=>?_⟩⟩
     have S3:=Same.new (o:= .lst [.int 2, .int 0]) hl2
     refine⟨_,rfl,_,rfl,rfl, .inr ⟨_,rfl,?_⟩⟩
     rw[U0 rfl]
     refine⟨l2,[.int 2, .int 0],1, .int 0,rfl,rfl,SqL.of zb,rfl,_,rfl,few rfl,λb8 hb8=>?_⟩
     obtain⟨h1,h2,h3⟩:=zhX (0,a) hlf (s2.trans S3) (S3 _ _ hf2) (AtG.mono R2 (λc e h=>S3 _ _ h:∀c e,StO _ c e->StO _ c e)) hb8
     rw[show [[a,b,("over":Str)]].filterMap (stp b)=[(0,a)] by simp[stp]]
     exact⟨lf,us',_,rfl,rfl,h1,zj (),⟨_,_,_,_,rfl⟩,⟨_,zb,h2⟩,h3⟩
   ·by_cases ca:a=x
    ·subst ca
     refine zbe `j3 ?_
     refine⟨_,rfl,_,rfl,rfl,_,rfl,zaI (A1 λz=>cb (by injection z)) ⟨_,rfl,?_⟩⟩
     rcases hw with⟨rfl,_⟩|rfl
     ·refine ⟨_,rfl, .inl ⟨rfl,_,SqL.of hf2⟩,_,rfl,rfl,_,rfl,zaI rfl ⟨_,rfl,few rfl,λb8 hb8=>?_⟩⟩
      obtain⟨h1,h2,h3⟩:=zhX (1,b) hlf s2 hf2 R2 hb8
      rw[show [[a,b,("equal":Str)]].filterMap (stp a)=[(1,b)] by simp[stp,cb];decide]
      exact⟨lf,us',_,rfl,rfl,h1,zj (),⟨_,_,_,_,rfl⟩,⟨_,zb,h2⟩,h3⟩
     ·refine ⟨_,rfl, .inl ⟨rfl,_,SqL.of hf2⟩,_,rfl,rfl,_,rfl,zbe rfl ⟨few rfl,λl2 hl2=>?_⟩⟩
      have S3:=Same.new (o:= .lst [.int 2, .int 0]) hl2
      refine⟨_,rfl,_,rfl,rfl, .inr ⟨_,rfl,?_⟩⟩
      rw[A1 (λz=>cb (by injection z):¬V.str b=V.str a)]
      refine⟨l2,[.int 2, .int 0],0, .int 2,rfl,rfl,SqL.of zb,rfl,_,rfl,few rfl,λb8 hb8=>?_⟩
      obtain⟨h1,h2,h3⟩:=zhX (2,b) hlf (s2.trans S3) (S3 _ _ hf2) (AtG.mono R2 (λc e h=>S3 _ _ h:∀c e,StO _ c e->StO _ c e)) hb8
      rw[show [[a,b,("over":Str)]].filterMap (stp a)=[(2,b)] by simp[stp,cb]]
      exact⟨lf,us',_,rfl,rfl,h1,zj (),⟨_,_,_,_,rfl⟩,⟨_,zb,h2⟩,h3⟩
    ·refine zaI (by simp[ca,cb]) ⟨⟨_,_,_,_,rfl⟩,⟨us',hf2,?_⟩,s2⟩
     rw[show [[a,b,wd]].filterMap (stp x)=[] by simp[stp,ca,cb],List.append_nil]
     exact R2
  ·rintro σ' H1 ⟨⟨o3,o4,o5,o6,rfl⟩,⟨us',hf1,R1⟩,s1⟩
   rw[lus,P2] at R1
   exact⟨_,rfl,q lf us' H1 hlf hf1 R1 s1⟩
theorem zbJ{a b w:Str}(ne:a≠b):zT [a,b,w]=l2p (mmS a b):=by
 show srt [a,b]=[(if ltS b a=true then b else a),(if ltS a b=true then b else a)]
 unfold srt
 by_cases h:ltS a b=true
 ·have h':ltS b a=false:=zaU h
  simp[List.mergeSort,List.merge,leS,h,h']
 ·have h':=za6 ne (by simpa using h)
  simp[List.mergeSort,List.merge,leS,h,h']
theorem zoG(k:KinOk rs){r':List Str}(h:r∈rs)(h':r'∈rs)(e:zT r=zT r'):r=r':=by
 obtain⟨i,hi,ei⟩:=E2 h
 obtain⟨j,hj,ej⟩:=E2 h'
 have:=zgz k.ties (show(rs.map zT)[i]?=some (zT r) by rw[N0,D0 hi,ei];rfl) (show(rs.map zT)[j]?=some (zT r) by rw[N0,D0 hj,ej,e];rfl)
 subst this
 rw[←ei,←ej]
theorem zjt{a b w:Str}:stp x [a,b,w]=if b=x then some (if w="over"then 0 else 1,a)else if a=x then some (if w="over"then 2 else 1,b)else none:=rfl
theorem zgX{s:Int}(hr:zbB r=true)(e:stp x r=some (s,z)):zT r=l2p (mmS x z):=by
 obtain⟨a,b,w,rfl,_,_,ne,_⟩:=zR hr
 rw[zbJ ne]
 rw[zjt] at e
 by_cases cb:b=x
 ·rw[c0 cb] at e;cases e;rw[←cb,zaw.sym]
 ·rw[P0 cb] at e
  by_cases ca:a=x
  ·rw[c0 ca] at e;cases e;rw[←ca]
  ·rw[P0 ca] at e;cases e
theorem zhV{p p':Str×Str}(h:l2p p=l2p p'):p=p':=by
 injection h with h1 h2
 injection h2 with h2 _
 exact Prod.ext h1 h2
structure StF(ps:List (Str×Str))(rs:List (List Str))(x z:Str)(s:Int):Prop where
 ne:z≠x
 tie:mmS x z∈ps
 s0:s=0↔chB rs z x=true
 s2:s=2↔chB rs x z=true
 rng:0<=s/\s<=2
theorem zot(t:KinT g rs hs ps)(k:KinOk rs){s:Int}(h:(s,z)∈rs.filterMap (stp x)):StF ps rs x z s:=by
 obtain⟨r,hr,e⟩:=List.mem_filterMap.mp h
 have tie:=zgX (k.row r hr) e
 have one:∀a b:Str,chB rs a b=true->zT [a,b,"over"]=l2p (mmS x z)->r=[a,b,"over"]:=λa b hc he=>zoG k hr (Y0 hc) (by rw[tie,he])
 have tp:mmS x z∈ps:=by
  have:l2p (mmS x z)∈ps.map l2p:=t.tp.mem_iff.mpr (tie▸X0.mpr ⟨r,hr,rfl⟩)
  obtain⟨p,hp,e⟩:=X0.mp this
  rw[←zhV e];exact hp
 obtain⟨a,b,w,rfl,_,_,ne,hw⟩:=zR (k.row r hr)
 have wo:w="equal"\/w="over":=hw.imp (λh=>h.1) id
 rw[zjt] at e
 by_cases cb:b=x
 ·subst cb
  rw[c0 rfl] at e
  cases e
  refine⟨ne,tp,⟨λh=>?_,λh=>?_⟩,⟨λh=>?_,λh=>?_⟩,?_⟩
  ·rcases wo with rfl|rfl
   ·exact absurd h ⋯
   ·exact U0 hr
  ·have:=one _ _ h (by rw[zbJ ne,zaw.sym])
   injection this with _ this;injection this with _ this;injection this with this _
   rw[c0 this]
  ·rcases wo with rfl|rfl<;>exact absurd h ⋯
  ·have:=one _ _ h (zbJ (Ne.symm ne))
   injection this with this _
   exact absurd this ne
  ·rcases wo with rfl|rfl<;>decide
 ·rw[P0 cb] at e
  by_cases ca:a=x
  ·subst ca
   rw[c0 rfl] at e
   cases e
   refine⟨cb,tp,⟨λh=>?_,λh=>?_⟩,⟨λh=>?_,λh=>?_⟩,?_⟩
   ·rcases wo with rfl|rfl<;>exact absurd h ⋯
   ·have:=one _ _ h (by rw[zbJ cb,zaw.sym])
    injection this with this _
    exact absurd this.symm cb
   ·rcases wo with rfl|rfl
    ·exact absurd h ⋯
    ·exact U0 hr
   ·have:=one _ _ h (zbJ ne)
    injection this with _ this;injection this with _ this;injection this with this _
    rw[c0 this]
   ·rcases wo with rfl|rfl<;>decide
  ·rw[P0 ca] at e;cases e
theorem zod(t:KinT g rs hs ps)(k:KinOk rs)(h:mmS x z∈ps)(ne:x≠z):∃s,(s,z)∈rs.filterMap (stp x):=by
 have:l2p (mmS x z)∈rs.map zT:=t.tp.mem_iff.mp (X0.mpr ⟨_,h,rfl⟩)
 obtain⟨r,hr,e⟩:=X0.mp this
 obtain⟨a,b,w,rfl,_,_,ne',_⟩:=zR (k.row r hr)
 rw[zbJ ne'] at e
 have e:=zhV e
 have hb:(b=x/\a=z)\/(a=x/\b=z):=by
  rcases zaw.two a b with h1|h1<;>rcases zaw.two x z with h2|h2<;>rw[h1,h2] at e<;>cases e<;>simp
 rcases hb with⟨rfl,rfl⟩|⟨rfl,rfl⟩
 ·exact ⟨_,List.mem_filterMap.mpr ⟨_,hr,c0 rfl⟩⟩
 ·exact ⟨_,List.mem_filterMap.mpr ⟨_,hr,by rw[zjt,P0 (Ne.symm ne'),c0 rfl]⟩⟩
theorem zrR(k:KinOk rs)(x:Str):((rs.filterMap (stp x)).map (·.2)).Nodup:=by
 have h:rs.Pairwise (λa b=>zT a≠zT b):=V2.mp k.ties
 refine V2.mpr (List.pairwise_filterMap.mpr (h.imp_of_mem λ{a b} ha hb n=>?_))
 rintro⟨s,z⟩ e ⟨s',z'⟩ e' (ee:z=z')
 subst ee
 exact n (by rw[zgX (k.row a ha) e,zgX (k.row b hb) e'])
noncomputable def gnB(rs:List (List Str))(l:Int):List Str->Bool
 |h::z::r=>(decide (l=0)||chB rs h z)&&vfB rs (h::z::r)
 |_=>true
noncomputable def mxI(l s:Int):Int:=if s>l then s else l
section
variable{h:Str}{l s:Int}
theorem zlg(F:StF ps rs h z s)(l0:0<=l)(r:List Str):gnB rs l (h::z::r)=true↔(l=0\/s=2)/\gnB rs (mxI l s) (z::r)=true:=by
 have r1:=F.rng
 have e0:=F.s0
 have e2:=F.s2
 cases r with
 |nil=>
  show((decide (l=0)||chB rs h z)&&true)=true↔(l=0\/s=2)/\true=true
  rw[Bool.and_true,Bool.or_eq_true,B3,e2]
  simp
 |cons z2 r=>
  show((decide (l=0)||chB rs h z)&&((chB rs z h||chB rs z z2)&&vfB rs (z::z2::r)))=true↔(l=0\/s=2)/\((decide (mxI l s=0)||chB rs z z2)&&vfB rs (z::z2::r))=true
  simp only[E1,Bool.or_eq_true,B3]
  rw[←e0,←e2]
  unfold mxI
  constructor
  ·rintro ⟨a,b,c⟩
   refine⟨a,?_,c⟩
   rcases a with a|a<;>rcases b with b|b
   ·left;split<;>lia
   ·exact .inr b
   ·lia
   ·exact .inr b
  ·rintro ⟨a,b,c⟩
   refine⟨a,?_,c⟩
   rcases b with b|b
   ·left;split at b<;>lia
   ·exact .inr b
def gP(rs:List (List Str))(g:Str)(ps:List (Str×Str))(q:List Str)(h:Str)(l:Int)(w:List Str):Prop:=∃r,w=q ++h::r/\SW g ps (h::r)/\(∀y∈r,y∉q)/\gnB rs l (h::r)=true
theorem zkQ(q:List Str)(l:Int)(w:List Str):gP rs g ps q g l w↔w=q ++ [g]:=by
 constructor
 ·rintro ⟨r,rfl,sw,_,_⟩
  rw[sw.at_goal]
 ·rintro rfl
  exact⟨[],rfl,SW.goal,(λ_ z=>nomatch z),rfl⟩
theorem zps(t:KinT g rs hs ps)(k:KinOk rs)(ne:h≠g)(hq:h∉q)(l0:0<=l)(w:List Str):gP rs g ps q h l w↔∃s z,(s,z)∈rs.filterMap (stp h)/\z∉q ++ [h]/\(l=0\/s=2)/\gP rs g ps (q ++ [h]) z (mxI l s) w:=by
 constructor
 ·rintro ⟨r,rfl,sw,dj,gn⟩
  cases r with
  |nil=>exact absurd sw.one ne
  |cons z r=>
   obtain⟨h1,h2,h3⟩:=sw.tail
   have nz:h≠z:=λe=>h2 (by rw[e];exact Q0)
   obtain⟨s,hs⟩:=zod t k h3 nz
   have F:=zot t k hs
   obtain⟨g1,g2⟩:=(zlg F l0 r).mp gn
   refine⟨s,z,hs,λe=>?_,g1,r,`j3,h1,λy hy e=>?_,g2⟩
   ·rcases F1.mp e with e|e
    ·exact dj z Q0 e
    ·exact nz (K0.mp e).symm
   ·rcases F1.mp e with e|e
    ·exact dj y (V0 _ hy) e
    ·exact h2 (by rw[←K0.mp e];exact V0 _ hy)
 ·rintro ⟨s,z,hs,nz,g1,r,rfl,h1,dj,g2⟩
  have F:=zot t k hs
  have hz:h∉z::r:=λe=>by
   rcases R0.mp e with e|e
   ·exact nz (by rw[←e];simp)
   ·exact dj h e `j3
  refine⟨z::r,`j3,SW.cons h1 hz F.tie,λy hy e=>?_,(zlg F l0 r).mpr ⟨g1,g2⟩⟩
  rcases R0.mp hy with rfl|hy
  ·exact nz (W1 _ e)
  ·exact dj y hy (W1 _ e)
theorem zm4(hg:g∈hs)(hp:∀p∈ps,p.1∈hs/\p.2∈hs)(sp:zdA ps)(h10:hs.length<=10)(nd:L.Nodup)(m:∀w∈L,gP rs g ps q h l w):L.length<=320:=by
 have:=(zdT hg hp sp (L:=L.map (List.drop q.length)) (V2.mpr (nd.imp_of_mem λ{a b} ha hb n e=>?_)) λw hw=>?_).1
 ·rw[C0] at this;lia
 ·obtain ⟨r,rfl,_⟩:=m a ha
  obtain⟨r',rfl,_⟩:=m b hb
  rw[List.drop_left,List.drop_left] at e
  rw[e] at n;exact n rfl
 ·obtain ⟨w',hw',rfl⟩:=X0.mp hw
  obtain⟨r,rfl,sw,_⟩:=m w' hw'
  rw[List.drop_left];exact sw
def gS(rs:List (List Str))(g:Str)(ps:List (Str×Str))(q:List Str)(h:Str)(l:Int)(S:List (Int×Str))(w:List Str):Prop:=∃s z,(s,z)∈S/\z∉q ++ [h]/\(l=0\/s=2)/\gP rs g ps (q ++ [h]) z (mxI l s) w
theorem zek{S:List (Int×Str)}{w:List Str}:gS rs g ps q h l (S ++ [(s,z)]) w↔gS rs g ps q h l S w\/(z∉q ++ [h]/\(l=0\/s=2)/\gP rs g ps (q ++ [h]) z (mxI l s) w):=by
 constructor
 ·rintro ⟨s',z',hm,a,b,c⟩
  rcases F1.mp hm with hm|hm
  ·exact .inl ⟨s',z',hm,a,b,c⟩
  ·cases K0.mp hm;exact .inr ⟨a,b,c⟩
 ·rintro (⟨s',z',hm,a,b,c⟩|⟨a,b,c⟩)
  ·exact ⟨s',z',W1 _ hm,a,b,c⟩
  ·exact ⟨s,z,O0 _ (K0.mpr rfl),a,b,c⟩
theorem zlx{w:List Str}{z':Str}{l l':Int}(a:gP rs g ps q z l w)(b:gP rs g ps q z' l' w):z=z':=by
 obtain⟨r,rfl,_⟩:=a
 obtain⟨r',e,_⟩:=b
 have:=List.append_cancel_left e
 injection this
end
noncomputable def zdi(n:Nat):Sp:=λvs H Q _=>∃(p pw:Addr) (us:List V) (g:Str) (hs:List Str) (ps:List (Str×Str)) (rs:List (List Str)) (q:List Str) (h:Str) (l:Int),vs=[.ref p, .str g, .ref pw, .int l]/\H p=some (.tup us)/\zH H us rs/\KinOk rs/\rs.length<=20/\KinT g rs hs ps/\(∀p∈ps,p.1∈hs/\p.2∈hs)/\zdA ps/\hs.length<=10/\g∈hs/\H pw=some (.tup ((q ++ [h]).map V.str))/\(q ++ [h]).Nodup/\(∀y∈q ++ [h],y∈hs)/\0<=l/\hs.length<(q ++ [h]).length+n/\
 ∀(lf:Addr) (us':List V) (L:List (List Str)) (H':Hp),H lf=none->H' lf=some (.lst us')->AtG zeb H' us' L->L.Nodup->(∀w,w∈L↔gP rs g ps q h l w)->Same H H'->Q (.ref lf) H'
theorem zpd{Oa:Hp->Addr->α->Prop}{us:List V}{R R':List α}(h:AtG Oa H us R)(h':AtG Oa H us' R'):AtG Oa H (us ++us') (R ++R'):=by
 refine⟨by rw[Z0,Z0,h.1,h'.1],λi v e z1 z2=>?_⟩
 rcases D1 i us.length with c|c
 ·rw[N1 c] at z1
  rw[N1 (by rw[←h.1];exact c)] at z2
  exact h.2 i v e z1 z2
 ·rw[L1 c] at z1
  rw[L1 (by rw[←h.1];exact c),←h.1] at z2
  exact h'.2 _ v e z1 z2
theorem zsi{l s a b:Int}{k:Bool->Hp->Prop}(hi:σ[i]?=some (some (.int l)))(hj:σ[j]?=some (some (.int s)))(h:k (decide (l=a)||decide (s=b)) H):tOr (zle (tOp rEq (zl9 i) (tC (.int a)))) (zle (tOp rEq (zl9 j) (tC (.int b)))) σ H k:=by
 by_cases c:l=a
 ·rw[U0 c,Bool.true_or] at h
  exact⟨_,hi,rfl,_,rfl,zbe (by rw[c];exact U0 rfl) h⟩
 ·rw[A1 c,Bool.false_or] at h
  refine⟨_,hi,rfl,_,rfl,zaI (A1 λz=>c (V.int.inj z)) ⟨_,hj,rfl,_,rfl,?_⟩⟩
  rw[show decide (V.int s=V.int b)=decide (s=b)from decide_eq_decide.mpr ⟨V.int.inj,λz=>by rw[z]⟩]
  exact h
theorem zg8(n:Nat)(Y:Ev K mg)(G__law_gone:FnOk P w K mg base CX0 (n+2) Y.a__law_gone Y.d__law_gone z9 (zdi n)):FnOk P w K mg base CX0 (n+2+1) Y.a__law_gone Y.d__law_gone z9 (zdi (n+1)):=by
 have G__law_steps:FnOk P w K mg base CX0 1 Y.a__law_steps Y.d__law_steps zbq zkH:=zox Y
 refine Y._law_gone.fn.okQ zbc (λvs H Q E h=>?_) `V3
 ·obtain ⟨p,pw,us,g,hs,ps,rs,q,h,l,rfl,_⟩:=h;rfl
 ·obtain ⟨p,pw,us,g,hs,ps,rs,q,h,l,rfl,hp,T,ko,l20,kt,tin,sp,h10,hg,hpw,nd,mem,l0,ln,qq⟩:=h
  have hat:atI ((q ++ [h]).map V.str) (-1)=some (.str h):=by rw[F2];exact zos _ _
  refine⟨_,(zh (zaX (zK zat (zag zM (qv 2) (zn2 zfc zk)) (qv 1)) (zm (zw (zdo (za (qv 2) zd)))) z8)
   (zh (zE 4 zbc.nd (zdo zd))
   (zh (zbo D3 rfl (zbG (zo G__law_steps (hr.mono ()) Y._law_steps.mg Y._law_steps.kp Y._law_steps.b .nil zu (za (qv 0) (za (zag zM (qv 2) (zn2 zfc zk)) zd)))) (zdr 2 rfl (zx (zn 5 zbc.nd) (zx (zn 6 zbc.nd) zaY))) (zm (zaX (t_w (zqR (zK zhz (qv 6) (qv 2)) (zmx (t_w (zsC (zK zat (qv 3) zk) (zqZ (zK zat (qv 5) zk))))))) (zm (zci (ze9 F3 F.slot_list_extend F.type_list_extend zmg (qv 4) (za (zo G__law_gone hr Y._law_gone.mg Y._law_gone.kp Y._law_gone.b .nil zu (za (qv 0) (za (qv 1) (za (zN zdV (qv 2) (zF (za (qv 6) zd))) (za (zr (zeo rfl) Y.max zg3 (za (qv 3) (za (qv 5) zd))) zd))))) zd)))) z8)))
   (zm (zw (qv 4)))))),?_⟩
  refine⟨_,rfl,1,rfl,pw,_,-1,_,rfl,rfl, .inl (.inl hpw),hat,_,rfl,rfl,_,rfl,?_⟩
  rw[zbi]
  by_cases c:h=g
  ·subst c
   refine zbe (U0 rfl) ⟨_,rfl,few rfl,λlf hlf=>?_⟩
   exact qq lf _ [q ++ [h]] _ hlf zb ⟨rfl,λi v w e1 e2=>by
    cases i with
    |zero=>cases e1;cases e2;exact⟨pw,rfl,Same.new hlf _ _ hpw⟩
    |succ i=>cases e1⟩ `j3 (λw=>by rw[zkQ,K0]) (Same.new hlf)
  ·refine zaI (A1 c) ⟨few rfl,λlf hlf=>?_⟩
   have S1:=Same.new (o:= .lst ([]:List V)) hlf
   have f1:upd H lf (.lst ([]:List V)) lf=some (.lst []):=zb
   generalize upd H lf (.lst ([]:List V))=H1 at *
   refine⟨_,rfl,_,rfl,1,rfl,pw,_,-1,_,rfl,rfl, .inl (.inl (S1 _ _ hpw)),hat,p,us,rs,h,rfl,S1 _ _ hp,z4 T S1,ko.row,l20,λls us1 H2 hls e2 R2 s2=>⟨ls,rfl,⟨_,SqL.of e2⟩,?_⟩⟩
   have f2:=s2 _ _ f1
   have S02:=S1.trans s2
   have nll:ls≠lf:=λz=>by rw[z,f1] at hls;cases hls
   have snd:=zrR ko h
   have hS:=λs z=>zot (s:=s) (z:=z) kt ko (x:=h)
   have us1l:=R2.1
   have hqn:h∉q:=λz=>(X2.mp nd).2.2 h z h (K0.mpr rfl) rfl
   have gstep:=λw=>zps (w:=w) kt ko c hqn l0
   generalize rs.filterMap (stp h)=S at *
   refine zaN (zaO (K:=K) (a:=ls) (xs:=us1)) (λi σ' H'=>(∃o5 o6,σ'=[some (.ref p),some (.str g),some (.ref pw),some (.int l),some (.ref lf),o5,o6])/\H' ls=some (.lst us1)/\(∃us' L,H' lf=some (.lst us')/\AtG zeb H' us' L/\L.Nodup/\∀w,w∈L↔gS rs g ps q h l (S.take i) w)/\(∀c xs,H2 c=some (.tup xs)->H' c=some (.tup xs))/\Same H H') ?_ ?_ ?_ ?_
   ·refine ⟨⟨_,_,rfl⟩,e2,⟨[],[],f2,⟨rfl,λi v w e=>by cases e⟩,List.nodup_nil,λw=>⟨λz=>(nomatch z),λ⟨s,z,hm,_⟩=>?_⟩⟩,λc xs e=>e,S02⟩
    rw[List.take_zero] at hm;cases hm
   ·exact λi σ' H' z=>SqL.of z.2.1
   ·rintro i y σ' H3 hi hy ⟨⟨o5,o6,rfl⟩,e3,⟨us',L,f3,R3,nd3,m3⟩,k3,s03⟩
    have hi':i<S.length:=()
    have eS:S[i]?=some S[i]:=D0 hi'
    obtain⟨t,rfl,ht⟩:=R2.2 i y S[i] hy eS
    have tk:S.take (i+1)=S.take i ++ [S[i]]:=by rw[D2,eS];rfl
    have hm:=Z2 hi'
    have fresh:∀s' z',(s',z')∈S.take i->z'≠S[i].2:=λs' z' hm' e=>by
     obtain⟨j,hj,ej⟩:=E2 hm'
     rw[C2] at hj
     rw[List.getElem_take] at ej
     have:=zgz snd (show(S.map (·.2))[j]?=some S[i].2 by rw[N0,D0 (),ej];exact congrArg some e) (show(S.map (·.2))[i]?=some S[i].2 by rw[N0,eS];rfl)
     lia
    rw[tk]
    obtain⟨st,z,ez⟩:∃(st:Int) (z:Str),(st,z)=S[i]:=⟨S[i].1,S[i].2,rfl⟩
    rw[←ez] at hm fresh ht⊢
    have F:=hS _ _ hm
    have ht:H2 t=some (.tup [.int st, .str z]):=ht
    refine⟨t,_,rfl, .inl (.inl (k3 _ _ ht)),rfl,_,_,rfl,_,_,rfl,rfl,?_⟩
    have hpw3:=s03 _ _ hpw
    refine⟨_,rfl,_,rfl,pw,_,rfl, .inr (.inl (.inl hpw3)),rfl,zda,_,rfl,?_⟩
    have ein:inV (.str z) ((q ++ [h]).map V.str)=decide (z∈q ++ [h]):=by
     rw[zdc,Bool.eq_iff_iff,List.any_eq_true,B3]
     exact⟨λ⟨y,hy,e⟩=>(Y0 e)▸hy,λz=>⟨_,z,U0 rfl⟩⟩
    rw[ein]
    by_cases cz:z∈q ++ [h]
    ·rw[U0 cz]
     refine zaI rfl (zaI rfl ⟨⟨_,_,rfl⟩,e3,⟨us',L,f3,R3,nd3,λw=>(m3 w).trans ⟨λx=>zek.mpr (.inl x),λx=>(zek.mp x).resolve_right λx=>x.1 cz⟩⟩,k3,s03⟩)
    rw[A1 cz]
    refine zbe rfl ?_
    have hz:z∈hs:=by
     have:=tin _ F.tie
     rcases zaw.two h z with e|e
     ·rw[e] at this;exact this.2
     ·rw[e] at this;exact this.1
    refine zsi rfl rfl ?_
    by_cases cg:l=0\/st=2
    ·refine zbe (by simpa using cg) ?_
     refine⟨_,rfl, .inl ⟨rfl,_,SqL.of f3⟩,_,rfl,_,rfl,_,rfl,_,rfl,few rfl,λpt hpt=>?_⟩
     have S4:=Same.new (o:= .tup [V.str z]) hpt
     refine zfb (xs:=(q ++ [h]).map V.str) (ys:=[V.str z]) (S4 _ _ hpw3) zb (by rw[C0,List.length_singleton];have:=zD nd mem;lia) λpn H4 hpn s4=>?_
     have hpn:H4 pn=some (.tup (((q ++ [h])++ [z]).map V.str)):=by rw[F2 (l₁:=q ++ [h])];exact hpn
     have s34:=S4.trans s4
     have f4:=s34 _ _ f3
     refine⟨_,rfl,_,rfl,l,st,rfl,?_⟩
     have nd':((q ++ [h])++ [z]).Nodup:=X2.mpr ⟨nd,`j3,λa ha b hb e=>cz (by rw[←K0.mp hb,←e];exact ha)⟩
     refine⟨p,pn,us,g,hs,ps,rs,q ++ [h],z,mxI l st,rfl,s34 _ _ (s03 _ _ hp),z4 T (s03.trans s34),ko,l20,kt,tin,sp,h10,hg,hpn,nd',λy hy=>?_,?_,?_,λl2 us2 L2 H5 hl2 f5 R5 nd5 m5 s5=>?_⟩
     ·rcases F1.mp hy with hy|hy
      ·exact mem y hy
      ·rw[K0.mp hy];exact hz
     ·have:=F.rng;unfold mxI;split<;>lia
     ·rw[Z0,List.length_singleton];lia
     ·have s35:=s34.trans s5
      have f5':=s35 _ _ f3
      have nl2:l2≠lf:=λx=>by rw[x,f4] at hl2;cases hl2
      have dj:∀a∈L,∀b∈L2,a≠b:=λa ha b hb e=>by
       subst e
       obtain⟨s',z',hm',_,_,g'⟩:=(m3 a).mp ha
       exact fresh s' z' hm' (zlx g' ((m5 a).mp hb))
      have ndL:(L ++L2).Nodup:=X2.mpr ⟨nd3,nd5,dj⟩
      have mm:∀w,w∈L ++L2↔gS rs g ps q h l (S.take i ++ [(st,z)]) w:=λw=>by
       rw[F1,m3,m5,zek]
       exact⟨λx=>x.imp id λy=>⟨cz,cg,y⟩,λx=>x.imp id λy=>y.2.2⟩
      have lL:=zm4 (l:=l) (q:=q) (h:=h) hg tin sp h10 ndL λw hw=>(gstep w).mpr (by
       obtain⟨s',z',hm',x⟩:=(mm w).mp hw
       refine⟨s',z',?_,x⟩
       rcases F1.mp hm' with y|y
       ·exact List.mem_of_mem_take y
       ·rw[K0.mp y];exact hm)
      rw[Z0] at lL
      have lu3:=R3.1
      have lu5:=R5.1
      have up:∀c xs,H5 c=some (.tup xs)->upd H5 lf (.lst (us' ++us2)) c=some (.tup xs):=λc xs e=>by rw[zc (zak e f5' (λz=>nomatch z))];exact e
      refine⟨lf,l2,us',us2,rfl,rfl,f5',f5,A3 (zj ()),⟨_,_,rfl⟩,by rw[zc nll];exact s35 _ _ e3,⟨us' ++us2,L ++L2,zb,zpd (AtG.mono R3 (λc e x=>up _ _ (s35 _ _ x))) (AtG.mono R5 (λc e x=>up _ _ x)),ndL,mm⟩,λc xs e=>up _ _ (s35 _ _ (k3 _ _ e)),λc o e=>?_⟩
      rw[zc (zi e hlf)]
      exact s35 _ _ (s03 _ _ e)
    ·refine zaI (by simpa using cg) ⟨⟨_,_,rfl⟩,e3,⟨us',L,f3,R3,nd3,λw=>(m3 w).trans ⟨λx=>zek.mpr (.inl x),λx=>(zek.mp x).resolve_right λx=>cg x.2.1⟩⟩,k3,s03⟩
   ·rintro σ' H3 ⟨⟨o5,o6,rfl⟩,e3,⟨us',L,f3,R3,nd3,m3⟩,k3,s03⟩
    rw[us1l,P2] at m3
    exact⟨_,rfl,qq lf us' L H3 hlf f3 R3 nd3 (λw=>(m3 w).trans (gstep w).symm) s03⟩
theorem znZ(Y:Ev K mg):FnOk P w K mg base CX0 2 Y.a__law_gone Y.d__law_gone z9 (zdi 0):=by
 refine Y._law_gone.fn.okQ zbc (λvs H Q E h=>?_) `V3
 ·obtain ⟨p,pw,us,g,hs,ps,rs,q,h,l,rfl,_⟩:=h;rfl
 ·obtain ⟨p,pw,us,g,hs,ps,rs,q,h,l,rfl,_,_,_,_,_,_,_,_,_,_,nd,mem,_,ln,_⟩:=h
  have:=zD nd mem
  lia
theorem ziE(Y:Ev K mg):∀n,FnOk P w K mg base CX0 (n+2) Y.a__law_gone Y.d__law_gone z9 (zdi n)
 |0=>znZ Y
 |n+1=>by
  rw[show n+1+2=n+2+1 by lia]
  exact zg8 n Y (ziE Y n)
theorem zpO(Y:Ev K mg):FnOk P w K mg base CX0 13 Y.a__law_gone Y.d__law_gone z9 (zdi 11):=ziE Y 11
noncomputable def zeW(rs:List (List Str))(fk:List (List Key×V)):List Str->Ky
 |x::z::r=>(-(zbm fk x z+if [x,z,"over"]∈rs then 100 else 0),((x::z::r).length:Int),x::z::r)
 |w=>(0,1,w)
noncomputable def zoq:Sp:=λvs H Q _=>∃(p f pw:Addr) (us:List V) (rs:List (List Str)) (fk:List (List Key×V)) (w:List Str),vs=[.ref p, .ref f, .ref pw]/\H p=some (.tup us)/\zH H us rs/\(∀r∈rs,zbB r=true)/\rs.length<=20/\H f=some (.dT fk)/\zcZ fk/\H pw=some (.tup (w.map V.str))/\1<=w.length/\w.length<=20/\(∀y∈w,zf y=true)/\∀(b:Addr) (H':Hp),KeyO H' b (zeW rs fk w)->Same H H'->Q (.ref b) H'
theorem zrB(Y:Ev K mg):FnOk P w K mg base CX0 2 Y.a__law_key Y.d__law_key zck zoq:=by
 have G__law_is_child:FnOk P w K mg base CX0 1 Y.a__law_is_child Y.d__law_is_child zaA zdO:=zid Y
 refine Y._law_key.fn.okQ zfj (λvs H Q E h=>?_) `V3
 ·obtain ⟨p,f,pw,us,rs,fk,w,rfl,_⟩:=h;rfl
 ·obtain ⟨p,f,pw,us,rs,fk,w,rfl,hp,T,hrow,l20,hf,hk,hpw,w1,w20,hn,q⟩:=h
  have ok:∀y∈w,PyData.strOk y=true:=λy hy=>zaa (hn y hy)
  refine⟨_,(zh (zaX (zK zat (zr zQ Y.len zaP (za (qv 2) zd)) zk) (zm (zw (zF (za zk (za zk (za (qv 2) zd)))))) z8)
   (zh (zE 3 zfj.nd (zN zaF (zkS (hu1 hr) (qv 1) (zhu zce (qv 2) zco (zcc zk)) zk) (zN zbl zk (zaf zeC Y.int zjJ (za (zo G__law_is_child (hr.mono ⋯) Y._law_is_child.mg Y._law_is_child.kp Y._law_is_child.b .nil zu (za (qv 0) (za (zag zM (qv 2) zk) (za (zag zM (qv 2) zk) zd)))) zd)))))
   (zm (zw (zF (za (zN zj2 zk (qv 3)) (za (zr zQ Y.len zaP (za (qv 2) zd)) (za (qv 2) zd)))))))),?_⟩
  refine⟨_,rfl, .inl ⟨pw,_,rfl, .inr (.inl (.inl hpw)),rfl,_,rfl,zd9 (λel=>?_) (λel=>?_)⟩⟩
  ·have el:=V.int.inj (Y0 el)
   have l1:w.length=1:=by rw[C0] at el;lia
   obtain⟨x,rfl⟩:∃x,w=[x]:=by
    match w,l1 with
    |[x],_=>exact ⟨x,rfl⟩
   exact⟨_,rfl,few rfl,λb hb=>q b _ ⟨pw,zb,Same.new hb _ _ hpw,ok⟩ (Same.new hb)⟩
  ·have nl:w.length≠1:=λz=>el (U0 (by rw[C0,z];rfl))
   obtain⟨x,z,r,rfl⟩:∃x z r,w=x::z::r:=by
    match w,w1,nl with
    |x::z::r,_,_=>exact ⟨x,z,r,rfl⟩
    |[x],_,n=>exact absurd rfl n
   refine⟨_,rfl,f,rfl, .inr ⟨_, .inl hf⟩,_,rfl,2,rfl,zb6 hpw λp3 H3 e3 s3=>?_⟩
   have e3:H3 p3=some (.tup [V.str x,V.str z]):=e3
   refine⟨_,DGet.t (k:=[Sum.inr x,Sum.inr z]) (s3 _ _ hf) e3,?_⟩
   obtain⟨fe,f0,f9⟩:=zfx hk x z
   rw[fe]
   have hpw3:=s3 _ _ hpw
   refine⟨_,rfl,_,rfl,pw,_,0,_,rfl,rfl, .inl (.inl hpw3),at0,_,rfl,pw,_,1,_,rfl,rfl, .inl (.inl hpw3),at1,p,us,rs,x,z,rfl,s3 _ _ hp,zd8 T s3,hrow,(),hn x `j3,hn z `j3,λH4 s4=>?_⟩
   have hpw4:=s4 _ _ hpw3
   refine .inr ⟨_,rfl,?_⟩
   have fin:∀c:Int,c=(if [x,z,"over"]∈rs then 100 else 0)->∀(b:Addr) (hb:H4 b=none),Q (.ref b) (upd H4 b (.tup [.int (0 -(zbm fk x z+c)), .int (((x::z::r).map V.str).length:Nat), .ref pw])):=λc hc b hb=>by
    refine q b _ ⟨pw,?_,Same.new hb _ _ hpw4,ok⟩ ((s3.trans s4).trans (Same.new hb))
    rw[zb,hc,Int.zero_sub,C0]
    rfl
   by_cases c:[x,z,"over"]∈rs
   ·rw[U0 c]
    refine⟨100,1,rfl,rfl, .inl ⟨⋯,⋯⟩,_,_,rfl,rfl,?_⟩
    exact⟨_,rfl,_,_,rfl,rfl,_,rfl, .inl ⟨pw,_,rfl, .inr (.inl (.inl hpw4)),_,rfl,few rfl,λb hb=>fin 100 (c0 c).symm b hb⟩⟩
   ·rw[A1 c]
    refine⟨100,0,rfl,rfl, .inl ⟨⋯,⋯⟩,_,_,rfl,rfl,?_⟩
    exact⟨_,rfl,_,_,rfl,rfl,_,rfl, .inl ⟨pw,_,rfl, .inr (.inl (.inl hpw4)),_,rfl,few rfl,λb hb=>fin 0 (P0 c).symm b hb⟩⟩
theorem znO{t:List Str}(hl:t.length<=13)(hn:∀y∈t,zf y=true):Shw 1095 2 (.tup (t.map D.str)):=zql (ds:=t.map D.str) (c:=82) (k:=1) 13 (by rw[C0];exact hl) λd hd=>by obtain⟨y,hy,rfl⟩:=X0.mp hd;exact zny (hn y hy)
theorem zeK{c:Nat}:∀(ts:List Str) (k:Nat) (acc:Str),(∀t∈ts,t.length<=c)->(textFrom k acc ts).length<=acc.length+ts.length*(c+2)
 |[],k,acc,_=>by show acc.length<=_;lia
 |t::r,k,acc,h=>by
  have h1:=zeK r (k+1) (acc ++(if k>0 then", "else "":String)++t) λu hu=>h u (V0 _ hu)
  have e:(acc ++(if k>0 then", "else "":String)++t).length<=acc.length+2+t.length:=by
   rw[zcd,zcd]
   have:(Str.ofString (if k>0 then", "else "":String)).length<=2:=by split<;>decide
   lia
  have ht:=h t Q0
  show(textFrom (k+1) _ r).length<=acc.length+(r.length+1)*(c+2)
  rw[Nat.succ_mul]
  lia
noncomputable def zf2(ws:List (List Str)):PyData:= .list (ws.map λw=> .tuple (zt w))
structure WsOk(ws:List (List Str)):Prop where
 few:ws.length<=32
 len:∀w∈ws,w.length<=10
 nm:∀w∈ws,∀y∈w,zf y=true
theorem zhI{w:List Str}:pyD (.tup (w.map D.str))= .tuple (zt w):=by
 rw[pyD,zdb,G3]
 unfold zt
 exact congrArg PyData.tuple (List.map_congr_left λx _=>by show pyD (.str x)=_;rw[pyD])
theorem zmU{ws:List (List Str)}(h:WsOk ws):(zf2 ws).showable=true/\(zf2 ws).depth<=60/\(zf2 ws).shown.length<=sizeLine:=by
 have sh:∀w∈ws,Shw 1095 2 (.tup (w.map D.str)):=λw hw=>znO (by have:=h.len w hw;lia) (h.nm w hw)
 unfold zf2
 refine⟨?_,?_,?_⟩
 ·rw[PyData.showable]
  exact showableAll_of λx hx=>by obtain⟨w,hw,rfl⟩:=X0.mp hx;rw[←zhI];exact(sh w hw).2.1
 ·rw[PyData.depth]
  have:=zcM (n:=2) (xs:=ws.map λw=> .tuple (zt w)) λx hx=>by obtain⟨w,hw,rfl⟩:=X0.mp hx;rw[←zhI];exact(sh w hw).2.2.1
  lia
 ·rw[PyData.shown,zcx,G3]
  unfold listText
  rw[zcd]
  have:=zeK (c:=1095) (ws.map (PyData.shown∘λw=> .tuple (zt w))) 0 "[" λt ht=>by
   obtain⟨w,hw,rfl⟩:=X0.mp ht
   show(PyData.shown (.tuple (zt w))).length<=_
   rw[←zhI];exact(sh w hw).2.2.2
  rw[C0] at this
  have l1:("[":Str).length=1:=rfl
  have l2:(Str.ofString "]").length=1:=rfl
  have l2':("]":Str).length=1:=rfl
  have f:=h.few
  have:ws.length*(1095+2)<=32*1097:=Nat.mul_le_mul_right _ f
  refine B2 (m:=40000) ?_ (Nat.le_of_ble_eq_true rfl)
  lia
theorem zld{us:List V}{ws:List (List Str)}(e:H l=some (.lst us))(a:AtG zeb H us ws)(h:WsOk ws):Tr H (.ref l) (zf2 ws):=by
 refine .lst e (by rw[C0];exact a.1) λi v d e1 e2=>?_
 rw[N0] at e2
 cases ew:ws[i]? with
 |none=>rw[ew] at e2;cases e2
 |some w=>
  rw[ew] at e2
  cases e2
  obtain⟨b,rfl,o⟩:=a.2 i v w e1 ew
  exact zbX o λx hx=>zaa (h.nm w (B1 ew) x hx)
theorem zrG{ws:List (List Str)}(T:TownOk g hs ps lks hds)(sp:zdA ps)(h:Due g hs ps lks hds x ws):WsOk ws:=by
 have tin:∀p∈ps,p.1∈hs/\p.2∈hs:=λp hp=>⟨(T.ties p hp).1,(T.ties p hp).2.1⟩
 rcases h with⟨rfl,rfl⟩|⟨hx,ks,pw,mem,rfl⟩
 ·exact ⟨(by decide:1<=32),λw hw=>by rw[K0.mp hw];exact(by decide:1<=10),λw hw y hy=>by rw[K0.mp hw] at hy;rw[K0.mp hy];exact T.names _ T.goal⟩
 ·have sw:∀w∈ks.map (·.2.2),SW g ps w/\w.head?=some x:=λw hw=>by
   obtain⟨k,hk,rfl⟩:=X0.mp hw
   obtain⟨r,m,rfl,s1,_⟩:=(mem k).mp hk
   exact⟨s1,rfl⟩
  have nd:(ks.map (·.2.2)).Nodup:=by
   refine V2.mpr ?_
   have pw':ks.Pairwise (λa b=>(zsh g ps (zp hs lks hds) (zW hs lks x) x a/\zsh g ps (zp hs lks hds) (zW hs lks x) x b)/\ltK a b=true):=by
    refine List.Pairwise.imp_of_mem (λ{a b} ha hb h=>⟨⟨(mem a).mp ha,(mem b).mp hb⟩,h⟩) pw
   refine pw'.imp λ{a b} ⟨⟨ha,hb⟩,hl⟩ z=>?_
   obtain⟨r,m,rfl,s1,e1⟩:=ha
   obtain⟨r',m',rfl,s2,e2⟩:=hb
   have z:x::r=x::r':=z
   cases z
   rw[e1] at e2
   cases e2
   rw[zdf] at hl;cases hl
  have f:=(zdT T.goal tin sp nd λw hw=>(sw w hw).1).2 x
  rw[List.filter_eq_self.mpr λw hw=>U0 (sw w hw).2] at f
  exact⟨f,λw hw=>B2 (zD (sw w hw).1.nd (SW.mem T.goal tin (sw w hw).1)) T.ten,λw hw y hy=>T.names y (SW.mem T.goal tin (sw w hw).1 y hy)⟩
theorem zki(hy:zf y=true):zO (.tup [.str "from", .str y])=true:=by
 show(if("from":Str)="not"then zG (.str y)else zG (.tup [.str "from", .str y]))=true
 rw[P0 ⋯];exact zdP ⋯ hy
theorem zsJ(hy:zf y=true):zO (.tup [.str "to", .str y])=true:=by
 show(if("to":Str)="not"then zG (.str y)else zG (.tup [.str "to", .str y]))=true
 rw[P0 ⋯];exact zdP ⋯ hy
theorem zpg(hk:zcZ fk)(hy:zf y=true):zZ (klD rs fk x y)=true:=by
 obtain⟨_,f0,f9⟩:=zfx hk x y
 unfold klD
 have e:∃n:Int,zbm fk x y+(if [x,y,"over"]∈rs then 100 else 0)=n/\0<=n/\n<=999:=⟨_,rfl,by split<;>lia,by split<;>lia⟩
 obtain⟨n,en,n0,n9⟩:=e
 rw[en,zls]
 have h1:zai (.tup [.tup [.str "from", .str y]])=true:=by
  show(decide (1<=4)&&(zO (.tup [.str "from", .str y])&&true))=true
  rw[zki hy];rfl
 have h2:zdS (.int n)=true:=by
  show(decide (-999<=n)&&decide (n<=999))=true
  rw[U0 (),U0 n9];rfl
 rw[h1,h2];rfl
theorem zpD{a b:Str}(ha:zf a=true)(hb:zf b=true):zcj (khD a b)=true:=by
 unfold khD
 rw[zqe]
 have h1:zai (.tup [.tup [.str "from", .str a], .tup [.str "to", .str b]])=true:=by
  show(decide (2<=4)&&(zO (.tup [.str "from", .str a])&&(zO (.tup [.str "to", .str b])&&true)))=true
  rw[zki ha,zsJ hb];rfl
 rw[h1];rfl
theorem za4(t:KinT g rs hs ps)(h:y∈kNs ps x):y∈hs:=by
 unfold kNs at h
 rw[(zz _).mem_iff,zbH] at h
 rcases h with h|h
 ·exact (t.tin h).1
 ·exact (t.tin h).2
theorem ziV(t:KinT g rs hs ps)(ko:KinOk rs)(hn:∀x∈hs,zf x=true)(h10:hs.length<=10)(hx:x∈hs):(kNs ps x).length<=9:=by
 have T:=t.bare ko hn h10
 have nd:(zb2 ps x).Nodup:=zhg T x
 have nx:x∉zb2 ps x:=λz=>by
  have h:=zbH.mp z
  have:(x,x)∈ps:=h.elim id id
  have:=(T.ties _ this).2.2
  rw[zcn] at this;cases this
 have l:=zD (U1.mpr ⟨nx,nd⟩) (λy hy=>by
  rcases R0.mp hy with e|hy
  ·rw[e];exact hx
  ·exact za4 t (by unfold kNs;rw[(zz _).mem_iff];exact hy))
 rw[Y1] at l
 unfold kNs
 rw[(zz _).length_eq]
 lia
theorem zrO(t:KinT g rs hs ps)(ko:KinOk rs)(hk:zcZ fk)(hn:∀x∈hs,zf x=true)(h10:hs.length<=10):TownOk g hs ps (hs.map (kLk rs fk ps)) (hs.map (kHd rs ps)):=by
 refine t.tok ko hn h10 (C0 _) (C0 _) (λd hd=>?_) λd hd=>?_
 ·obtain ⟨x,hx,rfl⟩:=X0.mp hd
  have l:=ziV t ko hn h10 hx
  show(decide (((kNs ps x).map (klD rs fk x)).length<=90)&&((kNs ps x).map (klD rs fk x)).all zZ)=true
  rw[C0,U0 (),Bool.true_and,C3]
  intro e he
  obtain⟨y,hy,rfl⟩:=X0.mp he
  exact zpg hk (hn y (za4 t hy))
 ·obtain ⟨x,hx,rfl⟩:=X0.mp hd
  have l:=ziV t ko hn h10 hx
  have lo:(zas rs x (kNs ps x)).length<=9:=B2 (List.length_filter_le _ _) l
  have lk:=ze2 (os:=zas rs x (kNs ps x)) (zas rs x (kNs ps x))
  have:(zas rs x (kNs ps x)).length*(zas rs x (kNs ps x)).length<=9*9:=Nat.mul_le_mul lo lo
  show(decide ((khL (zas rs x (kNs ps x)) (zas rs x (kNs ps x))).length<=90)&&(khL (zas rs x (kNs ps x)) (zas rs x (kNs ps x))).all zcj)=true
  rw[U0 (),Bool.true_and,C3]
  intro e he
  obtain⟨a,b,rfl,ha,hb,_⟩:=zc6 e he
  exact zpD (hn a (za4 t (J1.mp ha).1)) (hn b (za4 t (J1.mp hb).1))
theorem zoD(t:KinT g rs hs ps)(hn:∀x∈hs,zf x=true)(h10:hs.length<=10):Pool hs (hs.map (kLk rs fk ps)) (hs.map (kHd rs ps)) hs:=by
 refine⟨(),hn,λx h=>h,λd hd=>?_,λd hd=>?_⟩
 ·obtain ⟨x,hx,rfl⟩:=X0.mp hd
  show((kNs ps x).map (klD rs fk x)).all (zfy hs)=true
  rw[C3]
  intro e he
  obtain⟨y,hy,rfl⟩:=X0.mp he
  refine zgS (λd hd=>?_) rfl
  rw[K0.mp hd]
  exact zcv (zdP ⋯ (hn y (za4 t hy))) (zcG (za4 t hy))
 ·obtain ⟨x,hx,rfl⟩:=X0.mp hd
  show(khL (zas rs x (kNs ps x)) (zas rs x (kNs ps x))).all (zfy hs)=true
  rw[C3]
  intro e he
  obtain⟨a,b,rfl,ha,hb,_⟩:=zc6 e he
  refine zgS (λd hd=>?_) rfl
  simp only[R0,List.not_mem_nil,or_false] at hd
  rcases hd with rfl|rfl
  ·exact zcv (zdP ⋯ (hn a (za4 t (J1.mp ha).1))) (zcG (za4 t (J1.mp ha).1))
  ·exact zcv (zdP ⋯ (hn b (za4 t (J1.mp hb).1))) (zcG (za4 t (J1.mp hb).1))
section
variable{xs:List Str}
theorem zhM(h:i<xs.length):xs[i]?=some (at_ xs i):=by
 rw[D0 h]
 show some xs[i]=some (xs.getD i "")
 rw[List.getD_eq_getElem?_getD,D0 h];rfl
theorem zqF(h:i<xs.length):at_ xs i∈xs:=B1 (zhM h)
theorem zr4{a b:Str}(ne:a≠b):pr a b=l2p (mmS a b):=zbJ (w:="") ne
theorem zj5{a b:Str}:x∈pr a b↔x=a\/x=b:=by
 unfold pr
 rw[(zz _).mem_iff];simp
theorem zm3(sp:zjd xs rs):∀r∈rs,∀x∈r.take 2,x∈xs:=λr hr x hx=>by
 obtain⟨tr,ex,_,htr,_,hall,hrs,_⟩:=sp
 obtain⟨q,hq,e⟩:=hrs r hr
 have:=zdQ.mpr hx
 have b:=hall q hq
 rw[e,zj5] at this
 rcases this with rfl|rfl
 ·exact zqF ()
 ·exact zqF b.2
theorem zjU(sp:zjd xs rs)(nx:xs.Nodup)(t:KinT g rs hs ps)(ko:KinOk rs)(l20:rs.length<=20):zdA ps:=by
 obtain⟨tr,ex,l1,htr,lex,hall,hrs,_⟩:=sp
 refine⟨⟨xs,xs.length,nx,λj=>((tr[j -1]?).map (·.1)).getD 0,tr.map λq=>mmS (at_ xs q.1) (at_ xs q.2),ex.map λq=>mmS (at_ xs q.1) (at_ xs q.2),λp hp=>?_,λp hp=>?_,by rw[C0];exact lex⟩,?_⟩
 ·obtain ⟨r,hr,e⟩:=X0.mp (t.tp.mem_iff.mp (X0.mpr ⟨p,hp,rfl⟩))
  obtain⟨q,hq,e2⟩:=hrs r hr
  rw[e] at e2
  have ne:at_ xs q.1≠at_ xs q.2:=λz=>by
   have h1:p.1∈pr (at_ xs q.1) (at_ xs q.2):=by rw[←e2];exact Q0
   have h2:p.2∈pr (at_ xs q.1) (at_ xs q.2):=by rw[←e2];exact V0 _ Q0
   rw[zj5,z,or_self] at h1 h2
   have:=t.tlt ko hp
   rw[h1,h2,zcn] at this;cases this
  rw[zr4 ne] at e2
  have e2:=zhV e2
  rcases F1.mp hq with h|h
  ·exact .inl (X0.mpr ⟨q,h,e2.symm⟩)
  ·exact .inr (X0.mpr ⟨q,h,e2.symm⟩)
 ·obtain ⟨q,hq,rfl⟩:=X0.mp hp
  obtain⟨i,hi,ei⟩:=E2 hq
  have eq:tr[i]?=some q:=by rw[D0 hi,ei]
  obtain⟨h1,h2⟩:=htr i q eq
  have b:=hall q (W1 _ hq)
  have ep:((tr[q.2 -1]?).map (·.1)).getD 0=q.1:=by rw[h2,Nat.add_sub_cancel_left,eq];rfl
  refine⟨q.2,at_ xs q.2,at_ xs q.1,(),b.2,?_,zhM b.2,?_,zaw.sym _ _⟩
  ·show ((tr[q.2 -1]?).map (·.1)).getD 0<q.2
   rw[ep];exact h1
  ·show xs[((tr[q.2 -1]?).map (·.1)).getD 0]?=_
   rw[ep];exact zhM ()
 ·have:=t.tp.length_eq
  rw[C0,C0] at this
  lia
theorem zkd(sp:zjd xs rs)(t:KinT g rs hs ps)(hg:g∈xs)(x:Str):x∈hs↔x∈xs:=by
 have kin:=zm3 sp
 rw[t.mem]
 constructor
 ·rintro (rfl|⟨r,hr,hx⟩)
  ·exact hg
  ·exact kin r hr x hx
 ·intro hx
  obtain⟨tr,ex,l1,htr,lex,hall,_,htree⟩:=sp
  obtain⟨i,hi,ei⟩:=E2 hx
  have ea:at_ xs i=x:=by have:=zhM hi;rw[D0 hi] at this;rw[←ei];exact(o0 this).symm
  rcases D1 1 xs.length with c|c
  ·have key:∀j (q:Nat×Nat),tr[j]?=some q->x=at_ xs q.1\/x=at_ xs q.2->x=g\/∃r∈rs,x∈r.take 2:=λj q eq h=>by
    obtain⟨r,hr,e⟩:=htree q (B1 eq)
    exact .inr ⟨r,hr,zdQ.mp (by rw[e,zj5];exact h)⟩
   rcases Nat.eq_zero_or_pos i with z|z
   ·have hj:0<tr.length:=()
    have eq:=D0 hj
    obtain⟨h1,h2⟩:=htr 0 _ eq
    exact key 0 _ eq (.inl (by rw[←ea,z];congr 1;lia))
   ·have hj:i -1<tr.length:=()
    have eq:=D0 hj
    obtain⟨h1,h2⟩:=htr (i -1) _ eq
    exact key _ _ eq (.inr (by rw[←ea];congr 1;lia))
  ·left
   obtain⟨j,hj,ej⟩:=E2 hg
   have:i=j:=()
   subst this
   rw[←ei,←ej]
theorem zjZ{w:List Str}:(zeW rs fk w).2.2=w:=by
 match w with
 |[]=>rfl
 |[_]=>rfl
 |_::_::_=>rfl
theorem zqE{w:List Str}:gnB rs 0 w=vfB rs w:=by
 match w with
 |[]=>rfl
 |[_]=>rfl
 |h::z::r=>show ((decide ((0:Int)=0)||chB rs h z)&&vfB rs (h::z::r))=vfB rs (h::z::r);rw[U0 rfl];rfl
theorem zo6(t:KinT g rs hs ps)(ko:KinOk rs)(hn:∀x∈hs,zf x=true)(h10:hs.length<=10)(hx:x∈hs){ks:List Ky}(nd:L.Nodup)(m:∀w,w∈L↔gP rs g ps [] x 0 w)(pm:ks.Perm (L.map (zeW rs fk)))(pw:(L.map (zeW rs fk)).Nodup->ks.Pairwise (λa b=>ltK a b=true)):
 Due g hs ps (hs.map (kLk rs fk ps)) (hs.map (kHd rs ps)) x (ks.map (·.2.2)):=by
 have T:=t.bare ko hn h10
 have hg:=T.goal
 have tin:∀p∈ps,p.1∈hs/\p.2∈hs:=λp hp=>⟨(T.ties p hp).1,(T.ties p hp).2.1⟩
 have lt:∀p∈ps,ltS p.1 p.2=true:=λp hp=>(T.ties p hp).2.2
 by_cases c:x=g
 ·subst c
  have e:L=[[x]]:=by
   have h1:∀w,w∈L↔w=[x]:=λw=>by rw[m,zkQ];rfl
   match L,nd,h1 with
   |[],_,h1=>exact absurd ((h1 [x]).mpr rfl) `j3
   |[a],_,h1=>rw[(h1 a).mp `j3]
   |a::b::L,nd,h1=>
    have:=(h1 a).mp `j3
    have:=(h1 b).mp `j3
    simp_all
  rw[e] at pm
  rw[List.perm_singleton.mp pm]
  exact .inl ⟨rfl,rfl⟩
 ·have ndk:(L.map (zeW rs fk)).Nodup:=V2.mpr (nd.imp λ{a b} n e=>n (by rw[←zjZ (rs:=rs) (fk:=fk) (w:=a),e,zjZ]))
  refine .inr ⟨c,ks,pw ndk,λk=>?_,rfl⟩
  rw[pm.mem_iff,X0]
  have mk:∀{w:List Str},SW g ps w->zp hs (hs.map (kLk rs fk ps)) (hs.map (kHd rs ps)) w=if vfB rs w=true then some [] else none:=λsw=>zeF hg tin lt sw
  have ke:∀r,SW g ps (x::r)->kE (zW hs (hs.map (kLk rs fk ps)) x) (x::r,[])=zeW rs fk (x::r):=λr sw=>by
   cases r with
   |nil=>exact absurd sw.one c
   |cons z r=>
    have h3:=sw.tail.2.2
    have nz:z∈kNs ps x:=by
     unfold kNs
     rw[(zz _).mem_iff,zbH]
     rcases zaw.two x z with e|e
     ·rw[e] at h3;exact .inr h3
     ·rw[e] at h3;exact .inl h3
    unfold kE wI
    rw[zcB (f:=kLk rs fk ps) (k:=λx=>(kNs ps x).map (klD rs fk x)) (λ_=>rfl) hx,zex nz]
    rfl
  constructor
  ·rintro ⟨w,hw,rfl⟩
   obtain⟨r,rfl,sw,_,gn⟩:=(m w).mp hw
   rw[zqE] at gn
   exact⟨r,[],(ke r sw).symm,sw,by rw[mk sw,c0 gn]⟩
  ·rintro ⟨r,m',rfl,sw,e⟩
   rw[mk sw] at e
   by_cases v:vfB rs (x::r)=true
   ·rw[c0 v] at e
    cases e
    exact⟨x::r,(m _).mpr ⟨r,rfl,sw,(λy _ z=>nomatch z),by rw[zqE];exact v⟩,(ke r sw).symm⟩
   ·rw[P0 v] at e;cases e
theorem zlK(t:KinT g rs hs ps)(ko:KinOk rs)(hn:∀x∈hs,zf x=true)(h10:hs.length<=10)(_:x∈hs){ws:List (List Str)}(du:Due g hs ps (hs.map (kLk rs fk ps)) (hs.map (kHd rs ps)) x ws)(w:List Str)(hw:w∈ws):SW g ps w/\zp hs (hs.map (kLk rs fk ps)) (hs.map (kHd rs ps)) w=some []:=by
 have T:=t.bare ko hn h10
 have tin:∀p∈ps,p.1∈hs/\p.2∈hs:=λp hp=>⟨(T.ties p hp).1,(T.ties p hp).2.1⟩
 rcases du with⟨rfl,rfl⟩|⟨_,ks,_,mem,rfl⟩
 ·rw[K0.mp hw]
  exact⟨SW.goal,rfl⟩
 ·obtain ⟨k,hk,rfl⟩:=X0.mp hw
  obtain⟨r,m,rfl,sw,e⟩:=(mem k).mp hk
  refine⟨sw,?_⟩
  show zp _ _ _ (x::r)=_
  rw[zeF T.goal tin (λp hp=>(T.ties p hp).2.2) sw] at e⊢
  by_cases v:vfB rs (x::r)=true
  ·rw[c0 v]
  ·rw[P0 v] at e;cases e
end
theorem KwO.up(t:∀c us,H c=some (.tup us)->H' c=some (.tup us)){b:Addr}{k:Ky}(h:KwO H b k):KwO H' b k:=by
 obtain⟨t0,p,e1,⟨q,e2,e3,ok⟩,e4⟩:=h
 exact⟨t0,p,t _ _ e1,⟨q,t _ _ e2,t _ _ e3,ok⟩,t _ _ e4⟩
theorem zhW{us:List V}(T:zH H us rs)(k:∀c xs,H c=some (.tup xs)->H' c=some (.tup xs)):zH H' us rs:=
 ⟨T.1,λi v q e1 e2=>let ⟨b,e,hb⟩:=T.2 i v q e1 e2;⟨b,e,k _ _ hb⟩⟩
noncomputable def spLaw(K:W.Frag):Sp:=λvs H Q _=>∃(a:Addr) (ns:List Int),vs=[.ref a]/\SqL K H a (ns.map V.int)/\ns.length<=63/\∀H',Q (.bl true) H'
theorem ok_law_of(Y:Ev K mg){fl:Addr}{fdl:FuncData}(FL:Fun K "law" "law" zfz fl fdl):FnOk P w K mg base CX0 14 fl fdl zmD (spLaw K):=by
 have G__law_hand:FnOk P w K mg base CX0 1 Y.a__law_hand Y.d__law_hand zbS (zoj K):=zqa Y
 have G__law_names:FnOk P w K mg base CX0 3 Y.a__law_names Y.d__law_names zbr zi3:=zl6 Y
 have G__law_pick:FnOk P w K mg base CX0 2 Y.a__law_pick Y.d__law_pick zaG (zg6 K):=zhm Y
 have G__law_take:FnOk P w K mg base CX0 1 Y.a__law_take Y.d__law_take z7 zew:=zd2 Y
 have G__law_kin:FnOk P w K mg base CX0 2 Y.a__law_kin Y.d__law_kin zcl zm9:=zpV Y
 have G__law_fond:FnOk P w K mg base CX0 3 Y.a__law_fond Y.d__law_fond zbV zmR:=zoP Y
 have G_kin_town:FnOk P w K mg base CX0 3 Y.a_kin_town Y.d_kin_town zcA zmB:=ziU Y
 have G_lets:FnOk P w K mg base CX0 8 Y.a_lets Y.d_lets zh1 znY:=zpL Y
 have G__law_gone:FnOk P w K mg base CX0 13 Y.a__law_gone Y.d__law_gone z9 (zdi 11):=zpO Y
 have G__law_key:FnOk P w K mg base CX0 2 Y.a__law_key Y.d__law_key zck zoq:=zrB Y
 have G_marks_of:FnOk P w K mg base CX0 7 Y.a_marks_of Y.d_marks_of zcm zgH:=ziQ Y
 refine FL.okQ zcK (λvs H Q E h=>?_) `V3
 ·obtain ⟨a,ns,rfl,_⟩:=h;rfl
 ·obtain ⟨b,ns,rfl,hS,hns,q⟩:=h
  refine⟨_,(zh (zbo D3 rfl (zhp Y.range (za (zr (zeo rfl) Y.max zg3 (za zk (za (zr (zeA rfl) Y.min zg5 (za zk (za (zr zQ Y.len zaP (za (qv 0) zd)) zd))) zd))) zd)) (zn 1 zcK.nd) (zh (zE 2 zcK.nd (zo G__law_hand (hr.mono ⋯) Y._law_hand.mg Y._law_hand.kp Y._law_hand.b .nil zu (za (qv 0) (za (qv 1) zd))))
   (zh (zE 3 zcK.nd (zo G__law_names (hr.mono ⋯) Y._law_names.mg Y._law_names.kp Y._law_names.b .nil zu (za (qv 2) (za (zo G__law_pick (hr.mono ⋯) Y._law_pick.mg Y._law_pick.kp Y._law_pick.b .nil zu (za (qv 2) (za (zhc [V.int 1,V.int 2,V.int 3,V.int 4,V.int 5,V.int 6,V.int 8,V.int 10] `Z3) zd))) zd))))
   (zh (zbW 4 zcK.nd (zo G__law_kin (hr.mono ⋯) Y._law_kin.mg Y._law_kin.kp Y._law_kin.b .nil zu (za (qv 2) (za (qv 3) (za (zo G__law_take (hr.mono ⋯) Y._law_take.mg Y._law_take.kp Y._law_take.b .nil zu (za (qv 2) (za zk zd))) zd)))))
   (zh (zE 5 zcK.nd (zo G__law_pick (hr.mono ⋯) Y._law_pick.mg Y._law_pick.kp Y._law_pick.b .nil zu (za (qv 2) (za (qv 3) zd))))
   (zh (zbW 6 zcK.nd (zo G__law_fond (hr.mono ⋯) Y._law_fond.mg Y._law_fond.kp Y._law_fond.b .nil zu (za (qv 2) (za (qc 4) zd))))
   (zh (zbW 7 zcK.nd (zo G_kin_town (hr.mono ⋯) Y.kin_town.mg Y.kin_town.kp Y.kin_town.b .nil zu (za (qv 5) (za (qc 4) (za (qc 6) zd)))))
   (zh (zE 8 zcK.nd (zo G_lets (hr.mono ⋯) Y.lets.mg Y.lets.kp Y.lets.b .nil zu (za (qc 7) zd)))
   (zh (zaX (zK (zq3 (zjR hr)) (zr (zhf rfl) Y.sorted zah (za (qv 8) zd)) (zr zbu Y.sorted zah (za (qv 3) zd))) (zm (zw zlP)) z8)
   (zm (zbo D3 rfl (zbG (qv 3)) (zn 9 zcK.nd) (zh (zE 10 zcK.nd (zr (zgc (ztu hr)) Y.sorted zah (za (zbz (src:=[none,some 6,some 4]) zkq rfl rfl (zbG (zo G__law_gone (hr.mono ⋯) Y._law_gone.mg Y._law_gone.kp Y._law_gone.b .nil zu (za (qc 4) (za (qv 5) (za (zF (za (qv 9) zd)) (za zk zd)))))) (λ_ _ _ _ _=>(zn 0 zkq.nd)) (λ_ _ _ _ _=>zbn) (λ_ _ _ _ _=>(zF (za (zo G__law_key (hr.mono ⋯) Y._law_key.mg Y._law_key.kp Y._law_key.b .nil zu (za (qc 2) (za (qc 1) (za (qv 0) zd)))) (za (qv 0) zd))))) zd)))
   (zh (zaX (zK zkL (zr (zfM hr.gd (zjR hr)) Y.repr zk9 (za (zdu (hu1 hr) (qv 8) (qv 9)) zd)) (zr (zfM hr.gd (zjR hr)) Y.repr zk9 (za (zbz (src:=[none,none]) zhP rfl rfl (zbG (qv 10)) (λ_ _ _ _ _=>(zgZ (K:=K) 2 rfl rfl (zx (zn 0 zhP.nd) (zx (zn 1 zhP.nd) zaY)))) (λ_ _ _ _ _=>zbn) (λ_ _ _ _ _=>(qv 1))) zd))) (zm (zw zlP)) z8)
   (zm (zaX (zkP (zgJ (zr (zlF rfl) Y.all zsq (za (zbz (src:=[none,some 7]) zkB rfl rfl (zbG (zdu (hu1 hr) (qv 8) (qv 9))) (λ_ _ _ _ _=>(zn 0 zkB.nd)) (λ_ _ _ _ _=>zbn) (λ_ _ _ _ _=>(zcH (zrz (zjR hr)) (zo G_marks_of (hr.mono ⋯) Y.marks_of.mg Y.marks_of.kp Y.marks_of.b .nil zu (za (qc 1) (za (qv 0) zd))) (zF zd)))) zd)))) (zm (zw zlP)) z8)))))))))))))))
   (zm (zw zlP))),?_⟩
  refine⟨_,rfl, .inl ⟨b,_,rfl, .inl hS,_,_,rfl,_,_,rfl,_,rfl,?_,?_,?_⟩⟩
  ·split<;>(try split)<;>lia
  ·rw[C0]
   split<;>(try split)<;>lia
  refine zaN zfR (λi σ' H'=>(∃o1 o2 o3 o4 o5 o6 o7 o8 o9 oA,σ'=[some (.ref b),o1,o2,o3,o4,o5,o6,o7,o8,o9,oA])/\Same H H') ⟨⟨_,_,_,_,_,_,_,_,_,_,rfl⟩,Same.refl H⟩ (λ_ _ _ _=>trivial) ?_ ?_
  ·rintro i y σ' H0 hi rfl ⟨⟨o1,o2,o3,o4,o5,o6,o7,o8,o9,oA,rfl⟩,s0⟩
   have hi':i<1000:=by
    refine A2 hi ?_
    rw[C0]
    split<;>(try split)<;>lia
   refine⟨_,rfl,_,rfl,b,ns,_,rfl,s0.seq hS,(),(),λa H1 ha hH1 s1=>?_⟩
   refine⟨_,rfl,_,rfl,⋯,λpl hpl=>⟨a,0,hH1.new hpl,⋯, .inl ⟨pl,_,rfl,hH1.ne hpl,SqL.of zb,⋯,⋯,λv H2 hv hH2 k2=>?_⟩⟩⟩
   obtain⟨m,rfl,m1,m10⟩:∃m:Nat,v= .int (m:Int)/\1<=m/\m<=10:=by
    simp only[R0,List.not_mem_nil,or_false] at hv
    rcases hv with rfl|rfl|rfl|rfl|rfl|rfl|rfl|rfl
    ·exact ⟨1,rfl,⋯,⋯⟩
    ·exact ⟨2,rfl,⋯,⋯⟩
    ·exact ⟨3,rfl,⋯,⋯⟩
    ·exact ⟨4,rfl,⋯,⋯⟩
    ·exact ⟨5,rfl,⋯,⋯⟩
    ·exact ⟨6,rfl,⋯,⋯⟩
    ·exact ⟨8,rfl,⋯,⋯⟩
    ·exact ⟨10,rfl,⋯,⋯⟩
   have k02:∀c o,c≠a->H0 c=some o->H2 c=some o:=λc o n e=>k2 c o n (Same.new hpl _ _ (s1 _ _ e))
   refine⟨a,_,m,rfl,hH2,⋯,(),λlh xs H3 hlh e3 xl xn xd _ hH3 k3=>?_⟩
   have nla:lh≠a:=hH2.ne hlh
   refine⟨_,rfl,_,rfl,_,rfl,a,_,_,rfl,hH3,⋯,⋯,⋯,λd H4 d0 d6 hH4 k4=>?_⟩
   obtain⟨more,rfl⟩:∃more:Nat,d=(more:Int):=⟨d.toNat,()⟩
   refine⟨a,lh,_,xs,more,rfl,hH4,⋯,k4 _ _ nla e3,nla,(),xd,xn,(), .inr (),λp us rs H5 hp5 T5 ko sp l20 hH5 k5=>?_⟩
   have e5:=k5 _ _ nla (k4 _ _ nla e3)
   refine⟨_,rfl,_,rfl,a,_,hH5,⋯, .inl ⟨lh,_,rfl,nla,SqL.of e5,by rw[C0];lia,by rw[C0];lia,λvg H6 hvg hH6 k6=>?_⟩⟩
   obtain⟨g,hg,rfl⟩:=X0.mp hvg
   have npa:p≠a:=λz=>by obtain⟨_,_,_,e',_⟩:=hH5;rw[z,e'] at hp5;cases hp5
   have tH:∀{G G':Hp} {n:Int},Hand G a n->Keep a G G'->∀c xs,G c=some (.tup xs)->G' c=some (.tup xs):=λh k c xs e=>k _ _ (λz=>by obtain⟨_,_,_,e',_⟩:=h;rw[z,e'] at e;cases e) e
   have t6:=tH hH5 k6
   refine⟨_,rfl,_,rfl,a,p,_,us,rs,rfl,hH6,⋯,t6 _ _ hp5,zhW T5 t6,ko.row,(),λf fk H7 hf0 hf7 fok _ hH7 k7=>?_⟩
   have t7:∀c xs,H5 c=some (.tup xs)->H7 c=some (.tup xs):=λc xs e=>tH hH6 k7 _ _ (t6 _ _ e)
   have hp7:=t7 _ _ hp5
   have T7:=zhW T5 t7
   have e7:=k7 _ _ nla (k6 _ _ nla e5)
   have k07:∀c o,c≠a->H0 c=some o->H7 c=some o:=λc o n e=>k7 c o n (k6 c o n (k5 c o n (k4 c o n (k3 c o n (k02 c o n e)))))
   clear hp5 T5 e5 e3 k3 k4 k5 k6 k7 k02 hH2 hH3 hH4 hH5 hH6 t6 hvg hv
   refine⟨_,rfl,_,rfl,_,rfl,g,p,f,us,rs,fk,xs,rfl,hp7,T7,ko,l20,xn g hg,hg,zm3 sp,(),xn,hf7,fok,λv hs ps H8 hv8 kt s8=>?_⟩
   have hsx:=zkd sp kt hg
   have hsn:hs.Nodup:=kt.rise.imp λ{x y} h z=>by rw[z,zcn] at h;cases h
   have h10:hs.length<=10:=B2 (zD hsn λx hx=>(hsx x).mp hx) ()
   have hn:∀x∈hs,zf x=true:=λx hx=>xn x ((hsx x).mp hx)
   have spz:=zjU sp xd kt ko l20
   have TO0:=zrO kt ko fok hn h10
   have PO:=zoD (fk:=fk) kt hn h10
   have tin:∀p∈ps,p.1∈hs/\p.2∈hs:=λp hp=>⟨(TO0.ties p hp).1,(TO0.ties p hp).2.1⟩
   refine⟨_,rfl,v,g,hs,ps,_,_,hs,rfl,hv8,TO0,PO,spz,λdd ls W H9 hd9 gl du dN s9=>?_⟩
   have s89:=s8.trans s9
   have lz:(ls.map V.ref).length=hs.length:=by rw[C0,gl.len]
   refine⟨_,rfl,dd,_,hs,rfl,hd9,?keys,(),λss l1 pm1 pw1 hl1=>?_⟩
   case keys=>
    unfold zaV
    rw[G3]
    show(hs.zip (ls.map V.ref)).map ((Sum.inr:Str->Key)∘Prod.fst)=_
    rw[←G3,List.map_fst_zip ()]
   have S10:=Same.new (o:= .lst (ss.map V.str)) hl1
   refine⟨_,rfl,lh,xs,rfl, .inl (SqL.of (S10 _ _ (s89 _ _ e7))),(),λts l2 pm2 st2 hl2=>?_⟩
   have S11:=Same.new (o:= .lst (ts.map V.str)) hl2
   have ess:ss=ts:=zgI pw1 (zeg ts st2 (pm2.nodup_iff.mpr xd)) (pm1.trans ((List.perm_ext_iff_of_nodup hsn xd).mpr hsx|>.trans pm2.symm))
   subst ess
   have okS:∀x∈ss,PyData.strOk x=true:=λx hx=>zaa (hn x (pm1.mem_iff.mp hx))
   refine⟨.list (zt ss), .list (zt ss),zkk (S11 _ _ zb) okS,zkk zb okS,B2 (Nat.min_le_left _ _) zjz,?_⟩
   rw[zmP,U0 rfl]
   refine⟨_,rfl,zaI rfl ?_⟩
   have S12:=S10.trans S11
   have e12:=S12 _ _ (s89 _ _ e7)
   refine⟨_,rfl,lh,rfl,⟨_,SqL.of e12⟩,?_⟩
   have hd12:=S12 _ _ hd9
   have gl12:=gl.mono (H'':=upd (upd H9 l1 (.lst (ss.map V.str))) l2 (.lst (ss.map V.str))) (λc us e=>S12 _ _ e) λb a e=>S12 _ _ e
   have s812:=s9.trans S12
   have s712:=s89.trans S12
   have hl12:∀c,(upd (upd H9 l1 (.lst (ss.map V.str))) l2 (.lst (ss.map V.str))) c=none->H9 c=none:=λc e=>S12.free e
   generalize upd (upd H9 l1 (.lst (ss.map V.str))) l2 (.lst (ss.map V.str))=H12 at *
   refine zaN (zaO (K:=K) (a:=lh) (xs:=xs.map V.str)) (λj σ' H'=>(∃o9 oA,σ'=[some (.ref b),some (.int (0+(i:Int))),some (.ref a),some (.ref lh),some (.ref p),some (.str g),some (.ref f),some v,some (.ref dd),o9,oA])/\Same H12 H') ⟨⟨_,_,rfl⟩,Same.refl _⟩ (λj σ' H' z=>SqL.of (z.2 _ _ e12)) ?_ ?_
   ·rintro j y σ' H13 hj hy ⟨⟨o9,oA,rfl⟩,s13⟩
    rw[C0] at hj
    have ej:xs[j]?=some xs[j]:=D0 hj
    have ey:y= .str xs[j]:=by rw[N0,ej] at hy;cases hy;rfl
    subst ey
    have hx:xs[j]∈hs:=(hsx _).mpr (Z2 hj)
    generalize xs[j]=x at *
    have s713:=s712.trans s13
    have wk:=zrG TO0 spz (du x hx)
    have lN:∀w,gP rs g ps [] x 0 w->(∃r,w=x::r/\SW g ps (x::r)):=λw ⟨r,e,sw,_⟩=>⟨r,e,sw⟩
    refine⟨_,rfl,_,rfl,_,rfl,few rfl,λpt hpt=>?_⟩
    have S14:=Same.new (o:= .tup [V.str x]) hpt
    have s714:=s713.trans S14
    refine⟨p,pt,us,g,hs,ps,rs,[],x,0,rfl,s714 _ _ hp7,zhW T7 (λc xs e=>s714 _ _ e),ko,l20,kt,tin,spz,h10,TO0.goal,zb,`j3,λy hy=>?_,⋯,by show hs.length<1+11;lia,λlg usL L H14 hlg eL RL ndL mL sL=>⟨lg,rfl,⟨_,SqL.of eL⟩,?_⟩⟩
    ·rw[K0.mp hy];exact hx
    have s7L:=s714.trans sL
    have lus:=RL.1
    have wok:∀w∈L,1<=w.length/\w.length<=20/\∀y∈w,zf y=true:=λw hw=>by
     obtain⟨r,rfl,sw⟩:=lN w ((mL w).mp hw)
     have mem:=SW.mem TO0.goal tin sw
     exact⟨`j3,by have:=zD sw.nd mem;lia,λy hy=>hn y (mem y hy)⟩
    have l32:L.length<=32:=by
     have f:=(zdT TO0.goal tin spz ndL λw hw=>let ⟨r,e,sw⟩:=lN w ((mL w).mp hw);e▸sw).2 x
     rw[List.filter_eq_self.mpr λw hw=>let ⟨r,e,sw⟩:=lN w ((mL w).mp hw);by rw[e];exact U0 rfl] at f
     exact f
    refine za3 (zaO (K:=K) (a:=lg) (xs:=usL)) (λl i ys σ' H'=>(∃o,σ'=[o,some (.ref f),some (.ref p)])/\AtG KwO H' ys ((L.take i).map (zeW rs fk))/\Same H14 H') ?_ ?_ ?_ ?_
    ·exact λl hl=>⟨⟨_,rfl⟩,⟨rfl,λi v w e=>by cases e⟩,Same.new hl⟩
    ·exact λl i ys σ' H' hl z=>SqL.of (z.2.2 _ _ eL)
    ·rintro l i y ys σ' H15 hl0 hi hy ⟨⟨o,rfl⟩,R15,s15⟩ hl15
     have hi':i<L.length:=()
     have ei:L[i]?=some L[i]:=D0 hi'
     obtain⟨pw,rfl,hpw⟩:=RL.2 i y L[i] hy ei
     have hw:=wok _ (Z2 hi')
     have tk:(L.take (i+1)).map (zeW rs fk)=(L.take i).map (zeW rs fk)++ [zeW rs fk L[i]]:=by rw[D2,ei,F2];rfl
     rw[tk]
     generalize L[i]=w at *
     have hpw:H14 pw=some (.tup (w.map V.str)):=hpw
     have s715:=s7L.trans s15
     refine⟨_,rfl,_,rfl,_,rfl,p,f,pw,us,rs,fk,w,rfl,s715 _ _ hp7,zhW T7 (λc xs e=>s715 _ _ e),ko.row,l20,s715 _ _ hf7,fok,s15 _ _ hpw,hw.1,hw.2.1,hw.2.2,λkb H16 kO s16=>?_⟩
     refine⟨_,rfl,few rfl,λpq hpq=>?_⟩
     have S17:=Same.new (o:= .tup [V.ref kb,V.ref pw]) hpq
     have s17:=s16.trans S17
     have hl17:=s17 _ _ hl15
     have e17:=zb (H:=H16) (a:=pq) (o:= .tup [V.ref kb,V.ref pw])
     have kO17:KeyO _ kb (zeW rs fk w):=KeyO.same kO S17
     generalize upd H16 pq (.tup [V.ref kb,V.ref pw])=H17 at *
     have up:∀c xs,H17 c=some (.tup xs)->upd H17 l (.lst (ys ++ [.ref pq])) c=some (.tup xs):=λc xs e=>by rw[zc (zak e hl17 (λz=>nomatch z))];exact e
     refine⟨hl17,zj (by rw[R15.1,C0,C2];lia),⟨_,rfl⟩,AtG.snoc (AtG.mono R15 λc k h=>KwO.up (λc xs e=>up _ _ (s17 _ _ e)) h) ?_,λc o e=>?_⟩
     ·exact KwO.up up ⟨kb,pw,e17,kO17,by rw[zjZ];exact s17 _ _ (s15 _ _ hpw)⟩
     ·rw[zc (zi e hl0)]
      exact s17 _ _ (s15 _ _ e)
    ·rintro l ys σ' H15 hl0 ⟨⟨o,rfl⟩,R15,s15⟩ hl15
     rw[lus,P2] at R15
     refine⟨l,ys,L.map (zeW rs fk),rfl, .inl (SqL.of hl15),R15,by rw[C0];lia,λks vs' l2 pm pw aS hl2=>?_⟩
     have S16:=Same.new (o:= .lst vs') hl2
     have e16:=zb (H:=H15) (a:=l2) (o:= .lst vs')
     have s716:=(s7L.trans s15).trans S16
     have s1316:=(S14.trans sL).trans (s15.trans S16)
     have aS:=AtG.mono aS (λc k h=>KwO.up (λc xs e=>S16 _ _ e) h)
     generalize upd H15 l2 (.lst vs')=H16 at *
     have ew:ks.map (·.2.2)=W x:=Due.uniq (zo6 kt ko hn h10 hx ndL mL pm pw) (du x hx)
     have gl16:=gl12.mono (H'':=H16) (λc us e=>s1316 _ _ (s13 _ _ e)) λb a e=>s1316 _ _ (s13 _ _ e)
     obtain⟨_,lW,uW,_,_,ev,eW,aW,_⟩:=gl16.get hsn hx
     have trA:=zld eW aW wk
     obtain⟨sh1,sh2,sh3⟩:=zmU wk
     have hd16:=s1316 _ _ (s13 _ _ hd12)
     have dg:DGet H16 dd (.str x) (some (.ref lW)):=by
      have:=DGet.k (k:=Sum.inr x) hd16
      rw[ev] at this;exact this
     have lks:ks.length<=32:=by rw[pm.length_eq,C0];exact l32
     clear R15 S16 hl15 hl2 sL S14 hpt hlg eL RL mL ndL pm pw lus s7L
     refine⟨_,rfl,_,rfl,dd,_,rfl,dg, .inl ⟨lW,zf2 (W x),rfl,trA,sh1,sh2,sh3,?_⟩⟩
     refine⟨_,rfl,l2,rfl,⟨_,SqL.of e16⟩,?_⟩
     have lvs:=aS.1
     refine za3 (zaO (K:=K) (a:=l2) (xs:=vs')) (λl i ys σ' H'=>(∃o1 o2,σ'=[o1,o2])/\AtG zeb H' ys ((ks.take i).map (·.2.2))/\Same H16 H') ?_ ?_ ?_ ?_
     ·exact λl hl=>⟨⟨_,_,rfl⟩,⟨rfl,λi v w e=>by cases e⟩,Same.new hl⟩
     ·exact λl i ys σ' H' hl z=>SqL.of (z.2.2 _ _ e16)
     ·rintro l i y ys σ' H17 hl0 hi hy ⟨⟨o1,o2,rfl⟩,R17,s17⟩ hl17
      have hi':i<ks.length:=()
      have ei:ks[i]?=some ks[i]:=D0 hi'
      obtain⟨pq,rfl,t0,pw,e1,e2,e3⟩:=aS.2 i y ks[i] hy ei
      have tk:(ks.take (i+1)).map (·.2.2)=(ks.take i).map (·.2.2)++ [ks[i].2.2]:=by rw[D2,ei,F2];rfl
      rw[tk]
      have up:∀c xs,H17 c=some (.tup xs)->upd H17 l (.lst (ys ++ [.ref pw])) c=some (.tup xs):=λc xs e=>by rw[zc (zak e hl17 (λz=>nomatch z))];exact e
      refine⟨pq,_,rfl, .inl (.inl (s17 _ _ e1)),rfl,_,_,rfl,_,_,rfl,rfl,?_⟩
      refine⟨_,rfl,hl17,zj (by rw[R17.1,C0,C2];lia),⟨_,_,rfl⟩,AtG.snoc (AtG.mono R17 λc w h=>up _ _ h) (up _ _ (s17 _ _ e3)),λc o e=>?_⟩
      rw[zc (zi e hl0)]
      exact s17 _ _ e
     ·rintro l3 ys σ' H17 hl0 ⟨⟨o1,o2,rfl⟩,R17,s17⟩ hl17
      rw[lvs,P2,ew] at R17
      refine .inl ⟨l3,zf2 (W x),rfl,zld hl17 R17 wk,sh1,sh2,sh3,?_⟩
      refine⟨rfl,_,rfl,zaI `j3 ?_⟩
      have eW17:=s17 _ _ eW
      have dg17:DGet H17 dd (.str x) (some (.ref lW)):=by
       have:=DGet.k (k:=Sum.inr x) (s17 _ _ hd16)
       rw[ev] at this;exact this
      refine⟨_,rfl,_,rfl,dd,_,rfl,dg17,lW,rfl,⟨_,SqL.of eW17⟩,?_⟩
      have luW:=aW.1
      refine za3 (zaO (K:=K) (a:=lW) (xs:=uW)) (λl i ys σ' H'=>(∃o1,σ'=[o1,some v])/\ys=(List.replicate i true).map V.bl/\Same H17 H') ?_ ?_ ?_ ?_
      ·exact λl hl=>⟨⟨_,rfl⟩,rfl,Same.new hl⟩
      ·exact λl i ys σ' H' hl z=>SqL.of (z.2.2 _ _ eW17)
      ·rintro l i y ys σ' H18 hl0 hi hy ⟨⟨o1,rfl⟩,rfl,s18⟩ hl18
       have hi':i<(W x).length:=()
       have ei:(W x)[i]?=some (W x)[i]:=D0 hi'
       obtain⟨pw,rfl,hpw⟩:=aW.2 i y (W x)[i] hy ei
       obtain⟨sw,em⟩:=zlK kt ko hn h10 hx (du x hx) _ (Z2 hi')
       generalize (W x)[i]=w at *
       have hpw:H16 pw=some (.tup (w.map V.str)):=hpw
       have mem:=SW.mem TO0.goal tin sw
       have s1718:=s17.trans s18
       refine⟨_,rfl,_,rfl,v,pw,w,g,hs,ps,_,_,hs,rfl,hv8.same ((s812.trans s13).trans (s1316.trans s1718)),TO0,PO,mem,s1718 _ _ hpw,?_,?_,λu H19 tu s19=>?_⟩
       ·obtain ⟨z,r,rfl⟩:=sw.ne;simp
       ·have:=zD sw.nd mem;lia
       rw[em] at tu
       obtain⟨pm,rfl,hpm⟩:=tu
       refine⟨few rfl,λpe hpe=>?_⟩
       have S20:=Same.new (o:= .tup []) hpe
       have s20:=s19.trans S20
       have tr1:Tr (upd H19 pe (.tup [])) (.ref pm) (.tuple (zt [])):=zbX (S20 _ _ hpm) λ_ z=>nomatch z
       have tr2:Tr (upd H19 pe (.tup [])) (.ref pe) (.tuple (zt [])):=zbX zb λ_ z=>nomatch z
       refine⟨_,_,tr1,tr2,B2 (Nat.min_le_left _ _) zbh,?_⟩
       rw[zbw,U0 rfl]
       refine⟨s20 _ _ hl18,zj (by rw[C0,List.length_replicate];have:=wk.few;lia),⟨_,rfl⟩,?_,λc o e=>?_⟩
       ·rw[List.replicate_succ',F2];rfl
       ·rw[zc (zi e hl0)];exact s20 _ _ (s18 _ _ e)
      ·rintro l4 ys σ' H18 hl0 ⟨⟨o1,rfl⟩,rfl,s18⟩ hl18
       refine⟨l4,_,rfl,SqL.of hl18,_,rfl,?_⟩
       rw[show(List.replicate uW.length true).all id=true by rw[C3];intro b hb;exact List.eq_of_mem_replicate hb]
       refine zaI rfl ⟨⟨_,_,rfl⟩,?_⟩
       exact((s13.trans s1316).trans s17).trans s18
   ·rintro σ' H13 ⟨⟨o9,oA,rfl⟩,s13⟩
    refine⟨⟨_,_,_,_,_,_,_,_,_,_,rfl⟩,λc o e=>?_⟩
    have:=s0 _ _ e
    exact s13 _ _ (s712 _ _ (k07 c o (zi this ha) this))
  ·rintro σ' H0 ⟨⟨o1,o2,o3,o4,o5,o6,o7,o8,o9,oA,rfl⟩,s0⟩
   exact q H0
end
noncomputable def evOf    (F:Fk K) (X:K.In h) (G:h.Ns mainGlobals mg):Ev K mg:={
 v_MOST_LET:=_,m_MOST_LET:=W.mg_of X G F.MOST_LET.a9,r_MOST_LET:=⟨F.MOST_LET.tk9,rfl⟩,
 v_MORE_BY_CHILD:=_,m_MORE_BY_CHILD:=W.mg_of X G F.MORE_BY_CHILD.a9,r_MORE_BY_CHILD:=⟨F.MORE_BY_CHILD.tk9,rfl⟩,
 a_holds:=_,d_holds:=_,holds:=erD F.holds 3 X G rfl (λ_ _ _ _ _ _ _=>(of4 λ_ _ _ _=>⟨_,rfl,rfl⟩)) (λ_ _ _ _ _ _ _=>(of3 λ_ _ _=>⟨_,rfl,rfl⟩)),
 a_all_hold:=_,d_all_hold:=_,all_hold:=erD F.all_hold 3 X G rfl (λ_ _ _ _ _ _ _=>(of4 λ_ _ _ _=>⟨_,rfl,rfl⟩)) (λ_ _ _ _ _ _ _=>(of3 λ_ _ _=>⟨_,rfl,rfl⟩)),
 a_likings_of:=_,d_likings_of:=_,likings_of:=erA F.likings_of X G λ_ _ _ _ _ _=>(of2 λ_ _=>rfl),
 a_hands_of:=_,d_hands_of:=_,hands_of:=erA F.hands_of X G λ_ _ _ _ _ _=>(of2 λ_ _=>rfl),
 a_tied:=_,d_tied:=_,tied:=erA F.tied X G λ_ _ _ _ _ _=>(of2 λ_ _=>rfl),
 a_marks_behind:=_,d_marks_behind:=_,marks_behind:=erA F.marks_behind X G λ_ _ _ _ _ _=>(of2 λ_ _=>rfl),
 a_handed:=_,d_handed:=_,handed:=erA F.handed X G λ_ _ _ _ _ _=>(of4 λ_ _ _ _=>rfl),
 a_worth:=_,d_worth:=_,worth:=erA F.worth X G λ_ _ _ _ _ _=>(of3 λ_ _ _=>rfl),
 a_liking_key:=_,d_liking_key:=_,liking_key:=erA F.liking_key X G λ_ _ _ _ _ _=>(of3 λ_ _ _=>rfl),
 a_most_liked_first:=_,d_most_liked_first:=_,most_liked_first:=erA F.most_liked_first X G λ_ _ _ _ _ _=>(of2 λ_ _=>rfl),
 a_marks_ahead:=_,d_marks_ahead:=_,marks_ahead:=erA F.marks_ahead X G λ_ _ _ _ _ _=>(of4 λ_ _ _ _=>rfl),
 a_marks_of:=_,d_marks_of:=_,marks_of:=erA F.marks_of X G λ_ _ _ _ _ _=>(of2 λ_ _=>rfl),
 a_let_marks:=_,d_let_marks:=_,let_marks:=erA F.let_marks X G λ_ _ _ _ _ _=>(of1 λ_=>rfl),
 a_lets:=_,d_lets:=_,lets:=erA F.lets X G λ_ _ _ _ _ _=>(of1 λ_=>rfl),
 a_ties_of:=_,d_ties_of:=_,ties_of:=erA F.ties_of X G λ_ _ _ _ _ _=>(of1 λ_=>rfl),
 a_is_elder:=_,d_is_elder:=_,is_elder:=erA F.is_elder X G λ_ _ _ _ _ _=>(of3 λ_ _ _=>rfl),
 a_kin_likings:=_,d_kin_likings:=_,kin_likings:=erA F.kin_likings X G λ_ _ _ _ _ _=>(of4 λ_ _ _ _=>rfl),
 a_kin_hands:=_,d_kin_hands:=_,kin_hands:=erA F.kin_hands X G λ_ _ _ _ _ _=>(of3 λ_ _ _=>rfl),
 a_kin_town:=_,d_kin_town:=_,kin_town:=erA F.kin_town X G λ_ _ _ _ _ _=>(of3 λ_ _ _=>rfl),
 a__law_hand:=_,d__law_hand:=_,_law_hand:=erA F._law_hand X G λ_ _ _ _ _ _=>(of2 λ_ _=>rfl),
 a__law_take:=_,d__law_take:=_,_law_take:=erA F._law_take X G λ_ _ _ _ _ _=>(of2 λ_ _=>rfl),
 a__law_pick:=_,d__law_pick:=_,_law_pick:=erA F._law_pick X G λ_ _ _ _ _ _=>(of2 λ_ _=>rfl),
 a__law_names:=_,d__law_names:=_,_law_names:=erA F._law_names X G λ_ _ _ _ _ _=>(of2 λ_ _=>rfl),
 a__law_kin:=_,d__law_kin:=_,_law_kin:=erA F._law_kin X G λ_ _ _ _ _ _=>(of3 λ_ _ _=>rfl),
 a__law_is_child:=_,d__law_is_child:=_,_law_is_child:=erA F._law_is_child X G λ_ _ _ _ _ _=>(of3 λ_ _ _=>rfl),
 a__law_fond:=_,d__law_fond:=_,_law_fond:=erA F._law_fond X G λ_ _ _ _ _ _=>(of2 λ_ _=>rfl),
 a__law_steps:=_,d__law_steps:=_,_law_steps:=erA F._law_steps X G λ_ _ _ _ _ _=>(of2 λ_ _=>rfl),
 a__law_gone:=_,d__law_gone:=_,_law_gone:=erA F._law_gone X G λ_ _ _ _ _ _=>(of4 λ_ _ _ _=>rfl),
 a__law_key:=_,d__law_key:=_,_law_key:=erA F._law_key X G λ_ _ _ _ _ _=>(of3 λ_ _ _=>rfl),
 a_law:=_,d_law:=_,law:=erA F.law X G λ_ _ _ _ _ _=>(of1 λ_=>rfl),
 all:=U2 X G F.z_all,
 dict:=U2 X G F.z_dict,
 enumerate:=U2 X G F.z_enumerate,
 int:=U2 X G F.z_int,
 isinstance:=U2 X G F.z_isinstance,
 len:=U2 X G F.z_len,
 list:=U2 X G F.z_list,
 max:=U2 X G F.z_max,
 min:=U2 X G F.z_min,
 range:=U2 X G F.z_range,
 repr:=U2 X G F.z_repr,
 reversed:=U2 X G F.z_reversed,
 sorted:=U2 X G F.z_sorted,
 str:=U2 X G F.z_str,
 tuple:=U2 X G F.z_tuple,
 zip:=U2 X G F.z_zip}
end L2
open PySem PySem.W PyProof.Rows L2 L2
theorem PySem.Challenge.cw_restways_k66_whole_up_over_down_holds : PySem.Challenge.rw_restways_k66_whole_up_over_down.Holds := by
 refine topE λq loose XP YP d K hdf hd hY F=>walk_of (l:=PySem.Challenge.rw_restways_k66_whole_up_over_down) (n:=63) (k:=14) (x:="_law_script") (CX:=λ_=>CX0) (sp:=λw=>spLaw (K w.params)) rfl (by decide) hdf ⟨rfl,by decide,by decide,rfl⟩ hY (λw mg fa h X G e=>?_) (λ_ _ a ns hl _ hS=>⟨a,ns,rfl,hS,hl,λ_=>rfl⟩) λ_ _ _ _ _ z=>z
 have Y:=evOf (F w) X G
 rw[hd] at e
 cases e.symm.trans Y.law.mg
 refine⟨_,λs v=>?_,λbase _ _=>ok_law_of Y Y.law.fn⟩
 obtain⟨_,_,_,_,_,_,_,_,_,e,_⟩:=Y.law.fn.ex
 rw[e]
 exact .of_eq rfl
