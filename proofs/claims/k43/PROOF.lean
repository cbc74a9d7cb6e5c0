import PyProof.Rows.All
import Wide.All
import OpenK.AllK
import Wide.FinOn
import Lean
import PyProof.EqAt
import PyProof.EqKinds
import PyProof.TupleCall
import KE.KSortTup
import KE.KDictSum
import PyProof.Rows.SortStr
import PyProof.AutoSeq1
import PyProof.ZipIter
import PyProof.Rows.FStr
import PyProof.Rows.FStrParts
import PyProof.AttrMissHeap
import KE.KDictOf
import PyProof.StrCalls
import KE.KStrOpen
import KE.KRevIter
import PyProof.WalkInts
import KE.KDictList
import PyProof.Rows.SetFrom
import PyProof.SetRoads
import PyProof.DictCompW
import PyProof.DictItems
import KE.KPairComp
import KE.KEqDict
import PyProof.Rows.Range3
import PyProof.WalksMore
import PyProof.DictWalks
import KE.KMinKey
import PyProof.ExcAttrAll.ValueError
import KE.KIsAll
import PySem.Challenge.RW_restways_k43_runs_refuse
abbrev C0:=@PySem.wpAny_bind
abbrev D0:=@List.length_map
abbrev F0:=@List.getElem?_eq_getElem
abbrev G0:=@PySem.Heap.get?_push_of_some
abbrev K0:=@PySem.wpAny_pure
abbrev N0:=@if_neg
abbrev O0:=@PySem.Heap.get?_push_size
abbrev P0:=@Nat.le_refl
abbrev Q0:=@List.getElem?_eq_none
abbrev R0:=@if_pos
abbrev S0:=@of_decide_eq_true
abbrev U0:=@List.getElem?_map
abbrev V0:=@PySem.Heap.lt_size
abbrev W0:=@Bool.and_eq_true
abbrev X0:=@List.mem_cons
abbrev Y0:=@decide_eq_true
abbrev Z0:=@List.size_toArray
abbrev b0:=@List.mem_cons_of_mem
abbrev D1:=@List.mem_of_getElem?
abbrev E1:=@decide_eq_false
abbrev F1:=@List.length_append
abbrev J1:=@List.length_cons
abbrev K1:=@List.mem_cons_self
abbrev L1:=@Bool.false_ne_true
abbrev N1:=@List.mem_append_right
abbrev O1:=@Nat.lt_of_lt_of_le
abbrev P1:=@Nat.ne_of_lt
abbrev U1:=@Option.some.inj
abbrev V1:=@Nat.le_trans
abbrev W1:=@Nat.zero_le
abbrev X1:=@List.getElem?_eq_some_iff
abbrev Y1:=@Nat.lt_or_ge
abbrev Z1:=@List.map_cons
abbrev y1:=@List.mem_map
abbrev C2:=@List.mem_singleton
abbrev D2:=@PySem.wpAny_newObj_type
abbrev E2:=@List.not_mem_nil
abbrev F2:=@List.all_eq_true
abbrev J2:=@List.length_take
abbrev K2:=@List.getElem_of_mem
abbrev N2:=@PySem.W.mg_none_of
abbrev O2:=@List.mem_filter
abbrev P2:=@List.getElem?_append_right
abbrev Q2:=@List.mem_append
abbrev U2:=@List.nodup_cons
abbrev V2:=@List.getElem?_append_left
abbrev W2:=@PySem.wpAny_mono
abbrev X2:=@PySem.wpAny_holding
abbrev Y2:=@PySem.wpAny_call_entry
abbrev Z2:=@congrArg
abbrev B3:=@Bool.false_eq_true
abbrev C3:=@decide_eq_true_iff
set_option Elab.async false
set_option linter.all false
set_option maxRecDepth 100000
theorem u3(h:True:=by rfl):True:=h
def v3:Lean.Syntax:=u3._auto_1
theorem u4(h:True:=by decide):True:=h
def v4:Lean.Syntax:=u4._auto_1
theorem w4(h:True:=by intro _;rfl):True:=h
def u5:Lean.Syntax:=w4._auto_1
theorem v5(h:True:=by first|exact .inl rfl|exact .inr rfl|assumption):True:=h
def r6:Lean.Syntax:=v5._auto_1
theorem t6(h:True:=by with_unfolding_all rfl):True:=h
def v6:Lean.Syntax:=t6._auto_1
theorem w6(h:True:=by exact λ_ _=>rfl):True:=h
def x6:Lean.Syntax:=w6._auto_1
local macro_rules | `(())=> `(by lia)
local macro_rules | `(⋯)=> `(by decide)
set_option hygiene false in
local macro_rules
|`(`Z3)=>`(by simp)
|`(`Y3)=>`(by decide +kernel)
|`(`X3)=>`(λcdv A outer s H vs Q E hr h=>?_)
|`(`W3)=>`(⟨rfl,rfl,rfl,`Y3,rfl,`Y3,`Y3⟩)
|`(`V3)=>`(model prog w)
|`(`U3)=>`(hr.mono ⋯)
namespace L2
open PySem PySem.Spec PyProof.Rows
variable{α β γ κ:Type}{an:Option Value}{C a it l f fa I ga rp dr wl:Addr}{c t' i j ep n2 c':Nat}{cd:ClassData}{sl osl sl2:Array (Option Value)}{x y g name qual:Str}{u doc pm cdv oc vl vu acc key ov u':Value}{P:Program}{h':Heap}{pins pins':List (Addr×Obj)}{s s':Shared}{g':Array GenState}{d':Drawn}{M:Model}{E Q Ex:Value->Shared->Prop}{pos pos' px py tpos apos cpos spos p3 np:Pos}{rest es ifs f1 f2 ifs2 elts:List Expr}{tg iter value elt target t1 i1 t2 i2 tg2 iter2 kx vx:Expr}{lo:Option Int}{fp wr:List Addr}{body sts:List Stmt}{op op':CmpOp}{its its' ks:List Value}{mA:Str->Option Value}{pl:Sem Bool}{kw:List (Str×Value)}{fd:FuncData}{ps:List (Str×Str)}{scope osc:Scope}{od:Option Addr}{items:Array Value}{q:Str×Str}{loose N' ts O ws ms:List Str}{XP:(Str->Option Value)->Heap->Prop}{YP:World->Heap->Prop}{n':Int}{G:Array Nat->Prop}{OK:Heap->Prop}{Y:Prop}{ni:String}{A':Around}
noncomputable def zQ(s:Stmt)(j:Nat):Stmt:=match s with
 | .ClassDef _ _ _ body _ _ _ _ _ _ _=>body.getD j (.Pass ⟨0,0,0,0⟩)
 |_=> .Pass ⟨0,0,0,0⟩
noncomputable def z7(s:Stmt):Arguments:=match s with
 | .FunctionDef _ a _ _ _ _ _ _ _ _=>a
 |_=>{posonlyargs:=[],args:=[],vararg:=none,kwonlyargs:=[],kw_defaults:=[],kwarg:=none,defaults:=[]}
noncomputable def zK(s:Stmt):List Stmt:=match s with
 | .FunctionDef _ _ b _ _ _ _ _ _ _=>b
 |_=> []
noncomputable def ze(s:Stmt):Scope:=match s with
 | .FunctionDef _ _ _ _ _ _ sc _ _ _=>sc
 |_=>{kind:= .function,names:=[],isGenerator:=false,isCoroutine:=false}
section
open PySem.W
noncomputable def zpz(tb:String->Option Builtin)(p:Program)(w:World)(n₀:Nat)(ann:Option Value):Nat->SharedT->Thread->Option SharedT
 |0,_,_=>none
 |n+1,s,t=>match through t with
  |true=>some s
  |false=>match stepOk n₀ ann t with
   |false=>none
   |true=>match stepT (denote tb) p w s t with
    |some (s',t')=>zpz tb p w n₀ ann n s' t'
    |none=>none
theorem znx{tb:String->Option Builtin}{p:Program}{w:World}{n₀:Nat}{ann:Option Value}:∀{n:Nat} {s s':SharedT} {t:Thread},zpz tb p w n₀ ann n s t=some s'->topRun tb p w n₀ ann n s.abs t=some s'.abs
 |0,_,_,_,h=>by cases h
 |n+1,s,s',t,h=>by
  unfold zpz at h
  unfold topRun
  cases ht:through t with
  |true=>rw[ht] at h;cases h;rfl
  |false=>
   rw[ht] at h
   cases hk:stepOk n₀ ann t with
   |false=>rw[hk] at h;cases h
   |true=>
    rw[hk] at h
    cases hs:stepT (denote tb) p w s t with
    |none=>rw[hs] at h;cases h
    |some r=>obtain ⟨s₂,t₂⟩:=r;rw[hs] at h;rw[stepT_spec hs];exact znx h
noncomputable def zle:List Obj->BT->Nat->Option BT
 |[],t,_=>some t
 |o::l,t,n=>match ((t.ins n o).get n).isSome with
  |true=>zle l (t.ins n o) (n+1)
  |false=>none
theorem zhB{life:Life}:∀{l:List Obj} {t T:BT} {n:Nat},zle l t n=some T->absHeap T (n+l.length) life=⟨(absHeap t n life).objs ++l.toArray,life⟩
 |[],t,T,n,h=>by cases h;simp[absHeap]
 |o::l,t,T,n,h=>by
  unfold zle at h
  cases e:((t.ins n o).get n).isSome with
  |false=>rw[e] at h;cases h
  |true=>
   rw[e] at h
   have:=zhB (life:=life) h
   rw[J1,show n+(l.length+1)=n+1+l.length by lia,this,absHeap_ins e]
   show Heap.mk _ _=Heap.mk _ _
   congr 1
   show(absHeap t n life).objs.push o ++_=_
   apply Array.ext'
   simp
noncomputable def zjv{α:Type}(T:BT):Nat->List Obj->(List Obj->α)->α
 |0,acc,k=>k acc
 |n+1,acc,k=>match T.get n with
  |some o=>zjv T n (o::acc) k
  |none=>zjv T n (default::acc) k
theorem zgL{α:Type}{T:BT}{k:List Obj->α}:∀{n:Nat} {acc:List Obj},zjv T n acc k=k (T.list n ++acc)
 |0,acc=>rfl
 |n+1,acc=>by
  have:T.list (n+1)++acc=T.list n ++((T.get n).getD default::acc):=by
   unfold BT.list
   rw[List.range_succ,List.map_append,List.append_assoc];rfl
  rw[this]
  unfold zjv
  cases e:T.get n with
  |none=>exact zgL
  |some o=>exact zgL
noncomputable def zpm(g:Shared->α)(s:SharedT):α:=zjv s.tree s.n [] λL=>g ⟨⟨⟨L⟩,s.life⟩,s.gens,s.drawn,s.toks,s.os⟩
theorem zch{g:Shared->α}{s:SharedT}:zpm g s=g s.abs:=by
 unfold zpm
 rw[zgL,List.append_nil]
 rfl
noncomputable def look  (p:Program) (w:World) (os:OsState) (m:Nat) (an:Option Value) (N:Nat) (g:Shared->α):Option α:=
 (zle (boot_heap w.params).objs.toList .nil 0).bind λT=>(zpz treeTable p w m an N ⟨T,m,(boot_heap w.params).life, #[],boot_drawn,boot_toks,os⟩ (topStub p)).map (zpm g)
theorem look_ends{p:Program}{N m:Nat}{g:Shared->α}{w:World}{a:α}
 (op:opening p=plainProg p.main.scope.names) (hN:Nat.ble 600 N=true) (f:∀s,fenceModules? p s=some s)
 (size:((boot_heap w.params).isNs mainGlobals,(boot_heap w.params).objs.size,(boot_heap w.params).nsMap mainGlobals "__annotations__")=(true,m,an))
 (st:∀os,look p w os m an N (λs=>staticsOk (importedModules p.main.body) (boot_heap w.params) s.heap&&namesBound p s.heap&&gensDone s&&laidKept (boot_heap w.params) s.heap)=some true)
 (h:∀os,look p w os m an N g=some a):(openEnds treeTable p w N).map g=some a:=by
 obtain⟨⟨hh,gs,d,k,os⟩,e,e'⟩:=Option.map_eq_some_iff.mp (boot_open op hN f w)
 obtain⟨rfl,rfl,rfl,rfl⟩:hh=boot_heap w.params/\gs=Array.mk []/\d=boot_drawn/\k=boot_toks:=by simpa using e'
 obtain⟨z1,z2,z3⟩:_/\_/\_:=by simpa only[Prod.mk.injEq] using size
 have hs:=st os
 have hl:=h os
 unfold look at hs hl
 obtain⟨T,b,hs⟩:=Option.bind_eq_some_iff.mp hs
 rw[b] at hl
 replace hl:Option.map _ _=_:=hl
 obtain⟨s,r,hs⟩:=Option.map_eq_some_iff.mp hs
 rw[r] at hl
 rw[zch] at hs
 have hl:g s.abs=a:=by simpa[zch] using hl
 have ab:=zhB (life:=(boot_heap w.params).life) b
 have r:=znx r
 have l:(boot_heap w.params).objs.toList.length=m:=by rw[Array.length_toList,z2]
 have ea:SharedT.abs ⟨T,m,(boot_heap w.params).life, #[],boot_drawn,boot_toks,os⟩=⟨boot_heap w.params, #[],boot_drawn,boot_toks,os⟩:=by
  unfold SharedT.abs
  dsimp only
  rw[Nat.zero_add,l] at ab
  rw[ab]
  have:(absHeap .nil 0 (boot_heap w.params).life).objs ++(boot_heap w.params).objs.toList.toArray=(boot_heap w.params).objs:=by
   apply Array.ext'
   simp[absHeap,BT.list]
  rw[this]
 rw[ea] at r
 have t:topFrom treeTable p w N ⟨boot_heap w.params,Array.mk [],boot_drawn,boot_toks,os⟩=some s.abs:=by
  unfold topFrom
  dsimp only
  rw[z1,z2,z3,r]
  show(match staticsOk (importedModules p.main.body) (boot_heap w.params) s.abs.heap&&namesBound p s.abs.heap&&gensDone s.abs&&laidKept (boot_heap w.params) s.abs.heap with|true=>_|false=>_)=_
  rw[hs]
 unfold openEnds
 rw[e]
 show(topFrom treeTable p w N _).map _=_
 rw[t]
 exact Z2 some hl
theorem vw_sz(w:World):((boot_heap w.params).isNs mainGlobals,(boot_heap w.params).objs.size,(boot_heap w.params).nsMap mainGlobals "__annotations__")=(true,11,some (.ref 6)):=by kernel_rfl
theorem map_two{o:Option α}{f:α->β}{g:α->γ}{a:β}{b:γ}(h:o.map f=some a)(k:o.map g=some b):o.map (λs=>(f s,g s))=some (a,b):=by
 cases o with
 |none=>cases h
 |some x=>cases h;cases k;rfl
theorem look_mk{p:Program}{w:World}{os:OsState}{m N:Nat}{g:Shared->α}{g':Shared->β}{a:α}{b:β}(h:look p w os m an N g=some a)(h':look p w os m an N g'=some b):look p w os m an N (λs=>(g s,g' s))=some (a,b):=by
 unfold look at h h'⊢
 obtain⟨T,e,h⟩:=Option.bind_eq_some_iff.mp h
 rw[e] at h'⊢
 replace h':Option.map _ _=_:=h'
 show Option.map _ _=_
 obtain⟨s,r,h⟩:=Option.map_eq_some_iff.mp h
 rw[r] at h'⊢
 rw[zch] at h
 have h':g' s.abs=b:=by simpa[zch] using h'
 show some (zpm _ s)=_
 rw[zch,h,h']
theorem look_and{p:Program}{w:World}{os:OsState}{m N:Nat}{f g:Shared->Bool}(h:look p w os m an N (λs=>f s&&g s)=some true):look p w os m an N f=some true/\look p w os m an N g=some true:=by
 unfold look at h⊢
 obtain⟨T,e,h⟩:=Option.bind_eq_some_iff.mp h
 rw[e]
 show(Option.map _ _=_)/\(Option.map _ _=_)
 obtain⟨s,r,h⟩:=Option.map_eq_some_iff.mp h
 rw[r]
 rw[zch,W0] at h
 exact⟨Z2 some (zch.trans h.1),Z2 some (zch.trans h.2)⟩
end
set_option genInjectivity false in
set_option genSizeOfSpec false in
set_option genSizeOf false in
structure Er(K:W.Frag)(x:Str)(st:Stmt):Type where
 {f9:Addr} {oc9:Value} {od9 an9:Option Addr} {sl9:Array (Option Value)} {kV9 dc9 pm9 cd9 ct9:Value}
 a9:W.nsIn K mainGlobals x=some (some (.ref f9))
 l9:K.lookup f9=some ⟨oc9,od9, .func (W.fnOf x x (z7 st) (zK st) (ze st) .none kV9 dc9 pm9 an9 cd9 ct9),sl9⟩
 c9:W.codeIn K cd9 x=true
 k9:W.keepIn K (.ref f9)=true
set_option genInjectivity false in
set_option genSizeOfSpec false in
set_option genSizeOf false in
structure ErD(K:W.Frag)(x:Str)(st:Stmt):Type where
 {f9:Addr} {oc9:Value} {od9 an9:Option Addr} {sl9:Array (Option Value)} {kV9 dc9 pm9 cd9 ct9:Value} {dt9:Addr} {odd9:Option Addr} {nd9:Nat} {sld9:Array (Option Value)}
 a9:W.nsIn K mainGlobals x=some (some (.ref f9))
 l9:K.lookup f9=some ⟨oc9,od9, .func (W.fnOf x x (z7 st) (zK st) (ze st) (.ref dt9) kV9 dc9 pm9 an9 cd9 ct9),sl9⟩
 c9:W.codeIn K cd9 x=true
 k9:W.keepIn K (.ref f9)=true
 d9:K.lookup dt9=some ⟨.type "tuple",odd9, .seq #[.none] nd9,sld9⟩
set_option genInjectivity false in
set_option genSizeOfSpec false in
set_option genSizeOf false in
structure Em(K:W.Frag)(C:Addr)(x q:Str)(st:Stmt):Type where
 {f9:Addr} {oc9:Value} {od9 an9:Option Addr} {sl9:Array (Option Value)} {kV9 dc9 pm9 cd9 ct9:Value}
 a9:W.findIn K (.ref C) x=some (some (.ref f9))
 i9:W.isFn K (.ref f9)=true
 l9:K.lookup f9=some ⟨oc9,od9, .func (W.fnOf x q (z7 st) (zK st) (ze st) .none kV9 dc9 pm9 an9 cd9 ct9),sl9⟩
 c9:W.codeIn K cd9 q=true
 k9:W.keepIn K (.ref f9)=true
set_option genInjectivity false in
set_option genSizeOfSpec false in
set_option genSizeOf false in
structure Ec(K:W.Frag)(x:Str)(C:Addr):Prop where
 a9:W.nsIn K mainGlobals x=some (some (.ref C))
 pg9:W.plainGet K C Str.empty=true
 hd9:W.hasDictIn K C=true
 po9:W.plainOver K C=true
 sa9:W.findIn K (.ref C) "__setattr__"=some (some (.builtin "object.__setattr__"))
 ms9:W.makesIn K C=true
 kc9:W.keepIn K (.ref C)=true
set_option genInjectivity false in
set_option genSizeOfSpec false in
set_option genSizeOf false in
structure En(K:W.Frag)(x:Str):Type where
 {f9 e9:Addr} {od9 oe9:Option Addr} {sl9 se9:Array (Option Value)} {n9 ne9:Nat} {tk9:Tok}
 a9:W.nsIn K mainGlobals x=some (some (.ref f9))
 l9:K.lookup f9=some ⟨.type "tuple",od9, .seq #[.int 0 tk9, .none, .ref e9] n9,sl9⟩
 d9:K.lookup e9=some ⟨.type "tuple",oe9, .seq #[] ne9,se9⟩
set_option genInjectivity false in
set_option genSizeOfSpec false in
set_option genSizeOf false in
structure Ei(K:W.Frag)(x:Str)(v:Int):Type where
 {tk9:Tok}
 a9:W.nsIn K mainGlobals x=some (some (.int v tk9))
set_option genInjectivity false in
set_option genSizeOfSpec false in
set_option genSizeOf false in
structure ExCls(K:W.Frag)(C:Addr):Prop where
 ga9:W.findIn K (.ref C) "__getattribute__"=some (some (.builtin "BaseException.__getattribute__"))
 gh9:W.findIn K (.ref C) "__getattr__"=some none
 fc9:W.findIn K (.ref C) "__class__"=some (some (.builtin "object.__class__"))
 sp9:W.specialIn K (.builtin "object.__class__") "__get__"=some (some (.builtin "getset_descriptor.__get__"))
 tk9:W.takesIn K (.builtin "object.__class__")=some true
 mo9:W.mroIn K C (.type "object")=some true
 mb9:W.mroIn K C (.type "BaseException")=some true
 cl9:∃c d cd sl,K.lookup C=some ⟨c,d, .cls cd,sl⟩
def zlw(K:W.Frag)(C CR:Addr):Prop:=∃tb ni dd cd sl,W.excIn K C tb ni=true/\K.lookup C=some ⟨.type "type",dd, .cls cd,sl⟩/\cd.mro.contains (.ref CR)=true
set_option genInjectivity false in
set_option genSizeOfSpec false in
set_option genSizeOf false in
structure Exn(K:W.Frag)(x:Str)(C:Addr):Prop where
 a9:W.nsIn K mainGlobals x=some (some (.ref C))
theorem exCls_mk{K:W.Frag}{c:Value}{d:Option Addr}
 (b1:W.findIn K (.ref C) "__getattribute__"=some (some (.builtin "BaseException.__getattribute__"))) (b2:W.findIn K (.ref C) "__getattr__"=some none) (b3:W.findIn K (.ref C) "__class__"=some (some (.builtin "object.__class__")))
 (b4:W.specialIn K (.builtin "object.__class__") "__get__"=some (some (.builtin "getset_descriptor.__get__"))) (b5:W.takesIn K (.builtin "object.__class__")=some true) (b6:W.mroIn K C (.type "object")=some true) (b7:W.mroIn K C (.type "BaseException")=some true)
 (b8:K.lookup C=some ⟨c,d, .cls cd,sl⟩):ExCls K C:=⟨b1,b2,b3,b4,b5,b6,b7,_,_,_,_,b8⟩
theorem exSub_mk{K:W.Frag}{CR:Addr}{d:Option Addr}(q:W.excIn K C [.type "ValueError", .type "Exception", .type "BaseException", .type "object"] "ValueError.__new__"=true)
 (l:K.lookup C=some ⟨.type "type",d, .cls cd,sl⟩) (m:cd.mro.contains (.ref CR)=true):zlw K C CR:=⟨_,_,_,_,_,q,l,m⟩
set_option maxHeartbeats 4000000
theorem hidZ{G:Prop}(k:∀γ:Prop,(G->γ)->γ):G:=k G id
local macro_rules | `(tactic|obtain $p:rcasesPatMed:= $e:term)=>do
 if ((p.raw.reprint.getD "").splitOn ",").length≥3 then `(tactic|first|(refine hidZ λγ hγ=>?_;rcases $e:term with $p<;>(refine hγ ?_;clear hγ γ))|rcases $e:term with $p)else `(tactic|rcases $e:term with $p)
noncomputable def top(i:Nat):Stmt:=Challenge.pw_restways_k43_runs_refuse.main.body.getD i (.Pass ⟨0,0,0,0⟩)
noncomputable abbrev zdb:Stmt:=top 5
noncomputable abbrev zed:Stmt:=top 6
noncomputable abbrev ziF:Stmt:=top 22
noncomputable abbrev zea:Stmt:=top 23
noncomputable abbrev zcS:Stmt:=top 29
noncomputable abbrev zd3:Stmt:=top 30
noncomputable abbrev zf8:Stmt:=top 31
noncomputable abbrev zaM:Stmt:=top 48
noncomputable abbrev zgw:Stmt:=top 49
noncomputable abbrev zh2:Stmt:=top 51
noncomputable abbrev zcJ:Stmt:=top 52
noncomputable abbrev zbI:Stmt:=top 53
noncomputable abbrev za7:Stmt:=zQ (top 56) 0
noncomputable abbrev zde:Stmt:=zQ (top 56) 1
noncomputable abbrev zcw:Stmt:=zQ (top 56) 3
noncomputable abbrev zcq:Stmt:=zQ (top 56) 4
noncomputable abbrev zc1:Stmt:=zQ (top 56) 5
noncomputable abbrev zbZ:Stmt:=zQ (top 56) 6
noncomputable abbrev zaY:Stmt:=zQ (top 56) 7
noncomputable abbrev zcu:Stmt:=zQ (top 56) 8
noncomputable abbrev zco:Stmt:=zQ (top 56) 9
noncomputable abbrev zbr:Stmt:=zQ (top 56) 10
noncomputable abbrev zef:Stmt:=top 58
noncomputable abbrev zeP:Stmt:=top 59
noncomputable abbrev zaQ:Stmt:=zQ (top 61) 0
noncomputable abbrev zd1:Stmt:=zQ (top 61) 1
noncomputable abbrev zbB:Stmt:=zQ (top 61) 2
noncomputable abbrev zbc:Stmt:=zQ (top 61) 3
noncomputable abbrev zd8:Stmt:=zQ (top 61) 4
noncomputable abbrev zbt:Stmt:=zQ (top 61) 5
noncomputable abbrev zd5:Stmt:=zQ (top 61) 6
noncomputable abbrev zee:Stmt:=zQ (top 61) 7
noncomputable abbrev zdV:Stmt:=zQ (top 61) 8
noncomputable abbrev zaX:Stmt:=zQ (top 61) 9
noncomputable abbrev zdo:Stmt:=top 63
noncomputable abbrev zeh:Stmt:=top 64
noncomputable abbrev zdj:Stmt:=top 65
noncomputable abbrev zdg:Stmt:=top 66
noncomputable abbrev zbM:Stmt:=top 67
noncomputable abbrev zdu:Stmt:=top 68
noncomputable abbrev zbx:Stmt:=top 69
noncomputable abbrev zb0:Stmt:=top 70
noncomputable abbrev zc0:Stmt:=top 71
noncomputable abbrev zdf:Stmt:=top 72
noncomputable abbrev zbo:Stmt:=top 73
noncomputable abbrev zbX:Stmt:=top 74
noncomputable abbrev zdv:Stmt:=top 75
noncomputable abbrev zlc:Stmt:=top 76
noncomputable def vw:Program:={Challenge.pw_restways_k43_runs_refuse with main:={Challenge.pw_restways_k43_runs_refuse.main with body:=([1,2,3,5,6,7,9,10,11,12,13,14,15,16,17,18,19,20,21,25,26,27,28,29,30,31,33,34,35,36,38,39,40,41,42,43,44,45,46,48,49,51,52,53,55,56,58,59,61,63,64,65,66,67,68,69,70,71,72,73,74,75,76]:List Nat).filterMap λi=>Challenge.pw_restways_k43_runs_refuse.main.body[i]?}}
noncomputable abbrev zo2(s:Shared):=(λs=>W.openSeen vw [(Str.ofString "holds"),(Str.ofString "all_hold")] (PySem.importedModules Challenge.pw_restways_k43_runs_refuse.main.body) (λz=>W.xlAt vw [] z&&W.recOk [] z) true s) s
set_option maxHeartbeats 0 in
theorem zr9(w:World)(os:OsState):look Challenge.pw_restways_k43_runs_refuse w os 11 (some (.ref 6)) 9564 (λs=>(W.staticsOk (PySem.importedModules Challenge.pw_restways_k43_runs_refuse.main.body) (W.boot_heap w.params) s.heap&&W.namesBound Challenge.pw_restways_k43_runs_refuse s.heap&&W.gensDone s&&W.laidKept (W.boot_heap w.params) s.heap)&&((zo2 s).2.2.1&&(zo2 s).2.2.2.1))=some true:=by kernel_rfl
set_option maxHeartbeats 0 in
theorem zth(w:World)(os:OsState):look Challenge.pw_restways_k43_runs_refuse w os 11 (some (.ref 6)) 9564 (λs=>(zo2 s).1)=some (W.openGood vw [(Str.ofString "holds"),(Str.ofString "all_hold")]).1:=by kernel_rfl
set_option maxHeartbeats 0 in
theorem zte(w:World)(os:OsState):look Challenge.pw_restways_k43_runs_refuse w os 11 (some (.ref 6)) 9564 (λs=>(zo2 s).2.1)=some (W.openGood vw [(Str.ofString "holds"),(Str.ofString "all_hold")]).2.1:=by kernel_rfl
set_option maxHeartbeats 0 in
theorem ztl(w:World)(os:OsState):look Challenge.pw_restways_k43_runs_refuse w os 11 (some (.ref 6)) 9564 (λs=>(zo2 s).2.2.2.2)=some (W.openGood vw [(Str.ofString "holds"),(Str.ofString "all_hold")]).2.2.2.2:=by kernel_rfl
theorem zsE(w:World)(os:OsState):look Challenge.pw_restways_k43_runs_refuse w os 11 (some (.ref 6)) 9564 (λs=>W.staticsOk (PySem.importedModules Challenge.pw_restways_k43_runs_refuse.main.body) (W.boot_heap w.params) s.heap&&W.namesBound Challenge.pw_restways_k43_runs_refuse s.heap&&W.gensDone s&&W.laidKept (W.boot_heap w.params) s.heap)=some true:=(look_and (zr9 w os)).1
theorem zsH(w:World)(os:OsState):look Challenge.pw_restways_k43_runs_refuse w os 11 (some (.ref 6)) 9564 (λs=>W.openSeen vw [(Str.ofString "holds"),(Str.ofString "all_hold")] (PySem.importedModules Challenge.pw_restways_k43_runs_refuse.main.body) (λz=>W.xlAt vw [] z&&W.recOk [] z) true s)=some (W.openGood vw [(Str.ofString "holds"),(Str.ofString "all_hold")]):=look_mk (zth w os) (look_mk (zte w os) (look_mk (look_and (look_and (zr9 w os)).2).1 (look_mk (look_and (look_and (zr9 w os)).2).2 (ztl w os))))
theorem ztb:W.opening Challenge.pw_restways_k43_runs_refuse=W.plainProg Challenge.pw_restways_k43_runs_refuse.main.scope.names:=by kernel_rfl
theorem zsu(s:Shared):fenceModules? Challenge.pw_restways_k43_runs_refuse s=some s:=by kernel_rfl
theorem vw_any{g:Shared->α}{w:World}{a:α}(h:∀os,look Challenge.pw_restways_k43_runs_refuse w os 11 (some (.ref 6)) 9564 g=some a):(W.openEnds treeTable Challenge.pw_restways_k43_runs_refuse w 9564).map g=some a:=look_ends ztb ⋯ zsu (vw_sz w) (λos=>zsE w os) h
theorem vw_one(w:World):(W.openEnds treeTable Challenge.pw_restways_k43_runs_refuse w 9564).map (λs=>W.openSeen vw [(Str.ofString "holds"),(Str.ofString "all_hold")] (PySem.importedModules Challenge.pw_restways_k43_runs_refuse.main.body) (λz=>W.xlAt vw [] z&&W.recOk [] z) true s)=some (W.openGood vw [(Str.ofString "holds"),(Str.ofString "all_hold")]):=vw_any λos=>zsH w os
set_option maxHeartbeats 0 in
theorem vw_ws:W.OpenLaw.wellSaid Challenge.rw_restways_k43_runs_refuse=true:=by
 unfold W.OpenLaw.wellSaid W.OpenRow.wellSaid W.OpenRow.partSaid W.looksOpen
 repeat' with_reducible refine W.look_both ?_ ?_
 all_goals decide +kernel
set_option genInjectivity false in
set_option genSizeOfSpec false in
set_option genSizeOf false in
structure Fk(K:W.Frag):Type where
 C_House:Addr
 c_House:Ec K "House" C_House
 n_House_place:W.findIn K (.ref C_House) "place"=some none
 n_House_name:W.findIn K (.ref C_House) "name"=some none
 n_House_hearings:W.findIn K (.ref C_House) "hearings"=some none
 n_House_tellings:W.findIn K (.ref C_House) "tellings"=some none
 n_House_going:W.findIn K (.ref C_House) "going"=some none
 n_House_times:W.findIn K (.ref C_House) "times"=some none
 C_Run:Addr
 c_Run:Ec K "Run" C_Run
 n_Run_place:W.findIn K (.ref C_Run) "place"=some none
 n_Run_people:W.findIn K (.ref C_Run) "people"=some none
 n_Run_waiting:W.findIn K (.ref C_Run) "waiting"=some none
 is_number:Er K "is_number" zdb
 is_whole:Er K "is_whole" zed
 holds:ErD K "holds" ziF
 all_hold:ErD K "all_hold" zea
 likings_of:Er K "likings_of" zcS
 hands_of:Er K "hands_of" zd3
 tied:Er K "tied" zf8
 marks_behind:Er K "marks_behind" zaM
 handed:Er K "handed" zgw
 worth:Er K "worth" zh2
 liking_key:Er K "liking_key" zcJ
 most_liked:Er K "most_liked" zbI
 House___init__:Em K C_House "__init__" "House.__init__" za7
 House_way:Em K C_House "way" "House.way" zde
 House_heard:Em K C_House "heard" "House.heard" zcw
 House_begin:Em K C_House "begin" "House.begin" zcq
 House_hear:Em K C_House "hear" "House.hear" zc1
 House_choose:Em K C_House "choose" "House.choose" zbZ
 House_open_ways:Em K C_House "open_ways" "House.open_ways" zaY
 House_go_by:Em K C_House "go_by" "House.go_by" zcu
 House_offer:Em K C_House "offer" "House.offer" zco
 House_letters:Em K C_House "letters" "House.letters" zbr
 at_place:Er K "at_place" zef
 is_outdone:Er K "is_outdone" zeP
 Run___init__:Em K C_Run "__init__" "Run.__init__" zaQ
 Run_road:Em K C_Run "road" "Run.road" zd1
 Run_choice:Em K C_Run "choice" "Run.choice" zbB
 Run_changes:Em K C_Run "changes" "Run.changes" zbc
 Run_town:Em K C_Run "town" "Run.town" zd8
 Run_was_heard:Em K C_Run "was_heard" "Run.was_heard" zbt
 Run_come:Em K C_Run "come" "Run.come" zd5
 Run_copy:Em K C_Run "copy" "Run.copy" zee
 Run_lose:Em K C_Run "lose" "Run.lose" zdV
 Run_is_still:Em K C_Run "is_still" "Run.is_still" zaX
 _law_hand:Er K "_law_hand" zdo
 _law_all:Er K "_law_all" zeh
 _law_take:Er K "_law_take" zdj
 _law_pick:Er K "_law_pick" zdg
 _law_names:Er K "_law_names" zbM
 _law_cond:Er K "_law_cond" zdu
 _law_conds:Er K "_law_conds" zbx
 _law_likings:Er K "_law_likings" zb0
 _law_hands:Er K "_law_hands" zc0
 _law_ties:Er K "_law_ties" zdf
 _law_town:Er K "_law_town" zbo
 _law_refused:Er K "_law_refused" zbX
 _law_told:Er K "_law_told" zdv
 law:Er K "law" zlc
 X_NoLetter:Addr
 x_NoLetter:Exn K "NoLetter" X_NoLetter
 X_RestError:Addr
 x_RestError:Exn K "RestError" X_RestError
 X_Forged:Addr
 x_Forged:Exn K "Forged" X_Forged
 X_HasRing:Addr
 x_HasRing:Exn K "HasRing" X_HasRing
 X_Needed:Addr
 x_Needed:Exn K "Needed" X_Needed
 X_NoDeed:Addr
 x_NoDeed:Exn K "NoDeed" X_NoDeed
 X_NoRow:Addr
 x_NoRow:Exn K "NoRow" X_NoRow
 X_NoText:Addr
 x_NoText:Exn K "NoText" X_NoText
 X_TooMany:Addr
 x_TooMany:Exn K "TooMany" X_TooMany
 e_NoLetter:W.excIn K X_NoLetter [.type "ValueError", .type "Exception", .type "BaseException", .type "object"] "ValueError.__new__"=true
 e_RestError:W.excIn K X_RestError [.type "ValueError", .type "Exception", .type "BaseException", .type "object"] "ValueError.__new__"=true
 i_NoLetter:ExCls K X_NoLetter
 u_NoLetter_RestError:zlw K X_NoLetter X_RestError
 j_NoLetter:W.kitAny K (.ref X_NoLetter) [.ref X_Forged, .ref X_HasRing, .ref X_Needed, .ref X_NoDeed, .ref X_NoRow, .ref X_NoText, .ref X_TooMany]=some false
 k_NoLetter_ValueError:W.kitOne K (.ref X_NoLetter) (.type "ValueError")=some true
 NOTHING:En K "NOTHING"
 z_ValueError:W.nsIn K mainGlobals "ValueError"=some none
 z_all:W.nsIn K mainGlobals "all"=some none
 z_bool:W.nsIn K mainGlobals "bool"=some none
 z_dict:W.nsIn K mainGlobals "dict"=some none
 z_int:W.nsIn K mainGlobals "int"=some none
 z_isinstance:W.nsIn K mainGlobals "isinstance"=some none
 z_len:W.nsIn K mainGlobals "len"=some none
 z_list:W.nsIn K mainGlobals "list"=some none
 z_max:W.nsIn K mainGlobals "max"=some none
 z_min:W.nsIn K mainGlobals "min"=some none
 z_range:W.nsIn K mainGlobals "range"=some none
 z_sorted:W.nsIn K mainGlobals "sorted"=some none
 z_str:W.nsIn K mainGlobals "str"=some none
 z_tuple:W.nsIn K mainGlobals "tuple"=some none
section
open PySem PySem.W PyProof.Rows
local macro_rules | `(tactic|o_head $H)=> `(tactic|exact(λ(_:Hook)=>by assumption) $H)
theorem tk(h0:Challenge.rw_restways_k43_runs_refuse.row.Holds):Challenge.rw_restways_k43_runs_refuse.row.Holds:=by
 k_head
noncomputable abbrev vw_k:List Addr:=[2,3,15,16,19,20,21,23,24,26,27,28,30,31,33,34,35,37,38,40,41,42,43,45,46,48,49,50,52,53,55,56,57,59,60,62,63,64,67,68,69,71,72,74,75,76,78,79,81,82,83,86,87,88,90,91,93,94,95,97,98,100,101,102,103,105,106,108,109,110,111,113,114,116,117,118,120,121,123,124,125,128,129,130,133,134,135,137,138,140,141,142,144,145,147,148,149,152,153,154,156,157,159,160,161,163,164,166,167,168,170,171,173,174,175,178,179,180,187,188,189,190,193,200,201,202,205,212,214,215,217,218,219,220,221,224,231,232,233,236,243,244,245,248,255,256,257,260,267,268,269,272,279,281,282,284,285,286,287,288,291,298,299,300,303,306,307,308,310,311,313,314,315,317,318,320,321,322,324,325,327,328,329,332,333,334,335,343,345,346,348,349,350,352,353,355,356,357,359,360,362,363,364,366,367,369,370,371,373,374,376,377,378,380,381,383,384,385,387,388,390,391,392,394,395,397,398,399,401,402,404,405,406,408,409,411,412,413,415,416,418,419,420,422,423,425,426,427,429,430,432,433,434,435,436,437,438,441,443,444,446,447,448,451,452,460,463,464,465,467,468,470,471,472,475,476,477,480,481,482,484,485,487,488,489,491,492,494,495,496,498,499,501,502,503,505,506,508,509,510,512,513,515,516,517,520,521,522,524,525,527,528,529,532,533,534,535,536,537,538,541,543,544,546,547,548,550,551,553,554,555,557,558,560,561,562,564,565,567,568,569,572,573,574,576,577,579,580,581,584,585,586,588,589,591,592,593,595,596,598,599,600,602,603,605,606,607,610,611,612,614,615,617,618,619,621,622,624,625,626,628,629,631,632]
set_option maxRecDepth 100000 in
set_option maxHeartbeats 0 in
theorem vw_y(w:World)(os:OsState):look Challenge.pw_restways_k43_runs_refuse w os 11 (some (.ref 6)) 9564 (λs=>vw_k.map s.heap.get?)=some ((tk.heap_1 w.params).map λp=>some p.2):=by kernel_rfl
noncomputable abbrev vw_H:Hook:=W.kHook tk.heap_1 vw_k (λ_=>by kernel_rfl)
set_option maxRecDepth 100000 in
set_option maxHeartbeats 0 in
theorem topE(HW:∀(q:PySem.Program) (loose:List PySem.Str) (XP:(PySem.Str->Option PySem.Value)->PySem.Heap->Prop) (YP:PySem.World->PySem.Heap->Prop) (d:DefRec) (K:PySem.Params->W.Frag),d.params.defaults=[]->d.name="law"->(∀w h,YP w h->(K w.params).In h)->(∀w:PySem.World,Fk (K w.params))->W.WalkO q loose XP YP Challenge.rw_restways_k43_runs_refuse.row.toRowW d [] (λf vs=>PySem.call f vs)):Challenge.rw_restways_k43_runs_refuse.Holds:=by
 w_on;refine W.holds_law vw_ws λsaid=>?_
 refine holds_open (N:=9564) (q:=vw) (loose:=[(Str.ofString "holds"),(Str.ofString "all_hold")]) (YP:=Hook.says vw_H) (Ya:=Hook.val vw_H) (Yf:=Hook.obs vw_H) (XP:=XL vw []) (Xt:=λz=>xlAt vw [] z&&recOk [] z) (λw=>map_two (vw_one w) (vw_any (λos=>vw_y w os))) (Hook.of vw_H) (Hook.keeps vw_H) (λz e=>xl_of z (Bool.and_eq_true_iff.mp e).1) XL.keeps (by rfl) (by rfl) (by rfl) (λz e=>recFacts_of (Bool.and_eq_true_iff.mp e).2) (by rfl) (by first|assumption|decide +kernel) `Y3 ⟨rfl,rfl,rfl,rfl,rfl,`Y3⟩ ?hw ?hc
 (case hw=>w_witness2)
 k_fill
 refine HW _ _ _ _ _ _ rfl rfl (λw h Y=>W.kIn_of Y) ?F
 case F=>
  intro w
  refine' Fk.mk _ ?c_House ?_ ?_ ?_ ?_ ?_ ?_ _ ?c_Run ?_ ?_ ?_ ?_ ?_ ?_ ?_ ?_ ?_ ?_ ?_ ?_ ?_ ?_ ?_ ?_ ?_ ?_ ?_ ?_ ?_ ?_ ?_ ?_ ?_ ?_ ?_ ?_ ?_ ?_ ?_ ?_ ?_ ?_ ?_ ?_ ?_ ?_ ?_ ?_ ?_ ?_ ?_ ?_ ?_ ?_ ?_ ?_ ?_ ?_ ?_ _ ?x_NoLetter _ ?x_RestError _ ?x_Forged _ ?x_HasRing _ ?x_Needed _ ?x_NoDeed _ ?x_NoRow _ ?x_NoText _ ?x_TooMany ?_ ?_ ?_ ?_ ?_ ?_ ?_ ?_ ?_ ?_ ?_ ?_ ?_ ?_ ?_ ?_ ?_ ?_ ?_ ?_ ?_
  (case c_House=>
    refine' Ec.mk ?a ?pg ?hd ?po ?sa ?ms ?kc
    (case a=>k_is)
    (case pg=>k_is)
    (case hd=>k_is)
    (case po=>k_is)
    (case sa=>k_is)
    (case ms=>k_is)
    (case kc=>k_is))
  (case c_Run=>
    refine' Ec.mk ?a ?pg ?hd ?po ?sa ?ms ?kc
    (case a=>k_is)
    (case pg=>k_is)
    (case hd=>k_is)
    (case po=>k_is)
    (case sa=>k_is)
    (case ms=>k_is)
    (case kc=>k_is))
  (case x_NoLetter=>
    refine' Exn.mk ?a
    (case a=>k_is))
  (case x_RestError=>
    refine' Exn.mk ?a
    (case a=>k_is))
  (case x_Forged=>
    refine' Exn.mk ?a
    (case a=>k_is))
  (case x_HasRing=>
    refine' Exn.mk ?a
    (case a=>k_is))
  (case x_Needed=>
    refine' Exn.mk ?a
    (case a=>k_is))
  (case x_NoDeed=>
    refine' Exn.mk ?a
    (case a=>k_is))
  (case x_NoRow=>
    refine' Exn.mk ?a
    (case a=>k_is))
  (case x_NoText=>
    refine' Exn.mk ?a
    (case a=>k_is))
  (case x_TooMany=>
    refine' Exn.mk ?a
    (case a=>k_is))
  all_goals try first
   |k_exc
   |kernel_rfl
   |(refine' exCls_mk ?b1 ?b2 ?b3 ?b4 ?b5 ?b6 ?b7 ?b8
     (case b1=>k_is)
     (case b2=>k_is)
     (case b3=>k_is)
     (case b4=>k_is)
     (case b5=>k_is)
     (case b6=>k_is)
     (case b7=>k_is)
     (case b8=>k_is))
   |(refine' exSub_mk ?q ?l ?m
     (case l=>k_is)
     (case q=>k_exc)
     (case m=>rfl))
  all_goals first
   |k_is
   |(refine' Er.mk ?a ?l ?c ?k
     (case a=>k_is)
     (case l=>k_is)
     (case c=>k_is)
     (case k=>k_is))
   |(refine' Em.mk ?a ?i ?l ?c ?k
     (case a=>k_is)
     (case i=>k_is)
     (case l=>k_is)
     (case c=>k_is)
     (case k=>k_is))
   |(refine' ErD.mk ?a ?l ?c ?k ?d
     (case a=>k_is)
     (case l=>k_is)
     (case c=>k_is)
     (case k=>k_is)
     (case d=>k_is))
   |(refine' En.mk ?a ?l ?d
     (case a=>k_is)
     (case l=>k_is)
     (case d=>k_is))
end
noncomputable abbrev Key:=Sum Int Str
noncomputable def zgJ:Key->Value->Bool
 | .inl k,v=>Value.isInt k v
 | .inr x,v=>Value.isStrOf x v
noncomputable def ztk(w:World):Key->Int
 | .inl k=>hashInt k
 | .inr x=>hashStr w x
theorem zV:∀{k:Key} {v:Value},zgJ k v=true->(∃i t,k=Sum.inl i/\v=Value.int i t)\/(∃x t,k=Sum.inr x/\v=Value.str x t)
 | .inl i,v,h=>by
   obtain⟨t,e⟩:=Value.isInt_shape (k:=i) (v:=v) h
   exact .inl ⟨i,t,rfl,e⟩
 | .inr x,v,h=>by
   obtain⟨t,e⟩:=Value.isStrOf_shape (x:=x) (v:=v) h
   exact .inr ⟨x,t,rfl,e⟩
theorem zmc(i:Int)(t:Tok):zgJ (.inl i) (.int i t)=true:=by simp[zgJ,Value.isInt]
theorem zl6(x:Str)(t:Tok):zgJ (.inr x) (.str x t)=true:=by simp[zgJ,Value.isStrOf]
theorem zrg(a b:Int):decide ((Sum.inl a:Key)=Sum.inl b)=(a==b):=by
 by_cases e:a=b
 ·subst e;simp
 ·have h:¬(Sum.inl a:Key)=Sum.inl b:=λq=>e (Sum.inl.inj q)
  rw[E1 h]
  exact(beq_eq_false_iff_ne.mpr e).symm
theorem zsc(a b:Str):decide ((Sum.inr a:Key)=Sum.inr b)=decide (a=b):=by
 by_cases e:a=b
 ·subst e;simp
 ·have h:¬(Sum.inr a:Key)=Sum.inr b:=λq=>e (Sum.inr.inj q)
  rw[E1 h,E1 e]
theorem zr8(a:Int)(b:Str):decide ((Sum.inl a:Key)=Sum.inr b)=false:=E1 (λq=>nomatch q)
theorem zrn(a:Str)(b:Int):decide ((Sum.inr a:Key)=Sum.inl b)=false:=E1 (λq=>nomatch q)
noncomputable def zS(prog:Program)(w:World):PySem.KeyKind prog w Key where
 is:=zgJ
 hash:=ztk w
 inj:=λv a b ha hb=>by
  rcases zV ha with⟨i,t,rfl,rfl⟩|⟨x,t,rfl,rfl⟩
  ·rcases zV hb with⟨j,u,rfl,e⟩|⟨y,u,rfl,e⟩
   ·injection e with e1 _;rw[e1]
   ·exact nomatch e
  ·rcases zV hb with⟨j,u,rfl,e⟩|⟨y,u,rfl,e⟩
   ·exact nomatch e
   ·injection e with e1 _;rw[e1]
 byValue:=λk v h=>by
   rcases zV h with⟨i,t,rfl,rfl⟩|⟨x,t,rfl,rfl⟩<;>rfl
 pyHash:=λhv h=>by
  rcases zV hv with⟨i,t,rfl,rfl⟩|⟨x,t,rfl,rfl⟩
  ·exact wpAny_pyHash_int h
  ·exact wpAny_pyHash_str h
 eqBool:=λhu hv h=>by
  rcases zV hu with⟨i,t,rfl,rfl⟩|⟨x,t,rfl,rfl⟩
  ·rcases zV hv with⟨j,u,rfl,rfl⟩|⟨y,u,rfl,rfl⟩
   ·rw[zrg] at h;exact wpAny_eqBool_int h
   ·rw[zr8] at h;exact SeqAt.EqAt.int_str i t y u _ _ _ _ h
  ·rcases zV hv with⟨j,u,rfl,rfl⟩|⟨y,u,rfl,rfl⟩
   ·rw[zrn] at h;exact SeqAt.EqAt.str_int x t j u _ _ _ _ h
   ·rw[zsc] at h;exact wpAny_eqBool_str h
 «strs»:=λk x t v h=>by
  rcases zV h with⟨i,u,rfl,e⟩|⟨y,u,rfl,e⟩
  ·exact nomatch e
  ·injection e with e1 _
   subst e1
   cases v<;>rfl
theorem zjF(prog:Program)(w:World)(i:Int)(t:Tok):(zS prog w).is (.inl i) (.int i t)=true:=zmc i t
theorem zjW(prog:Program)(w:World)(x:Str)(t:Tok):(zS prog w).is (.inr x) (.str x t)=true:=zl6 x t
inductive V where
 |non|bl (b:Bool)|int (i:Int)|str (x:Str)|byt (b:Array UInt8)|flt (b:UInt64)|ref (a:Addr)|ty (n:String)
 deriving DecidableEq
variable{xs us ys vs dvs us':List V}{v v':V}{kvs kvs' kh:List (Key×V)}
def RelV:V->Value->Prop
 | .non,u=>u=Value.none
 | .bl b,u=>u=Value.bool b
 | .int i,u=>∃t,u=Value.int i t
 | .str x,u=>∃t,u=Value.str x t
 | .byt b,u=>∃t,u=Value.bytes b t
 | .flt b,u=>∃t,u=Value.float b t
 | .ref a,u=>u=Value.ref a
 | .ty n,u=>u=Value.type n
abbrev Vals:List V->List Value->Prop:=Paired RelV
theorem Vals.length{us:List Value}(r:Vals xs us):xs.length=us.length:=Paired.length r
theorem Vals.get:∀{xs:List V} {us:List Value} {i:Nat} {x:V},Vals xs us->xs[i]?=some x->∃u,us[i]?=some u/\RelV x u
 |_,_,_,_, .nil,e=>by simp at e
 |_,_,0,_, .cons r _,e=>by simp at e;subst e;exact⟨_,rfl,r⟩
 |_,_,i+1,x, .cons _ t,e=>by
  obtain⟨u,h1,h2⟩:=Vals.get (i:=i) (x:=x) t (by simpa using e)
  exact⟨u,by simpa using h1,h2⟩
theorem Vals.set{x:V}(r:RelV x u):∀{xs:List V} {us:List Value} (i:Nat),Vals xs us->Vals (xs.set i x) (us.set i u)
 |_,_,_, .nil=> .nil
 |_,_,0, .cons _ t=> .cons r t
 |_,_,i+1, .cons q t=> .cons q (Vals.set r i t)
theorem Vals.append:∀{xs ys:List V} {us ws:List Value},Vals xs us->Vals ys ws->Vals (xs ++ys) (us ++ws)
 |_,_,_,_, .nil,s=>s
 |_,_,_,_, .cons r t,s=> .cons r (Vals.append t s)
theorem Vals.take:∀{xs:List V} {us:List Value} (n:Nat),Vals xs us->Vals (xs.take n) (us.take n)
 |_,_,0,_=> .nil
 |_,_,_+1, .nil=> .nil
 |_,_,n+1, .cons r t=> .cons r (Vals.take n t)
theorem Vals.drop:∀{xs:List V} {us:List Value} (n:Nat),Vals xs us->Vals (xs.drop n) (us.drop n)
 |_,_,0,r=>r
 |_,_,_+1, .nil=> .nil
 |_,_,n+1, .cons _ t=>Vals.drop n t
def RelO:Option V->Option Value->Prop
 |some v,some u=>RelV v u
 |none,none=>True
 |_,_=>False
def KV:List (κ×V)->List (κ×Value)->Prop:=Paired λ(p:κ×V) (q:κ×Value)=>p.1=q.1/\RelV p.2 q.2
noncomputable def kV:Key->V
 | .inl i=> .int i
 | .inr x=> .str x
inductive HO where
 |lst (xs:List V)
 |tup (xs:List V)
 |dK (kvs:List (Key×V))|dT (kvs:List (List Key×V))
 |set (S:Int->Bool) (n:Nat)
 |ins (C dx:Addr) (fs:List (Str×V))
 |own (x:Addr)
 |xd (fs:List (Str×V))
 |met (f x:Addr)
 |rng (lo hi:Int)
 |frz (o:Obj) (u:HO)
 |tbl (ps:Array Value)
 |ext (φ:Heap->Prop)
variable{o':HO}
noncomputable abbrev Hp:=Addr->Option HO
variable{H H' H1 H2 H3:Hp}
noncomputable def upd(H:Hp)(a:Addr)(o:HO):Hp:=λb=>if b=a then some o else H b
theorem zb{o:HO}:upd H a o a=some o:=by unfold upd;rw[R0 rfl]
theorem zd{b:Addr}{o:HO}(h:b≠a):upd H a o b=H b:=by unfold upd;rw[N0 h]
theorem zlG{o u:HO}:upd (upd H a o) a u=upd H a u:=by
 funext b;unfold upd;split<;>rfl
theorem zy{b:Addr}{o u:HO}(h:H a=some o)(h':H b=some u)(d:o≠u):a≠b:=by
 intro e;subst e;rw[h] at h';exact d (U1 h')
theorem zg{b:Addr}{o:HO}(h:H a=some o)(h':H b=none):a≠b:=by
 intro e;subst e;rw[h] at h';cases h'
section
variable(P:Program)(w:World)
def NoDict(h:Heap)(a:Addr):Prop:=∀o,h.get? a=some o->o.dict=none
theorem NoDict.new{h:Heap}{o:Obj}(e:o.dict=none)(f:(h.push o).get? h.objs.size=some o):NoDict (h.push o) h.objs.size:=λo' z=>by rw[f] at z;cases z;exact e
def ObjOk(H:Hp)(h:Heap)(a:Addr):HO->Prop
 | .lst xs=>xs.length<=sizeLine/\∃(its:List Value) (n:Nat),Vals xs its/\h.get? a=some {cls:= .type "list",data:= .seq its.toArray n}
 | .tup xs=>xs.length<=sizeLine/\∃its:List Value,Vals xs its/\IsTup h a its.toArray/\NoDict h a
 | .dK kvs=>kvs.length<=sizeLine/\(a==sysModules)=false/\∃vs,KV kvs vs/\h.DictOf (zS P w) a vs
 | .dT kvs=>kvs.length<=sizeLine/\(a==sysModules)=false/\∃xs:List (List Key×Addr×Value),
    Paired (λ(p:List Key×V) (q:List Key×Addr×Value)=>p.1=q.1/\H q.2.1=some (.tup (p.1.map kV))/\RelV p.2 q.2.2) kvs xs/\
    ∃o es ep,h.get? a=some o/\o.ExactDict/\o.data= .dict es ep/\es.toList=xs.map (entryOfKey (tupleKind (zS P w)))/\(xs.map (·.1)).Nodup
 | .set S n=>h.SetOf (intKind P w) a S n
 | .ins C dx fs=>H dx=some (.own a)/\fs.length<=1000/\dx≠a/\h.get? a=some (W.instObj C dx)/\
    ∃mA,h.Ns1 dx mA/\(∀f,RelO (fs.lookup f) (mA f))/\PySem.Within mA (fs.map (·.1))
 | .own _=>∃o,h.get? a=some o
 | .xd fs=>∃mA,h.Ns1 a mA/\∀f,RelO (fs.lookup f) (mA f)
 | .rng lo hi=>∃t u v,h.get? a=some {cls:= .type "range",data:= .fields #[.int lo t, .int hi u, .int 1 v]}
 | .frz o u=>h.get? a=some o/\ObjOk H h a u
 | .tbl ps=>h.get? a=some {cls:= .none,data:= .fields ps}
 | .met f x=>h.get? a=some (W.methodObj (.ref f) (.ref x))
 | .ext φ=>φ h/\(∃o,h.get? a=some o)/\∀h1 h2:Heap,φ h1->(∀o,h1.get? a=some o->h2.get? a=some o)->φ h2
def HOk(H:Hp)(h:Heap):Prop:=∀a o,H a=some o->ObjOk P w H h a o
end
section
variable{w:World}{h:Heap}{o:HO}
theorem ObjOk.lt(x:ObjOk P w H h a o):a<h.objs.size:=by
 cases o with
 |lst xs=>obtain ⟨_,_,_,_,e⟩:=x;exact V0 e
 |tup xs=>obtain ⟨_,_,_,p,_⟩:=x;exact p.lt
 |dK kvs=>obtain ⟨_,_,_,_,o,_,_,e,_⟩:=x;exact V0 e
 |dT kvs=>obtain ⟨_,_,_,_,o,_,_,e,_⟩:=x;exact V0 e
 |set S n=>obtain ⟨o,_,_,_,e,_⟩:=x;exact V0 e
 |ins C dx fs=>obtain ⟨_,_,_,e,_⟩:=x;exact V0 e
 |own y=>obtain ⟨_,e⟩:=x;exact V0 e
 |xd fs=>obtain ⟨_,⟨_,_,_,e,_⟩,_⟩:=x;exact V0 e
 |rng lo hi=>obtain ⟨_,_,_,e⟩:=x;exact V0 e
 |frz ob u=>obtain ⟨e,_⟩:=x;exact V0 e
 |tbl ps=>exact V0 (show h.get? a=some _ from x)
 |met f y=>exact V0 (show h.get? a=some _ from x)
 |ext φ=>obtain ⟨_,⟨_,e⟩,_⟩:=x;exact V0 e
theorem Paired.mapP{F G:α->β->Prop}:∀{l₁:List α} {l₂:List β},Paired F l₁ l₂->(∀a b,F a b->G a b)->Paired G l₁ l₂
 |_,_, .nil,_=> .nil
 |_,_, .cons r t,f=> .cons (f _ _ r) (Paired.mapP t f)
theorem ObjOk.stay(x:ObjOk P w H h a o)(k:∀b u,(b=a\/H b=some (.own a))->h.get? b=some u->h'.get? b=some u)
 (ho:∀b,H b=some (.own a)->H' b=some (.own a)) (ht:∀b xs,H b=some (.tup xs)->H' b=some (.tup xs)):ObjOk P w H' h' a o:=by
 induction o with
 |lst xs=>obtain ⟨z,its,n,r,e⟩:=x;exact⟨z,its,n,r,k _ _ (.inl rfl) e⟩
 |tup xs=>obtain ⟨z,its,r,⟨ob,e,c⟩,nd⟩:=x;exact⟨z,its,r,⟨ob,k _ _ (.inl rfl) e,c⟩,λo q=>by rw[k _ _ (.inl rfl) e] at q;cases q;exact nd _ e⟩
 |dK kvs=>obtain ⟨z,y,vs,r,ob,es,ep,e,c⟩:=x;exact⟨z,y,vs,r,ob,es,ep,k _ _ (.inl rfl) e,c⟩
 |dT kvs=>
  obtain⟨z,y,xs,r,ob,es,ep,e,c⟩:=x
  exact⟨z,y,xs,Paired.mapP r λp q z=>⟨z.1,ht _ _ z.2.1,z.2.2⟩,ob,es,ep,k _ _ (.inl rfl) e,c⟩
 |set S n=>obtain ⟨ob,es,ep,t,e,c⟩:=x;exact⟨ob,es,ep,t,k _ _ (.inl rfl) e,c⟩
 |ins C dx fs=>
  obtain⟨d,z,ne,e,mA,⟨od,es,ep,e2,c⟩,r⟩:=x
  exact⟨ho _ d,z,ne,k _ _ (.inl rfl) e,mA,⟨od,es,ep,k _ _ (.inr d) e2,c⟩,r⟩
 |own y=>obtain ⟨ob,e⟩:=x;exact⟨ob,k _ _ (.inl rfl) e⟩
 |xd fs=>obtain ⟨mA,⟨od,es,ep,e,c⟩,r⟩:=x;exact⟨mA,⟨od,es,ep,k _ _ (.inl rfl) e,c⟩,r⟩
 |rng lo hi=>obtain ⟨t,u,v,e⟩:=x;exact⟨t,u,v,k _ _ (.inl rfl) e⟩
 |frz ob u ih=>obtain ⟨e,q⟩:=x;exact⟨k _ _ (.inl rfl) e,ih q⟩
 |tbl ps=>
  have e:h.get? a=some {cls:= .none,data:= .fields ps}:=x
  show h'.get? a=some {cls:= .none,data:= .fields ps}
  exact k a _ (.inl rfl) e
 |met f y=>
  have e:h.get? a=some (W.methodObj (.ref f) (.ref y)):=x
  show h'.get? a=some (W.methodObj (.ref f) (.ref y))
  exact k a _ (.inl rfl) e
 |ext φ=>obtain ⟨p,⟨o,e⟩,st⟩:=x;exact⟨st _ _ p λo q=>k _ _ (.inl rfl) q,⟨o,k _ _ (.inl rfl) e⟩,st⟩
theorem HOk.lt(x:HOk P w H h)(e:H a=some o):a<h.objs.size:=(x a o e).lt
theorem HOk.fresh(x:HOk P w H h)(e:h.objs.size<=a):H a=none:=by
 cases q:H a with
 |none=>rfl
 |some u=>exact absurd (O1 (x.lt q) e) (Nat.lt_irrefl _)
theorem HOk.kept(x:HOk P w H h)(k:∀b u,h.get? b=some u->h'.get? b=some u):HOk P w H h':=λa o e=>
 (x a o e).stay (λb u _ q=>k b u q) (λ_ q=>q) λ_ _ q=>q
theorem HOk.laid(x:HOk P w H h)(k:∀b u,h.get? b=some u->h'.get? b=some u)(hp:h.objs.size<=a)(new:ObjOk P w (upd H a o) h' a o):HOk P w (upd H a o) h':=λb u e=>by
 have hn:=x.fresh hp
 by_cases hb:b=a
 ·subst hb;rw[zb] at e;cases e;exact new
 ·rw[zd hb] at e
  exact(x b u e).stay (λc v _ q=>k c v q) (λc q=>by rw[zd (zg q hn)];exact q) λc xs q=>by rw[zd (zg q hn)];exact q
end
def Rd(H:Hp)(a:Addr)(u:HO):Prop:=H a=some u\/∃o,H a=some (.frz o u)
theorem Rd.ok{w:World}{h:Heap}{u:HO}(r:Rd H a u)(x:HOk P w H h):ObjOk P w H h a u:=by
 rcases r with r|⟨o,r⟩
 ·exact x a u r
 ·obtain ⟨_,q⟩:=x a _ r
  exact q
def Mut:Option HO->Prop
 |some (.lst _)=>True
 |some (.dK _)=>True
 |some (.dT _)=>True
 |some (.set _ _)=>True
 |some (.ins _ _ _)=>True
 |some (.ext _)=>True
 |_=>False
section
variable{w:World}{h:Heap}{x e:Addr}
theorem HOk.write(ok:HOk P w H h)(mu:Mut (H x))(he:e=x\/H e=some (.own x))(k:∀b u,b≠e->h.get? b=some u->h'.get? b=some u)(heo:∃u,h'.get? e=some u)
 (new:ObjOk P w (upd H x o') h' x o'):HOk P w (upd H x o') h':=λb u q=>by
 have nown:∀c y,H c=some (.own y)->c≠x:=λc y r z=>by subst z;rw[r] at mu;exact mu
 have ntup:∀c xs,H c=some (.tup xs)->c≠x:=λc xs r z=>by subst z;rw[r] at mu;exact mu
 by_cases hb:b=x
 ·subst hb;rw[zb] at q;cases q;exact new
 ·rw[zd hb] at q
  by_cases hbe:b=e
  ·have q':H b=some (.own x):=by
    rcases he with z|z
    ·exact absurd (hbe.trans z) hb
    ·rw[hbe];exact z
   rw[q] at q';cases q'
   obtain⟨v,hv⟩:=heo
   exact⟨v,by rw[hbe];exact hv⟩
  ·refine (ok b u q).stay (λc v hc r=>k c v ?_ r) (λc r=>by rw[zd (nown c b r)];exact r) λc xs r=>by rw[zd (ntup c xs r)];exact r
   rcases hc with rfl|hc
   ·exact hbe
   ·rintro rfl
    rcases he with z|z
    ·exact nown c b hc z
    ·rw[hc] at z;cases z;exact hb rfl
end
structure Un(fs ex:List Addr)(H H':Hp)(h h':Heap):Prop where
 keep:∀b o,h.get? b=some o->H b=none->b∉fs->b∉ex->h'.get? b=some o
 slot:∀b o,h.get? b=some o->H b=none->b∈fs->b∉ex->∃sl,h'.get? b=some {o with slots:=sl}
 free:∀b o,h.get? b=some o->H b=none->b∉ex->H' b=none
 there:∀b o,h.get? b=some o->b∉ex->∃o',h'.get? b=some o'
 tups:∀b xs,H b=some (.tup xs)->H' b=some (.tup xs)
 frzs:∀b o u,H b=some (.frz o u)->H' b=some (.frz o u)
 tbls:∀b ps,H b=some (.tbl ps)->∃more,H' b=some (.tbl (ps ++more))
section
variable{fs fs' ex ex':List Addr}{h h1 h2:Heap}{x e:Addr}{o:HO}
theorem Un.any(u:Un fs ex H H1 h h1){b:Addr}{ob:Obj}(q:h.get? b=some ob)(n:H b=none)(hx:b∉ex):∃sl,h1.get? b=some {ob with slots:=sl}:=by
 by_cases hb:b∈fs
 ·exact u.slot b ob q n hb hx
 ·exact ⟨ob.slots,u.keep b ob q n hb hx⟩
theorem Un.kept(k:∀b u,h.get? b=some u->h'.get? b=some u):Un fs ex H H h h':=
 ⟨λb ob q _ _ _=>k b ob q,λb ob q _ _ _=>⟨ob.slots,k b ob q⟩,λ_ _ _ n _=>n,λb ob q _=>⟨ob,k b ob q⟩,λ_ _ q=>q,λ_ _ _ q=>q,λ_ ps q=>⟨#[],by rw[q];simp⟩⟩
theorem Un.refl:Un fs ex H H h h:=Un.kept λ_ _ q=>q
theorem Un.laid(k:∀b u,h.get? b=some u->h'.get? b=some u)(hp:h.objs.size<=a)(hn:H a=none):Un fs ex H (upd H a o) h h' where
 keep:=λb u q _ _ _=>k b u q
 slot:=λb u q _ _ _=>⟨u.slots,k b u q⟩
 free:=λb u q n _=>by rw[zd (P1 (O1 (V0 q) hp))];exact n
 there:=λb u q _=>⟨u,k b u q⟩
 tups:=λb xs q=>by rw[zd (zg q hn)];exact q
 frzs:=λb u xs q=>by rw[zd (zg q hn)];exact q
 tbls:=λb ps q=>⟨#[],by rw[zd (zg q hn),q];simp⟩
theorem Un.write(mu:Mut (H x))(he:e=x\/H e=some (.own x))(k:∀b u,b≠e->h.get? b=some u->h'.get? b=some u)(heo:∃u,h'.get? e=some u):Un fs ex H (upd H x o) h h':=by
 have hx:∀b,H b=none->b≠x:=λb n z=>by subst z;rw[n] at mu;exact mu
 have hb:∀b,H b=none->b≠e:=λb n z=>by
  subst z
  rcases he with r|r
  ·exact hx b n r
  ·rw[n] at r;cases r
 have hm:∀b u,H b=some u->¬Mut (some u)->b≠x:=λb u q nm z=>by subst z;rw[q] at mu;exact nm mu
 refine⟨λb u q n _ _=>k b u (hb b n) q,λb u q n _ _=>⟨u.slots,k b u (hb b n) q⟩,λb u q n _=>by rw[zd (hx b n)];exact n,λb u q _=>?_,
  λb xs q=>by rw[zd (hm b _ q λz=>z)];exact q,λb u xs q=>by rw[zd (hm b _ q λz=>z)];exact q,λb ps q=>⟨#[],by rw[zd (hm b _ q λz=>z),q];simp⟩⟩
 by_cases hbe:b=e
 ·subst hbe;exact heo
 ·exact ⟨u,k b u hbe q⟩
end
noncomputable def trk(h:Heap)(H:Hp):List Addr:=(List.range h.objs.size).filter λa=>(H a).isSome
noncomputable def zh6(h:Heap)(H:Hp):Heap:=W.hideAll h (trk h H)
theorem zmS(h:Heap)(H:Hp):(zh6 h H).objs.size=h.objs.size:=W.hideAll_size _ _
theorem zn6{h:Heap}{b:Addr}{o:Obj}(e:h.get? b=some o)(n:H b=none):(zh6 h H).get? b=some o:=
 W.hideAll_get _ e λhm=>by
  have q:(H b).isSome=true:=(O2.mp hm).2
  rw[n] at q;simp at q
theorem zqz{h:Heap}{b:Addr}{o:Obj}(e:(zh6 h H).get? b=some o):h.get? b=some o/\H b=none:=by
 have e':h.get? b=some o:=W.of_hideAll (trk h H) e
 refine⟨e',?_⟩
 cases q:H b with
 |none=>rfl
 |some x=>
  have hm:b∈trk h H:=O2.mpr ⟨List.mem_range.mpr (V0 e'),by simp[q]⟩
  have z:(zh6 h H).get? b=none:=W.hideAll_none (trk h H) hm
  rw[z] at e;cases e
structure Mod(K:W.Frag)(mg:Str->Option Value)(base:Heap):Prop where
 kin:K.In base
 glob:base.Ns mainGlobals mg
 blt:∃mb,base.Ns builtinsNs mb/\∀x:Str,x≠"__name__"->mb x=bootBuiltins x
 nolimit:base.NoLimit
structure Cx where
 prog:Program
 w:World
 K:W.Frag
 mg:Str->Option Value
 base:Heap
 A:Around
 N:List Str
 s₀:Shared
 H₀:Hp
 env:Env
 outer:List Env
 stack:List Env
 ex:List Addr
 fn:Str->Bool
 calm:Bool
 pn:List (Addr×Obj)
 xe:Value->Shared->Prop
variable{N:List Str}{w:World}{K:W.Frag}{X:Cx}{A:Around}{prog:Program}{env:Env}{outer:List Env}{pn:List (Addr×Obj)}{xe:Value->Shared->Prop}
noncomputable def frs(l:List Env):List Addr:=l.filterMap (·.frame)
noncomputable abbrev Cx.fs(X:Cx):List Addr:=frs X.outer
variable{fs:List Addr}
def Vis(sc:Scope)(x:Str):Prop:=sc.names.lookup x=some .local\/sc.names.lookup x=some .cell\/sc.names.lookup x=some .free
def Loc(sc:Scope)(x:Str):Prop:=sc.names.lookup x=some .local\/sc.names.lookup x=some .cell
def ztj(env:Env)(h:Heap)(m:Str->Option Value)(x:Str)(u:Value):Prop:=
 (env.kindOf x=some .local/\m x=some u)\/((env.kindOf x=some .cell\/env.kindOf x=some .free)/\∃c,env.cells.lookup x=some c/\h.IsCell c (some u))
structure Cx.Ok(X:Cx):Prop where
 mod:Mod X.K X.mg X.base
 kind:X.env.scope.kind= .function
 glob:X.env.globals=mainGlobals
 blt:X.env.builtins=builtinsNs
 above:X.s₀.heap.objs.size<=X.env.locals
 inj:∀x y c,X.env.cells.lookup x=some c->X.env.cells.lookup y=some c->x=y
 has:∀x,(X.env.kindOf x=some .cell\/X.env.kindOf x=some .free)->∃c,X.env.cells.lookup x=some c
 cab:∀x c,X.fn x=true->X.env.cells.lookup x=some c->X.s₀.heap.objs.size<=c
 hd:X.calm=true->X.A.handled=none
 frames:X.A.frames=some X.stack
 stk:X.stack=X.outer\/(X.stack=X.env::X.outer/\X.env.frame=some X.env.locals)
 exf:∀b∈X.ex,b≠X.env.locals/\∀x c,X.env.cells.lookup x=some c->c≠b
 bs:∀b o,X.base.get? b=some o->X.s₀.heap.get? b=some o/\X.H₀ b=none
 bsz:X.base.objs.size<=X.s₀.heap.objs.size
 noex:∀b o,X.base.get? b=some o->b∉X.ex
 exfs:∀b∈X.ex,b∉X.fs
 funs:X.s₀.heap.FunFrames X.base X.outer
 frf:∀b∈X.fs,X.H₀ b=none
structure Inv(X:Cx)(pins:List (Addr×Obj))(σ:List (Option V))(H:Hp)(s:Shared):Prop where
 ok:X.Ok
 os:s.os=X.s₀.os
 bare:AllBare s.gens
 base:Un X.fs X.ex X.H₀ H X.s₀.heap s.heap
 loc:∃m,s.heap.Ns X.env.locals m/\∀(i:Nat) (x:Str) (v:V),X.N[i]?=some x->σ[i]?=some (some v)->Vis X.env.scope x->∃u,RelV v u/\ztj X.env s.heap m x u
 cell:∀x c,X.env.cells.lookup x=some c->∃v,s.heap.IsCell c v
 free:H X.env.locals=none
 freeC:∀x c,X.env.cells.lookup x=some c->H c=none
 pin:∀p∈X.pn ++pins,s.heap.get? p.1=some p.2/\H p.1=none/\p.1≠X.env.locals/\p.1∉X.fs/\∀v,p.2.data≠ .cell v
 hok:HOk X.prog X.w H s.heap
 len:σ.length=X.N.length
section
variable{σ:List (Option V)}
theorem Cx.Ok.nofr(ok:X.Ok){b:Addr}{o:Obj}(e:X.base.get? b=some o):b∉X.fs:=λhb=>by
 have:=(ok.funs.mem hb).1
 rw[e] at this;cases this
theorem Inv.bs(I:Inv X pins σ H s):∀b o,X.base.get? b=some o->s.heap.get? b=some o/\H b=none:=λb o e=>
 ⟨I.base.keep b o (I.ok.bs b o e).1 (I.ok.bs b o e).2 (I.ok.nofr e) (I.ok.noex b o e),I.base.free b o (I.ok.bs b o e).1 (I.ok.bs b o e).2 (I.ok.noex b o e)⟩
theorem Inv.bk(I:Inv X pins σ H s):∀b o,X.base.get? b=some o->s.heap.get? b=some o:=λb o e=>(I.bs b o e).1
theorem Inv.mod(I:Inv X pins σ H s):Mod X.K X.mg X.base:=I.ok.mod
theorem Inv.kIn(I:Inv X pins σ H s):X.K.In s.heap:=I.ok.mod.kin.keeps I.bk
theorem Inv.lt(I:Inv X pins σ H s):X.env.locals<s.heap.objs.size:=let⟨_,hn,_⟩:=I.loc;hn.lt
theorem Inv.sz(I:Inv X pins σ H s):X.s₀.heap.objs.size<=s.heap.objs.size:=V1 I.ok.above (Nat.le_of_lt I.lt)
theorem Inv.nofs(I:Inv X pins σ H s)(h:s.heap.objs.size<=a):a∉X.fs:=λhb=>by
 obtain⟨_,o,ho,_⟩:=I.ok.funs.mem hb
 exact absurd (O1 (V0 ho) (V1 I.sz h)) (Nat.lt_irrefl _)
theorem Inv.cne(I:Inv X pins σ H s):∀x c,X.env.cells.lookup x=some c->c≠X.env.locals:=λx c e z=>by
 obtain⟨v,o,ho,hd⟩:=I.cell x c e
 obtain⟨m,⟨o',es,ep,ho',hd',_⟩,_⟩:=I.loc
 rw[z,ho'] at ho;cases ho;rw[hd'] at hd;cases hd
theorem Inv.funs(I:Inv X pins σ H s):s.heap.FunFrames X.base X.outer:=by
 have all:∀(l:List Env),(∀b∈frs l,b∈X.fs)->X.s₀.heap.FunFrames X.base l->s.heap.FunFrames X.base l:=by
  intro l
  induction l with
  |nil=>intro _ _;trivial
  |cons env r ih=>
   intro hs hl
   obtain⟨hk,⟨L,o,hf,hn,ho,hd⟩,hr⟩:=hl
   have hL:L∈X.fs:=hs L (by unfold frs;rw[List.filterMap_cons,hf];exact K1)
   obtain⟨sl,e⟩:=I.base.slot L o ho (I.ok.frf L hL) hL λz=>I.ok.exfs L z hL
   exact⟨hk,⟨L,_,hf,hn,e,hd⟩,ih (λb hb=>hs b (by unfold frs;rw[List.filterMap_cons,hf];exact b0 _ hb)) hr⟩
 exact all X.outer (λ_ hb=>hb) I.ok.funs
theorem Inv.stack(I:Inv X pins σ H s):s.heap.FunFrames X.base X.stack:=by
 rcases I.ok.stk with e|⟨e,hf⟩
 ·rw[e];exact I.funs
 ·rw[e]
  obtain⟨m,hn,_⟩:=I.loc
  refine .cons (by rw[I.ok.kind];decide) hf hn ?_ I.funs
  exact Heap.get?_none_of_le (V1 I.ok.bsz I.ok.above)
theorem Inv.stkSub(I:Inv X pins σ H s):∀b∈frs X.stack,b∈X.env.locals::X.fs:=λb hb=>by
 rcases I.ok.stk with e|⟨e,hf⟩
 ·rw[e] at hb;exact b0 _ hb
 ·rw[e] at hb
  unfold frs at hb
  rw[List.filterMap_cons,hf] at hb
  exact hb
theorem Inv.stkFree(I:Inv X pins σ H s):∀b∈frs X.stack,H b=none:=λb hb=>by
 rcases X0.mp (I.stkSub b hb)with e|hb
 ·rw[e];exact I.free
 ·obtain ⟨_,o,ho,_⟩:=I.ok.funs.mem hb
  exact I.base.free b o ho (I.ok.frf b hb) λz=>I.ok.exfs b z hb
theorem Inv.step{ch:List Addr}(I:Inv X pins σ H s)
 (hch:∀b∈ch,(b∈X.ex\/X.s₀.heap.objs.size<=b)/\b≠X.env.locals/\(∀x c,X.env.cells.lookup x=some c->c≠b)/\∀p∈X.pn ++pins,p.1≠b)
 (keep:∀b o,b≠X.env.locals->b∉X.fs->b∉ch->s.heap.get? b=some o->H b=none->h'.get? b=some o)
 (slot:∀b o,b≠X.env.locals->b∈X.fs->b∉ch->s.heap.get? b=some o->H b=none->∃sl,h'.get? b=some {o with slots:=sl}) (free:∀b o,b∉ch->s.heap.get? b=some o->H b=none->H' b=none)
 (there:∀b o,b∉ch->s.heap.get? b=some o->∃o',h'.get? b=some o')
 (tups:∀b xs,H b=some (.tup xs)->H' b=some (.tup xs)) (frzs:∀b o u,H b=some (.frz o u)->H' b=some (.frz o u)) (tbls:∀b ps,H b=some (.tbl ps)->∃more,H' b=some (.tbl (ps ++more)))
 (ns:∀m,s.heap.Ns X.env.locals m->h'.Ns X.env.locals m) (hok:HOk X.prog X.w H' h') (hg:AllBare g'):
 Inv X pins σ H' {s with heap:=h',gens:=g',drawn:=d',toks:=t'}:=by
 have neL:∀b o,X.s₀.heap.get? b=some o->b≠X.env.locals:=λb o e=>P1 (O1 (V0 e) I.ok.above)
 have neC:∀b o,X.s₀.heap.get? b=some o->b∉X.ex->b∉ch:=λb o e hx hb=>by
  rcases(hch b hb).1 with z|z
  ·exact hx z
  ·exact absurd (O1 (V0 e) z) (Nat.lt_irrefl _)
 have cellK:∀x c,X.env.cells.lookup x=some c->∀v,s.heap.IsCell c v->h'.IsCell c v:=λx c e v ⟨o,ho,hd⟩=>by
  have nch:c∉ch:=λz=>(hch c z).2.2.1 x c e rfl
  by_cases hc:c∈X.fs
  ·obtain ⟨sl,q⟩:=slot c o (I.cne x c e) hc nch ho (I.freeC x c e)
   exact⟨_,q,hd⟩
  ·exact ⟨o,keep c o (I.cne x c e) hc nch ho (I.freeC x c e),hd⟩
 refine⟨I.ok,I.os,hg,⟨λb o e n hb hx=>?_,λb o e n hb hx=>?_,λb o e n hx=>?_,λb o e hx=>?_,λb xs e=>tups b xs (I.base.tups b xs e),λb o xs e=>frzs b o xs (I.base.frzs b o xs e),λb ps e=>?_⟩,?_,λx c e=>?_,?_,λx c e=>?_,λp hp=>?_,hok,I.len⟩
 ·exact keep b o (neL b o e) hb (neC b o e hx) (I.base.keep b o e n hb hx) (I.base.free b o e n hx)
 ·obtain ⟨sl,e1⟩:=I.base.slot b o e n hb hx
  obtain⟨sl',e2⟩:=slot b _ (neL b o e) hb (neC b o e hx) e1 (I.base.free b o e n hx)
  exact⟨sl',e2⟩
 ·obtain ⟨o',e1⟩:=I.base.there b o e hx
  exact free b o' (neC b o e hx) e1 (I.base.free b o e n hx)
 ·obtain ⟨o',e1⟩:=I.base.there b o e hx
  exact there b o' (neC b o e hx) e1
 ·obtain ⟨m1,e1⟩:=I.base.tbls b ps e
  obtain⟨m2,e2⟩:=tbls b _ e1
  exact⟨m1 ++m2,by rw[e2,Array.append_assoc]⟩
 ·obtain ⟨m,hn,hl⟩:=I.loc
  refine⟨m,ns m hn,λi x v e1 e2 e3=>?_⟩
  obtain⟨u,r,l⟩:=hl i x v e1 e2 e3
  refine⟨u,r,?_⟩
  rcases l with l|⟨k,c,e,z⟩
  ·exact .inl l
  ·exact .inr ⟨k,c,e,cellK x c e _ z⟩
 ·obtain ⟨v,z⟩:=I.cell x c e
  exact⟨v,cellK x c e v z⟩
 ·obtain ⟨m,⟨o,_,_,ho,_⟩,_⟩:=I.loc
  exact free _ o (λz=>(hch _ z).2.1 rfl) ho I.free
 ·obtain ⟨v,o,ho,hd⟩:=I.cell x c e
  exact free c o (λz=>(hch c z).2.2.1 x c e rfl) ho (I.freeC x c e)
 ·obtain ⟨e,n,ne,nf,d⟩:=I.pin p hp
  have nch:p.1∉ch:=λz=>(hch p.1 z).2.2.2 p hp rfl
  exact⟨keep p.1 p.2 ne nf nch e n,free p.1 p.2 nch e n,ne,nf,d⟩
theorem Inv.un(I:Inv X pins σ H s)(u:Un X.fs [] H H' s.heap h')(hok:HOk X.prog X.w H' h'):Inv X pins σ H' {s with heap:=h',toks:=t'}:=by
 obtain⟨m,⟨o,es,ep,ho,r⟩,_⟩:=id I.loc
 obtain⟨sl,hL⟩:=u.any ho I.free `Z3
 exact I.step (g':=s.gens) (d':=s.drawn) (ch:=[]) (λ_ z=>nomatch z) (λb o _ hb _ e n=>u.keep b o e n hb `Z3) (λb o _ hb _ e n=>u.slot b o e n hb `Z3) (λb o _ e n=>u.free b o e n `Z3) (λb o _ e=>u.there b o e `Z3) u.tups u.frzs u.tbls (λm' hm=>by
  obtain⟨o',es',ep',ho',r'⟩:=hm
  rw[ho] at ho';cases ho'
  exact⟨_,es',ep',hL,r'⟩) hok I.bare
theorem Inv.call{ch:List Addr}(I:Inv X pins σ H s)(u:Un (frs X.stack) ch H H' s.heap h')(hok:HOk X.prog X.w H' h')(hg:AllBare g')
 (hch:∀b∈ch,(b∈X.ex\/X.s₀.heap.objs.size<=b)/\b≠X.env.locals/\(∀x c,X.env.cells.lookup x=some c->c≠b)/\∀p∈X.pn ++pins,p.1≠b):
 Inv X pins σ H' {s with heap:=h',gens:=g',drawn:=d',toks:=t'}:=by
 obtain⟨m,⟨o,es,ep,ho,r⟩,_⟩:=id I.loc
 obtain⟨sl,hL⟩:=u.any ho I.free λz=>(hch _ z).2.1 rfl
 exact I.step (ch:=ch) hch (λb o hL hb hc e n=>u.keep b o e n (λz=>(X0.mp (I.stkSub b z)).elim hL hb) hc) (λb o _ _ hc e n=>u.any e n hc) (λb o hc e n=>u.free b o e n hc) (λb o hc e=>u.there b o e hc) u.tups u.frzs u.tbls (λm' hm=>by
  obtain⟨o',es',ep',ho',r'⟩:=hm
  rw[ho] at ho';cases ho'
  exact⟨_,es',ep',hL,r'⟩) hok hg
theorem Inv.turned(I:Inv X pins σ H s)(k:∀b o,b≠it->s.heap.get? b=some o->h'.get? b=some o)(hn:H it=none)(hL:it≠X.env.locals)
 (h1:it∈X.ex\/X.s₀.heap.objs.size<=it) (h2:∀x c,X.env.cells.lookup x=some c->c≠it) (h3:∀p∈X.pn ++pins,p.1≠it):Inv X pins σ H {s with heap:=h',toks:=t'}:=by
 have nit:∀b u,H b=some u->b≠it:=λb u e z=>by rw[z,hn] at e;cases e
 refine I.step (g':=s.gens) (d':=s.drawn) (ch:=[it]) (λb hb=>?_) (λb o _ _ hc e _=>k b o (λz=>hc (by simp[z])) e) (λb o _ _ hc e _=>⟨o.slots,k b o (λz=>hc (by simp[z])) e⟩) (λ_ _ _ _ n=>n)
  (λb o hc e=>⟨o,k b o (λz=>hc (by simp[z])) e⟩) (λ_ _ e=>e) (λ_ _ _ e=>e) (λb ps e=>⟨#[],by rw[e];simp⟩) (λm hm=>?_) (λb u e=>?_) I.bare
 ·have e:b=it:=by simpa using hb
  subst e
  exact⟨h1,hL,h2,h3⟩
 ·obtain ⟨o,es,ep,ho,r⟩:=hm
  exact⟨o,es,ep,k _ o (Ne.symm hL) ho,r⟩
 ·refine (I.hok b u e).stay (λc v hc q=>k c v ?_ q) (λ_ q=>q) λ_ _ q=>q
  rcases hc with z|z
  ·rw[z];exact nit b u e
  ·exact nit c _ z
theorem Inv.tok(I:Inv X pins σ H s)(t:Nat):Inv X pins σ H {s with toks:=t}:=I.un (h':=s.heap) (t':=t) Un.refl I.hok
theorem Inv.kept(I:Inv X pins σ H s)(k:∀b u,s.heap.get? b=some u->h'.get? b=some u):Inv X pins σ H {s with heap:=h',toks:=t'}:=I.un (Un.kept k) (I.hok.kept k)
theorem Inv.laid{o:HO}(I:Inv X pins σ H s)(k:∀b u,s.heap.get? b=some u->h'.get? b=some u)(hp:s.heap.objs.size<=a)(new:ObjOk X.prog X.w (upd H a o) h' a o):
 Inv X pins σ (upd H a o) {s with heap:=h',toks:=t'}:=I.un (Un.laid k hp (I.hok.fresh hp)) (I.hok.laid k hp new)
theorem Inv.write{x e:Addr}{o:HO}(I:Inv X pins σ H s)(mu:Mut (H x))(he:e=x\/H e=some (.own x))(k:∀b u,b≠e->s.heap.get? b=some u->h'.get? b=some u)(heo:∃u,h'.get? e=some u)
 (new:ObjOk X.prog X.w (upd H x o) h' x o):Inv X pins σ (upd H x o) {s with heap:=h',toks:=t'}:=I.un (Un.write mu he k heo) (I.hok.write mu he k heo new)
theorem Inv.pins_of(I:Inv X pins σ H s)(h:∀p∈pins',s.heap.get? p.1=some p.2/\H p.1=none/\p.1≠X.env.locals/\p.1∉X.fs/\∀v,p.2.data≠ .cell v):Inv X pins' σ H s:=
 ⟨I.ok,I.os,I.bare,I.base,I.loc,I.cell,I.free,I.freeC,λp hp=>(Q2.mp hp).elim (λz=>I.pin p (List.mem_append_left _ z)) (h p),I.hok,I.len⟩
theorem zgt(hN:N.Nodup)(a:N[i]?=some x)(b:N[j]?=some x):i=j:=by
 obtain⟨h1,e1⟩:=X1.mp a
 obtain⟨h2,e2⟩:=X1.mp b
 exact(List.getElem_inj hN).mp (e1.trans e2.symm)
theorem zmZ{Q:Unit->Shared->Prop}(I:Inv X pins σ H s)(hN:X.N.Nodup)(hi:X.N[i]?=some x)(hx:Loc X.env.scope x)(r:RelV v u)
 (h:∀s',Inv X pins (σ.set i (some v)) H s'->(∃a,Heap.SameBut a s.heap s'.heap/\(a=X.env.locals\/X.env.cells.lookup x=some a))->Q Unit.unit s') (hf:autoParam (X.fn x=true\/X.env.scope.names.lookup x=some .local) r6):wpAny M A (storeName X.env x u) Q E s:=by
 obtain⟨m,hn,hl⟩:=id I.loc
 have hcls:(X.env.scope.kind== .class||(X.env.scope.kind== .module&&X.env.locals !=X.env.globals))=false:=by rw[I.ok.kind];rfl
 have hiσ:i<σ.length:=by rw[I.len];exact(X1.mp hi).1
 have cne:=I.cne
 have tracked:∀{a:Addr} {h':Heap},(∃o,s.heap.get? a=some o/\H a=none)->Heap.SameBut a s.heap h'->HOk X.prog X.w H h':=λ{a h'} ha hs b ob e=>by
  obtain⟨_,_,hfree⟩:=ha
  refine(I.hok b ob e).stay (λc w' hc q=>(hs.2 c ?_).trans q) (λ_ q=>q) λ_ _ q=>q
  rintro rfl
  rcases hc with rfl|hc
  ·rw[hfree] at e;cases e
  ·rw[hfree] at hc;cases hc
 rcases hx with hk|hk
 ·refine wpAny_storeName_local hk hn (λh' hn' hs=>?_) hcls
  obtain⟨oL,_,_,hoL,_⟩:=id hn
  refine h _ ⟨I.ok,I.os,I.bare,⟨λb o e n hb hx=>?_,λb o e n hb hx=>?_,I.base.free,λb o e hx=>?_,I.base.tups,I.base.frzs,I.base.tbls⟩,⟨_,hn',λj y v' e1 e2 e3=>?_⟩,λy c e=>?_,I.free,I.freeC,λp hp=>?_,tracked ⟨oL,hoL,I.free⟩ hs,by simpa using I.len⟩ ⟨_,hs, .inl rfl⟩
  ·exact (hs.2 b (P1 (O1 (V0 e) I.ok.above))).trans (I.base.keep b o e n hb hx)
  ·obtain ⟨sl,e1⟩:=I.base.slot b o e n hb hx
   exact⟨sl,(hs.2 b (P1 (O1 (V0 e) I.ok.above))).trans e1⟩
  ·obtain ⟨o',e1⟩:=I.base.there b o e hx
   exact⟨o',(hs.2 b (P1 (O1 (V0 e) I.ok.above))).trans e1⟩
  ·by_cases hj:j=i
   ·subst hj
    rw[hi] at e1;cases e1
    rw[List.getElem?_set_self hiσ] at e2
    cases e2
    exact⟨u,r, .inl ⟨hk,`Z3⟩⟩
   ·rw[List.getElem?_set_ne (Ne.symm hj)] at e2
    obtain⟨u',r',q⟩:=hl j y v' e1 e2 e3
    refine⟨u',r',?_⟩
    rcases q with⟨k,e⟩|⟨k,c,e,z⟩
    ·refine .inl ⟨k,?_⟩
     have:y≠x:=λe=>hj (zgt hN e1 (e▸hi))
     simp[this,e]
    ·exact .inr ⟨k,c,e,z.sameBut hs (cne y c e)⟩
  ·obtain ⟨w',z⟩:=I.cell y c e
   exact⟨w',z.sameBut hs (cne y c e)⟩
  ·obtain ⟨e,n,ne,nf,d⟩:=I.pin p hp
   exact⟨(hs.2 p.1 ne).trans e,n,ne,nf,d⟩
 ·have hfn:X.fn x=true:=by
   rcases hf with z|z
   ·exact z
   ·rw[z] at hk;cases hk
  obtain⟨c,hc⟩:=I.ok.has x (.inl hk)
  obtain⟨w',z⟩:=I.cell x c hc
  refine wpAny_storeName_cell I.ok.kind hk hc z (λh' hc' hs=>?_)
  obtain⟨oc,hoc,hocd⟩:=id z
  refine h {s with heap:=h'} ⟨I.ok,I.os,I.bare,⟨λb o e n hb hx=>?_,λb o e n hb hx=>?_,I.base.free,λb o e hx=>?_,I.base.tups,I.base.frzs,I.base.tbls⟩,⟨m,hn.sameBut hs (Ne.symm (cne x c hc)),λj y v' e1 e2 e3=>?_⟩,λy c' e=>?_,I.free,I.freeC,λp hp=>?_,tracked ⟨oc,hoc,I.freeC x c hc⟩ hs,by simpa using I.len⟩ ⟨c,hs, .inr hc⟩
  ·exact (hs.2 b (P1 (O1 (V0 e) (I.ok.cab x c hfn hc)))).trans (I.base.keep b o e n hb hx)
  ·obtain ⟨sl,e1⟩:=I.base.slot b o e n hb hx
   exact⟨sl,(hs.2 b (P1 (O1 (V0 e) (I.ok.cab x c hfn hc)))).trans e1⟩
  ·obtain ⟨o',e1⟩:=I.base.there b o e hx
   exact⟨o',(hs.2 b (P1 (O1 (V0 e) (I.ok.cab x c hfn hc)))).trans e1⟩
  ·by_cases hj:j=i
   ·subst hj
    rw[hi] at e1;cases e1
    rw[List.getElem?_set_self hiσ] at e2
    cases e2
    exact⟨u,r, .inr ⟨.inl hk,c,hc,hc'⟩⟩
   ·rw[List.getElem?_set_ne (Ne.symm hj)] at e2
    obtain⟨u',r',q⟩:=hl j y v' e1 e2 e3
    refine⟨u',r',?_⟩
    rcases q with q|⟨k,c',e,z'⟩
    ·exact .inl q
    ·refine .inr ⟨k,c',e,z'.sameBut hs ?_⟩
     rintro rfl
     exact hj (zgt hN e1 (I.ok.inj _ _ _ e hc▸hi))
  ·by_cases hcc:c'=c
   ·subst hcc;exact⟨_,hc'⟩
   ·obtain ⟨w2,z2⟩:=I.cell y c' e
    exact⟨w2,z2.sameBut hs hcc⟩
  ·obtain ⟨e,n,ne,nf,d⟩:=I.pin p hp
   refine⟨(hs.2 p.1 ?_).trans e,n,ne,nf,d⟩
   intro q
   rw[q,hoc] at e
   have q':oc=p.2:=U1 e
   exact d w' (by rw[←q'];exact hocd)
theorem zb7{Q:Unit->Shared->Prop}(I:Inv X pins σ H s)(hN:X.N.Nodup)(hi:X.N[i]?=some x)(hx:Loc X.env.scope x)(r:RelV v u)
 (h:∀s',Inv X pins (σ.set i (some v)) H s'->Q Unit.unit s') (hf:autoParam (X.fn x=true\/X.env.scope.names.lookup x=some .local) r6):wpAny M A (storeName X.env x u) Q E s:=
 zmZ I hN hi hx r (λs' I' _=>h s' I') hf
theorem Inv.call'{ch:List Addr}(I:Inv X pins σ H s)(ho:s'.os=s.os)(u:Un (frs X.stack) ch H H' s.heap s'.heap)(hok:HOk X.prog X.w H' s'.heap)(hg:AllBare s'.gens)
 (hch:∀b∈ch,(b∈X.ex\/X.s₀.heap.objs.size<=b)/\b≠X.env.locals/\(∀x c,X.env.cells.lookup x=some c->c≠b)/\∀p∈X.pn ++pins,p.1≠b):Inv X pins σ H' s':=by
 obtain⟨h',g',d',t',o'⟩:=s'
 have e:o'=s.os:=ho
 subst e
 exact I.call (g':=g') (t':=t') (d':=d') u hok hg hch
end
noncomputable abbrev XK:=Value->Option Addr->Hp->Prop
noncomputable abbrev St:=List (Option V)
variable{σ σr:St}
noncomputable abbrev VK:=V->Hp->Prop
noncomputable abbrev TE:=St->Hp->VK->Prop
variable{te ti tl tv tx tf:TE}
noncomputable abbrev TT:=St->Hp->(Bool->Hp->Prop)->Prop
variable{tc tc2:TT}
noncomputable abbrev TA:=St->Hp->(List V->Hp->Prop)->Prop
variable{ta:TA}
structure Ends where
 nx:St->Hp->Prop
 rt:VK
 bk:St->Hp->Prop:=λ_ _=>False
 ct:St->Hp->Prop:=λ_ _=>False
variable{ct:Value}{De:Ends}
noncomputable abbrev TS:=Ends->St->Hp->Prop
variable{tb sb:TS}
def EP(X:Cx)(pins:List (Addr×Obj))(σ:St)(Q:VK)(u:Value)(s':Shared):Prop:=∃v H',Inv X pins σ H' s'/\RelV v u/\Q v H'
def TP(X:Cx)(pins:List (Addr×Obj))(σ:St)(Q:Bool->Hp->Prop)(b:Bool)(s':Shared):Prop:=∃H',Inv X pins σ H' s'/\Q b H'
def AP(X:Cx)(pins:List (Addr×Obj))(σ:St)(Q:List V->Hp->Prop)(us:List Value)(s':Shared):Prop:=∃vs H',Inv X pins σ H' s'/\Vals vs us/\Q vs H'
def SP(X:Cx)(pins:List (Addr×Obj))(D:Ends)(f:Flow)(s':Shared):Prop:=
 match f with
 | .next=>∃σ' H',Inv X pins σ' H' s'/\D.nx σ' H'
 | .brk=>∃σ' H',Inv X pins σ' H' s'/\D.bk σ' H'
 | .cont=>∃σ' H',Inv X pins σ' H' s'/\D.ct σ' H'
 | .ret u=>∃v σ' H',Inv X pins σ' H' s'/\RelV v u/\D.rt v H'
def PE(X:Cx)(e:Expr)(t:TE):Prop:=
 ∀(pins:List (Addr×Obj)) (s:Shared) (σ:St) (H:Hp) (Q:VK),Inv X pins σ H s->t σ H Q->wpAny (model X.prog X.w) X.A (eval e X.env) (EP X pins σ Q) X.xe s
def PT(X:Cx)(e:Expr)(t:TT):Prop:=
 ∀(pins:List (Addr×Obj)) (s:Shared) (σ:St) (H:Hp) (Q:Bool->Hp->Prop),Inv X pins σ H s->t σ H Q->wpAny (model X.prog X.w) X.A (isTrue e X.env (eval e X.env)) (TP X pins σ Q) X.xe s
def PW(X:Cx)(e:Expr)(t:TT):Prop:=
 ∀(whole:Sem Value) (pins:List (Addr×Obj)) (s:Shared) (σ:St) (H:Hp) (Q:Bool->Hp->Prop),Inv X pins σ H s->t σ H Q->wpAny (model X.prog X.w) X.A (isTrue e X.env whole) (TP X pins σ Q) X.xe s
theorem PW.pt{e:Expr}{t:TT}(h:PW X e t):PT X e t:=h _
variable{pt:Pos}
def PA(X:Cx)(es:List Expr)(t:TA):Prop:=
 ∀(pos:Pos) (pins:List (Addr×Obj)) (s:Shared) (σ:St) (H:Hp) (Q:List V->Hp->Prop),Inv X pins σ H s->t σ H Q->wpAny (model X.prog X.w) X.A (spliced (backTo pos (starEach es X.env))) (AP X pins σ Q) X.xe s
def PS(X:Cx)(st:Stmt)(t:TS):Prop:=
 ∀(pins:List (Addr×Obj)) (s:Shared) (σ:St) (H:Hp) (D:Ends),Inv X pins σ H s->t D σ H->wpAny (model X.prog X.w) X.A (exec st X.env) (SP X pins D) X.xe s
def PSs(X:Cx)(st:List Stmt)(t:TS):Prop:=
 ∀(pins:List (Addr×Obj)) (s:Shared) (σ:St) (H:Hp) (D:Ends),Inv X pins σ H s->t D σ H->wpAny (model X.prog X.w) X.A (execs st X.env) (SP X pins D) X.xe s
theorem thn{t:Sem α}{Q Q':α->Shared->Prop}(h:wpAny M A t Q E s)(hQ:∀a s,Q a s->Q' a s):wpAny M A t Q' E s:=W2 h hQ λ_ _ x=>x
section
noncomputable def zqb(i:Nat):TE:=λσ H Q=>∃v,σ[i]?=some (some v)/\Q v H
noncomputable def tC(v:V):TE:=λ_ H Q=>Q v H
theorem zm8(hN:X.N[i]?=some x)(hv:Vis X.env.scope x)(hd:autoParam ((x==("__debug__":Str))=false) v4)(hcd:autoParam ((x==("__classdict__":Str))=false) v4):PE X (.Name x pos) (zqb i):=by
 intro pins s σ H Q I h
 obtain⟨v,e,h⟩:=h
 obtain⟨m,hn,hl⟩:=I.loc
 obtain⟨u,r,l⟩:=hl i x v hN e hv
 have fin:EP X pins σ Q u s:=⟨v,H,I,r,h⟩
 rcases l with⟨hk,hm⟩|⟨hk,c,hc,hcell⟩
 ·exact wpAny_Name (wpAny_loadName_local I.ok.kind hk hn hm fin) hd
 ·rcases hk with hk|hk
  ·exact wpAny_Name (wpAny_loadName_cell I.ok.kind hk hc hcell fin) hd
  ·exact wpAny_Name (wpAny_loadName_free I.ok.kind hk hc hcell fin hcd) hd
theorem zox{i j pos}:PE X (.Constant (.int i) j pos) (tC (.int i)):=λ_ _ _ H _ I h=>wpAny_Constant_int ⟨.int i,H,I.tok _,⟨_,rfl⟩,h⟩
theorem zqL{b j pos}:PE X (.Constant (.bool b) j pos) (tC (.bl b)):=λ_ _ _ H _ I h=>Constant_bool ⟨.bl b,H,I,rfl,h⟩
theorem zor{j pos}:PE X (.Constant .none j pos) (tC .non):=λ_ _ _ H _ I h=>Constant_none ⟨.non,H,I,rfl,h⟩
theorem zna{x j pos}:PE X (.Constant (.str x) j pos) (tC (.str x)):=λ_ _ _ H _ I h=>Calls.Constant_str ⟨.str x,H,I.tok _,⟨_,rfl⟩,h⟩
def Gl(X:Cx)(x:Str):Prop:=X.env.kindOf x=some .globalImplicit
theorem zeC(I:Inv X pins σ H s)(hg:Gl X x)(hm:X.mg x=some u)(h:Q u s)
 (hd:autoParam ((x==("__debug__":Str))=false) v4):wpAny (model X.prog X.w) X.A (eval (.Name x pos) X.env) Q E s:=
 Calls.Name_function_global I.ok.kind hg (Calls.loadGlobal_global (by rw[I.ok.glob];exact I.mod.glob.keeps I.bk) hm h) hd
theorem zgy(I:Inv X pins σ H s)(hg:Gl X x)(hm:X.mg x=none)(hv:bootBuiltins x=some u)(h:Q u s)
 (hn:autoParam (x≠"__name__") v4) (hd:autoParam ((x==("__debug__":Str))=false) v4):wpAny (model X.prog X.w) X.A (eval (.Name x pos) X.env) Q E s:=by
 obtain⟨mb,h1,h2⟩:=I.mod.blt
 exact Calls.Name_function_global I.ok.kind hg (Calls.loadGlobal_builtin (by rw[I.ok.glob];exact I.mod.glob.keeps I.bk) hm (by rw[I.ok.blt];exact h1.keeps I.bk) ((h2 x hn).trans hv) h) hd
theorem zpo(hg:Gl X x)(hm:X.mg x=some u)(r:RelV v u)(hd:autoParam ((x==("__debug__":Str))=false) v4):PE X (.Name x pos) (tC v):=
 λ_ _ _ H _ I h=>zeC I hg hm ⟨v,H,I,r,h⟩ hd
theorem zpN(hg:Gl X x)(hm:X.mg x=none)(hv:bootBuiltins x=some u)(r:RelV v u)(hn:autoParam (x≠"__name__") v4)(hd:autoParam ((x==("__debug__":Str))=false) v4):PE X (.Name x pos) (tC v):=
 λ_ _ _ H _ I h=>zgy I hg hm hv ⟨v,H,I,r,h⟩ hn hd
variable{a b:Expr}{ta tb:TE}
noncomputable def tB(t:TE):TT:=λσ H Q=>t σ H λx H1=>∃c,x= .bl c/\Q c H1
theorem zrK{e:Expr}{t:TE}(h:PE X e t)(he:autoParam (∀whole,isTrue e X.env whole=(do let v ←whole;standAt e.pos;holding [v] (truthy v))) u5):PT X e (tB t):=by
 intro pins s σ H Q I hw
 refine isTrue_plain (thn (h pins s σ H _ I hw) λv s1 zq=>?_) (he _)
 obtain⟨x,H1,I1,r1,q1⟩:=zq
 obtain⟨d,rfl,q⟩:=q1
 cases r1
 exact wpAny_truthy_bool ⟨H1,I1,q⟩
variable{tA tB':TT}
noncomputable def tOr(t u:TT):TT:=λσ H Q=>t σ H λc H1=>if c=true then Q true H1 else u σ H1 Q
noncomputable def zsY(t:TT):TT:=λσ H Q=>t σ H λc H1=>Q (!c) H1
theorem zre(ha:PT X a tA):PW X (.BoolOp .Or [a] pos) tA:=by
 intro wh pins s σ H Q I h
 refine isTrue_or (thn (ha pins s σ H Q I h) λc s1 e=>?_)
 cases c with
 |false=>exact isTrue_or_nil e
 |true=>exact e
theorem zs8(ha:PT X a tA)(hb:PW X (.BoolOp .Or (b::rest) pos) tB'):PW X (.BoolOp .Or (a::b::rest) pos) (tOr tA tB'):=by
 intro wh pins s σ H Q I h
 refine isTrue_or (thn (ha pins s σ H _ I h) λc s1 zq=>?_)
 obtain⟨H1,I1,q1⟩:=zq
 cases c with
 |true=>exact ⟨H1,I1,q1⟩
 |false=>exact hb wh pins s1 σ H1 Q I1 q1
theorem zrt(ha:PT X a tA):PT X (.UnaryOp .Not a pos) (zsY tA):=by
 intro pins s σ H Q I h
 exact isTrue_not (ha pins s σ H (λc H1=>Q (!c) H1) I h)
noncomputable def zqN(ta tb:TE):TE:=λσ H Q=>ta σ H λx H1=>∃c,x= .bl c/\if c=true then tb σ H1 Q else Q (.bl false) H1
noncomputable def zqX(ta:TE):TE:=λσ H Q=>ta σ H λx H1=>∃c,x= .bl c/\Q (.bl (!c)) H1
theorem zr4{op}{t:TE}(h:PE X a t):PE X (.BoolOp op [a] pos) t:=λpins s σ H Q I hw=>BoolOp_one (h pins s σ H Q I hw)
theorem zrm(ha:PE X a ta)(hb:PE X (.BoolOp .And (b::rest) pos) tb):PE X (.BoolOp .And (a::b::rest) pos) (zqN ta tb):=by
 intro pins s σ H Q I h
 refine BoolOp_and (thn (ha pins s σ H _ I h) λv s1 zq=>?_)
 obtain⟨x,H1,I1,r1,q1⟩:=zq
 obtain⟨c,rfl,q1⟩:=q1
 cases r1
 refine wpAny_truthy_bool ?_
 cases c with
 |true=>exact hb pins s1 σ H1 Q I1 q1
 |false=>exact ⟨.bl false,H1,I1,rfl,q1⟩
theorem zru(ha:PE X a ta):PE X (.UnaryOp .Not a pos) (zqX ta):=by
 intro pins s σ H Q I h
 refine UnaryOp_ (thn (ha pins s σ H _ I h) λv s1 zq=>?_)
 obtain⟨x,H1,I1,r1,q1⟩:=zq
 obtain⟨c,rfl,q1⟩:=q1
 cases r1
 exact not_of (wpAny_truthy_bool ⟨.bl (!c),H1,I1,rfl,q1⟩)
noncomputable def tIf(t:TT)(ta tb:TE):TE:=λσ H Q=>t σ H λc H1=>if c=true then ta σ H1 Q else tb σ H1 Q
theorem zoI{c:Expr}(hc:PT X c tA)(ha:PE X a ta)(hb:PE X b tb):PE X (.IfExp c a b pos) (tIf tA ta tb):=by
 intro pins s σ H Q I h
 refine wpAny_IfExp (thn (hc pins s σ H _ I h) λd s1 zq=>?_)
 obtain⟨H1,I1,q1⟩:=zq
 cases d with
 |true=>exact ha pins s1 σ H1 Q I1 q1
 |false=>exact hb pins s1 σ H1 Q I1 q1
end
def SqL(K:W.Frag)(H:Hp)(a:Addr)(xs:List V):Prop:=
 Rd H a (.lst xs)\/
  ∃(o:Obj) (its:Array Value) (n:Nat),K.lookup a=some o/\o.cls= .type "list"/\o.dict=none/\o.data= .seq its n/\its.size<=sizeLine/\Vals xs its.toList
def SqT(K:W.Frag)(H:Hp)(a:Addr)(xs:List V):Prop:=
 Rd H a (.tup xs)\/
  ∃(o:Obj) (its:Array Value) (n:Nat),K.lookup a=some o/\o.cls= .type "tuple"/\o.data= .seq its n/\its.size<=sizeLine/\Vals xs its.toList
noncomputable def zty:Value->Option V
 | .none=>some .non
 | .bool b=>some (.bl b)
 | .int i _=>some (.int i)
 | .str x _=>some (.str x)
 | .bytes b _=>some (.byt b)
 | .float b _=>some (.flt b)
 | .ref a=>some (.ref a)
 | .type n=>some (.ty n)
 |_=>none
theorem RelV.abs{x:V}(r:RelV x u):zty u=some x:=by
 cases x with
 |non=>cases r;rfl
 |bl _=>cases r;rfl
 |int _=>obtain ⟨t,rfl⟩:=r;rfl
 |str _=>obtain ⟨t,rfl⟩:=r;rfl
 |byt _=>obtain ⟨t,rfl⟩:=r;rfl
 |flt _=>obtain ⟨t,rfl⟩:=r;rfl
 |ref _=>cases r;rfl
 |ty _=>cases r;rfl
theorem RelV.inj{x y:V}(r:RelV x u)(q:RelV y u):x=y:=U1 (r.abs.symm.trans q.abs)
theorem Vals.inj{us:List Value}(h:Vals xs us)(h':Vals ys us):xs=ys:=by
 induction h generalizing ys with
 |nil=>cases h';rfl
 |cons r t ih=>
  cases h' with
  |cons r' t'=>rw[r.inj r',ih t']
theorem SqL.of(h:H a=some (.lst xs)):SqL K H a xs:= .inl (.inl h)
theorem SqT.of(h:H a=some (.tup xs)):SqT K H a xs:= .inl (.inl h)
theorem Inv.list(I:Inv X pins σ H s)(h:SqL X.K H a xs):∃its:List Value,Vals xs its/\PlainL s.heap a its.toArray/\xs.length<=sizeLine:=by
 rcases h with h|⟨o,its,n,hk,hc,hd,hs,hz,r⟩
 ·obtain ⟨z,its,n,r,e⟩:=h.ok I.hok
  exact⟨its,r,⟨_,n,e,rfl,rfl,rfl⟩,z⟩
 ·refine ⟨its.toList,r,⟨o,n,I.kIn a o hk,hc,hd,by simpa using hs⟩,?_⟩
  have e:=r.length
  simp only[Array.length_toList] at e
  lia
theorem Inv.tuple(I:Inv X pins σ H s)(h:SqT X.K H a xs):∃its:List Value,Vals xs its/\IsTup s.heap a its.toArray/\xs.length<=sizeLine:=by
 rcases h with h|⟨o,its,n,hk,hc,hs,hz,r⟩
 ·obtain ⟨z,its,r,p,_⟩:=h.ok I.hok
  exact⟨its,r,p,z⟩
 ·refine ⟨its.toList,r,⟨o,I.kIn a o hk,hc,n,by simpa using hs⟩,?_⟩
  have e:=r.length
  simp only[Array.length_toList] at e
  lia
theorem Inv.list_inj(I:Inv X pins σ H s)(h:SqL X.K H a xs)(h':SqL X.K H a ys):xs=ys:=by
 obtain⟨its,r,⟨o,n,e,_,_,d⟩,_⟩:=I.list h
 obtain⟨its',r',⟨o',n',e',_,_,d'⟩,_⟩:=I.list h'
 rw[e] at e';cases e'
 rw[d] at d'
 injection d' with d1 _
 have:its=its':=by simpa using Z2 Array.toList d1
 subst this
 exact r.inj r'
theorem Inv.tuple_inj(I:Inv X pins σ H s)(h:SqT X.K H a xs)(h':SqT X.K H a ys):xs=ys:=by
 obtain⟨its,r,⟨o,e,_,n,d⟩,_⟩:=I.tuple h
 obtain⟨its',r',⟨o',e',_,n',d'⟩,_⟩:=I.tuple h'
 rw[e] at e';cases e'
 rw[d] at d'
 injection d' with d1 _
 have:its=its':=by simpa using Z2 Array.toList d1
 subst this
 exact r.inj r'
abbrev Cx.wish(X:Cx)(E:Value->Shared->Prop):Cx:={X with xe:=E}
noncomputable abbrev Cx.nox(X:Cx):Cx:=X.wish λ_ _=>False
theorem Cx.Ok.wish(ok:X.Ok)(E:Value->Shared->Prop):(X.wish E).Ok:=
 ⟨ok.mod,ok.kind,ok.glob,ok.blt,ok.above,ok.inj,ok.has,ok.cab,ok.hd,ok.frames,ok.stk,ok.exf,ok.bs,ok.bsz,ok.noex,ok.exfs,ok.funs,ok.frf⟩
theorem Cx.Ok.unwish(ok:(X.wish E).Ok):X.Ok:=
 ⟨ok.mod,ok.kind,ok.glob,ok.blt,ok.above,ok.inj,ok.has,ok.cab,ok.hd,ok.frames,ok.stk,ok.exf,ok.bs,ok.bsz,ok.noex,ok.exfs,ok.funs,ok.frf⟩
theorem Inv.wish(I:Inv X pins σ H s)(E:Value->Shared->Prop):Inv (X.wish E) pins σ H s:=⟨I.ok.wish E,I.os,I.bare,I.base,I.loc,I.cell,I.free,I.freeC,I.pin,I.hok,I.len⟩
theorem Inv.unwish(I:Inv (X.wish E) pins σ H s):Inv X pins σ H s:=⟨I.ok.unwish,I.os,I.bare,I.base,I.loc,I.cell,I.free,I.freeC,I.pin,I.hok,I.len⟩
theorem SP.unwish{D:Ends}{f:Flow}(h:SP (X.wish E) pins D f s'):SP X pins D f s':=by
 cases f with
 |next=>obtain ⟨σ',H',I,q⟩:=h;exact⟨σ',H',I.unwish,q⟩
 |brk=>obtain ⟨σ',H',I,q⟩:=h;exact⟨σ',H',I.unwish,q⟩
 |cont=>obtain ⟨σ',H',I,q⟩:=h;exact⟨σ',H',I.unwish,q⟩
 |ret u=>obtain ⟨v,σ',H',I,r,q⟩:=h;exact⟨v,σ',H',I.unwish,r,q⟩
theorem PSs.nox{st:List Stmt}{t:TS}(h:PSs X.nox st t):PSs X st t:=λpins s σ H D I hw=>
 W2 (h pins s σ H D (I.wish _) hw) (λ_ _ q=>q.unwish) λ_ _ z=>False.elim z
section
variable{st:Stmt}{rest:List Stmt}{t u:TS}{e:Expr}
noncomputable def zqU:TS:=λD σ H=>D.nx σ H
noncomputable def zrf(t u:TS):TS:=λD σ H=>t {D with nx:=u D} σ H
theorem zps:PSs X [] zqU:=λ_ _ σ H _ I h=>wpAny_execs_nil ⟨σ,H,I,h⟩
theorem ziR(h1:PS X st t)(h2:PSs X rest u):PSs X (st::rest) (zrf t u):=by
 intro pins s σ H D I h
 refine wpAny_execs_cons (thn (h1 pins s σ H {D with nx:=u D} I h) λf s1 q=>?_)
 cases f with
 |next=>
  obtain⟨σ',H',I',q⟩:=q
  exact h2 pins s1 σ' H' D I' q
 |ret v=>exact q
 |brk=>exact q
 |cont=>exact q
theorem zpY(h1:PS X st t):PSs X [st] t:=by
 intro pins s σ H D I h
 refine wpAny_execs_cons (thn (h1 pins s σ H D I h) λf s1 q=>?_)
 cases f with
 |next=>exact wpAny_execs_nil q
 |ret v=>exact q
 |brk=>exact q
 |cont=>exact q
noncomputable def zqP:TS:=λD σ H=>D.ct σ H
theorem zja:PS X (.Continue pos) zqP:=λ_ _ σ H _ I h=>wpAny_Continue ⟨σ,H,I,h⟩
theorem Inv.quiet(I:Inv X pins σ H s):interactive X.env=false:=by simp[interactive,I.ok.kind]
noncomputable def zrb(te:TE):TS:=λD σ H=>te σ H λ_ H1=>D.nx σ H1
theorem zqh(he:PE X e te)(hs:autoParam (swapsWith e none pos.line X.env=pure false) v3):PS X (.Expr e pos) (zrb te):=by
 intro pins s σ H D I h
 refine wpAny_Expr_any (thn (he pins s σ H _ I h) λv s1 zq=>?_) I.quiet hs
 obtain⟨x,H1,I1,r1,q1⟩:=zq
 exact⟨σ,H1,I1,q1⟩
noncomputable def zsp(te:TE):TS:=λD σ H=>te σ H D.rt
theorem zrA(he:PE X e te):PS X (.Return (some e) pos) (zsp te):=by
 intro pins s σ H D I h
 refine wpAny_Return_some (thn (he pins s σ H _ I h) λv s1 zq=>?_)
 obtain⟨x,H1,I1,r1,q1⟩:=zq
 exact⟨x,σ,H1,I1,r1,q1⟩
noncomputable def zsL(c:TT)(t u:TS):TS:=λD σ H=>c σ H λb H1=>if b=true then t D σ H1 else u D σ H1
theorem zsm{c:Expr}{a b:List Stmt}(hc:PT X c tc)(ha:PSs X a t)(hb:PSs X b u):PS X (.If c a b pos) (zsL tc t u):=by
 intro pins s σ H D I h
 refine wpAny_If (thn (hc pins s σ H _ I h) λd s1 zq=>?_)
 obtain⟨H1,I1,q1⟩:=zq
 cases d with
 |true=>exact ha pins s1 σ H1 D I1 q1
 |false=>exact hb pins s1 σ H1 D I1 q1
end
noncomputable abbrev TG:=V->St->Hp->(St->Hp->Prop)->Prop
variable{g2:TG}
noncomputable abbrev TGs:=List V->St->Hp->(St->Hp->Prop)->Prop
variable{tgs:TGs}
def PG(X:Cx)(target:Expr)(t:TG):Prop:=
 ∀(pins:List (Addr×Obj)) (s:Shared) (σ:St) (H:Hp) (v:V) (u:Value) (Q:St->Hp->Prop),Inv X pins σ H s->RelV v u->t v σ H Q->
  wpAny (model X.prog X.w) X.A (assign target X.env u) (λ_ s'=>∃σ' H',Inv X pins σ' H' s'/\Q σ' H') X.xe s
def PGs(X:Cx)(ts:List Expr)(t:TGs):Prop:=
 ∀(pins:List (Addr×Obj)) (s:Shared) (σ:St) (H:Hp) (vs:List V) (us:List Value) (Q:St->Hp->Prop),Inv X pins σ H s->Vals vs us->t vs σ H Q->
  wpAny (model X.prog X.w) X.A (assignInOrder ((assignEach ts X.env).map (·.2)) us) (λ_ s'=>∃σ' H',Inv X pins σ' H' s'/\Q σ' H') X.xe s
noncomputable abbrev zqE:=V->V->V->Hp->(Hp->Prop)->Prop
def zro(X:Cx)(t:zqE):Prop:=
 ∀(pins:List (Addr×Obj)) (s:Shared) (σ:St) (H:Hp) (o i v:V) (ov iv u:Value) (Q:Hp->Prop),Inv X pins σ H s->RelV o ov->RelV i iv->RelV v u->t o i v H Q->
  wpAny (model X.prog X.w) X.A (setItem ov iv u) (λ_ s'=>∃H',Inv X pins σ H' s'/\Q H') X.xe s
noncomputable def zce(i:Nat):TG:=λv σ H Q=>Q (σ.set i (some v)) H
theorem zls(hN:X.N.Nodup)(hi:X.N[i]?=some x)(hx:Loc X.env.scope x)(hf:autoParam (X.fn x=true\/X.env.scope.names.lookup x=some .local) r6):PG X (.Name x pos) (zce i):=by
 intro pins s σ H v u Q I r h
 exact wpAny_assign_Name (zb7 I hN hi hx r (λs' I'=>⟨_,H,I',h⟩) hf)
noncomputable def zsK:TGs:=λvs σ H Q=>vs=[]/\Q σ H
noncomputable def zqS(t:TG)(u:TGs):TGs:=λvs σ H Q=>∃v r,vs=v::r/\t v σ H λσ' H'=>u r σ' H' Q
theorem zpw:PGs X [] zsK:=by
 intro pins s σ H vs us Q I r h
 obtain⟨e,h⟩:=h
 subst e
 cases r
 exact assignInOrder_nil ⟨σ,H,I,h⟩
theorem znO{e:Expr}{t:TG}{u:TGs}(h1:PG X e t)(h2:PGs X es u)
 (hs:autoParam ((assignEach (e::es) X.env).map (·.2)=assign e X.env::(assignEach es X.env).map (·.2)) v3):PGs X (e::es) (zqS t u):=by
 intro pins s σ H vs us Q I r h
 obtain⟨v,vr,e1,h⟩:=h
 subst e1
 cases r with
 |cons r rr=>
  rw[hs]
  refine assignInOrder_cons (thn (h1 pins s σ H _ _ _ I r h) λ_ s1 zq=>?_)
  obtain⟨σ1,H1,I1,q1⟩:=zq
  exact h2 pins s1 σ1 H1 _ _ Q I1 rr q1
noncomputable def zrx(K:W.Frag)(n:Nat)(t:TGs):TG:=λv σ H Q=>∃a xs,v= .ref a/\SqT K H a xs/\xs.length=n/\t xs σ H Q
theorem zr2{k:Nat}{t:TGs}{n:Nat}(hc:X.calm=true)(h:PGs X es t)
 (hn:autoParam ((assignEach es X.env).length=n) v3) (hst:autoParam ((assignEach es X.env).findIdx? (·.1)=none) v3):PG X (.Tuple es k pos) (zrx X.K n t):=by
 intro pins s σ H v u Q I r hw
 obtain⟨a,xs,e1,hq,hl,hw⟩:=hw
 subst e1
 cases r
 obtain⟨its,rv,ht,hz⟩:=I.tuple hq
 refine assign_Tuple_tuple (I.ok.hd hc) ht (by simp[hn,←hl,rv.length]) hst λh' hx=>?_
 have I1:Inv X pins σ H {s with heap:=h'}:=I.kept (t':=s.toks) λb o e=>hx b o (P1 (V0 e)) e
 exact h pins _ σ H xs _ Q I1 (by simpa using rv) hw
noncomputable def zsv(to ti:TE)(t:zqE):TG:=λv σ H Q=>to σ H λo H1=>ti σ H1 λi H2=>t o i v H2 λH3=>Q σ H3
theorem zrv{o i:Expr}{to:TE}{t:zqE}(ho:PE X o to)(hi:PE X i ti)(hs:zro X t)
 (ha:autoParam (∀v,assign (.Subscript o i pos) X.env v=(do
   let ov ←holding [v] (eval o X.env)
   let iv ←holding [v,ov] (eval i X.env)
   standAt pos
   holding [v,ov,iv] (setItem ov iv v)
   release [v,ov,iv] [])) u5):PG X (.Subscript o i pos) (zsv to ti t):=by
 intro pins s σ H v u Q I r h
 rw[ha]
 refine C0 (X2 (thn (ho pins s σ H _ I h) λov s1 zq=>?_))
 obtain⟨x,H1,I1,r1,q1⟩:=zq
 refine C0 (X2 (thn (hi pins s1 σ H1 _ I1 q1) λiv s2 zq=>?_))
 obtain⟨y,H2,I2,r2,q2⟩:=zq
 refine C0 (wpAny_standAt (C0 (X2 (thn (hs pins s2 σ H2 x y v ov iv u _ I2 r1 r2 r q2) λ_ s3 zq=>?_))))
 obtain⟨H3,I3,q3⟩:=zq
 exact wpAny_release ⟨σ,H3,I3,q3⟩
noncomputable def zkD(te:TE)(g:TG):TS:=λD σ H=>te σ H λx H1=>g x σ H1 D.nx
theorem zsf{e:Expr}{g:TG}(he:PE X e te)(hg:PG X tg g)(hs:autoParam (swapsWithSole [tg] e pos.line X.env=pure false) v3)(hw:autoParam (swappedStores [tg] e X.env=pure none) v3)
 (h1:autoParam ((assignEach [tg] X.env).map (·.2)=[assign tg X.env]) v3):PS X (.Assign [tg] e pos) (zkD te g):=by
 intro pins s σ H D I h
 refine wpAny_Assign_stores (thn (he pins s σ H _ I h) λv s1 zq=>?_) hs hw
 obtain⟨x,H1,I1,r1,q1⟩:=zq
 rw[h1]
 exact thn (hg pins s1 σ H1 x v _ I1 r1 q1) λ_ s2 q=>q
theorem zoM{e:Expr}(hN:X.N.Nodup)(hi:X.N[i]?=some x)(hx:Loc X.env.scope x)(he:PE X e te)(hs:autoParam (swapsWith e (some (.Name x pos')) pos.line X.env=pure false) v3)(hf:autoParam (X.fn x=true\/X.env.scope.names.lookup x=some .local) r6):
 PS X (.Assign [.Name x pos'] e pos) (zkD te (zce i)):=by
 intro pins s σ H D I h
 refine wpAny_Assign_Name (thn (he pins s σ H _ I h) λv s1 zq=>?_) hs
 obtain⟨y,H1,I1,r1,q1⟩:=zq
 exact zb7 I1 hN hi hx r1 (λs2 I2=>⟨_,H1,I2,q1⟩) hf
noncomputable def zsO(i j:Nat)(ta:TA):TS:=λD σ H=>ta σ H λvs H1=>∃v w,vs=[v,w]/\D.nx ((σ.set i (some v)).set j (some w)) H1
theorem zsl{a b:Expr}{kt k2 pt2}(hc:X.calm=true)(hN:X.N.Nodup)(hi:X.N[i]?=some x)(hj:X.N[j]?=some y)(hij:i≠j)
 (hx:X.env.scope.names.lookup x=some .local) (hy:X.env.scope.names.lookup y=some .local) (ha:PA X [a,b] ta)
 (hw:swappedStores [.Tuple [.Name x px, .Name y py] kt pt] (.Tuple [a,b] k2 pt2) X.env=pure (some [x,y]))
 (hs:autoParam (swapsWithSole [.Tuple [.Name x px, .Name y py] kt pt] (.Tuple [a,b] k2 pt2) pos.line X.env=pure false) v3):
 PS X (.Assign [.Tuple [.Name x px, .Name y py] kt pt] (.Tuple [a,b] k2 pt2) pos) (zsO i j ta):=by
 intro pins s σ H D I h
 rw[exec_Assign_arm]
 refine C0 (wpAny_standAt ?_)
 rw[hs]
 refine C0 (K0 ?_)
 rw[N0 ⋯]
 refine C0 (Tuple_ (thn (ha _ pins s σ H _ I h) λus s1 zq=>?_))
 obtain⟨vs,H1,I1,r1,q1⟩:=zq
 obtain⟨v,w,e1,q1⟩:=q1
 subst e1
 obtain⟨u1,u2,rfl,rv,rw'⟩:∃u1 u2,us=[u1,u2]/\RelV v u1/\RelV w u2:=by
  cases r1 with
  |cons p q=>
   cases q with
   |cons p' q'=>
    cases q'
    exact⟨_,_,rfl,p,p'⟩
 refine D2 ?_ (by show 2<=sizeLine;decide)
 have I2:Inv X pins σ H1 {s1 with heap:=s1.heap.push {cls:= .type "tuple",data:= .seq [u1,u2].toArray}}:=I1.kept (t':=s1.toks) λb o e=>G0 _ e
 rw[hw]
 refine C0 (K0 ?_)
 show wpAny (model X.prog X.w) X.A (do rule "assign.swapped-stores";let items ←unpackItems (.ref s1.heap.objs.size) 2 none;assignInOrder [λv=>bindName X.env y v,λv=>bindName X.env x v] items.reverse;pure Flow.next) _ _ _
 refine C0 (wpAny_rule (C0 (unpackItems_tuple (items:= #[u1,u2]) (I.ok.hd hc) (IsTup.new s1.heap _) λh' hx'=>?_)))
 have I3:=I2.kept (h':=h') (t':=s1.toks) λb o e=>hx' b o (P1 (V0 e)) e
 show wpAny _ _ (assignInOrder [λv=>bindName X.env y v,λv=>bindName X.env x v] [u2,u1]>>=λ_=>pure Flow.next) _ _ _
 refine C0 (assignInOrder_cons (wpAny_bindName (zb7 I3 hN hj (.inl hy) rw' (λs2 I4=>?_) (.inr hy))))
 refine assignInOrder_cons (wpAny_bindName (zb7 I4 hN hi (.inl hx) rv (λs3 I5=>assignInOrder_nil (K0 ?_)) (.inr hx)))
 rw[List.set_comm _ _ (Ne.symm hij)] at I5
 exact⟨_,H1,I5,q1⟩
structure It where
 go:Nat->Hp->Prop
 yld:Nat->Hp->V->Hp->Prop
 stop:Nat->Hp->Prop
variable{J:It}
def zec(X:Cx)(pins:List (Addr×Obj))(H:Hp)(b:Addr):Prop:=
 H b=none/\b≠X.env.locals/\b∉X.fs/\(b∈X.ex\/X.s₀.heap.objs.size<=b)/\(∀x c,X.env.cells.lookup x=some c->c≠b)/\∀p∈X.pn ++pins,p.1≠b
theorem Inv.fpOk{b:Addr}(I:Inv X pins σ H s)(hb:s.heap.objs.size<=b)(hn:H' b=none):zec X pins H' b:=by
 refine⟨hn,Nat.ne_of_gt (O1 I.lt hb),I.nofs hb, .inr (V1 I.sz hb),λx c e z=>?_,λp hp z=>?_⟩
 ·obtain ⟨v,q⟩:=I.cell x c e
  exact absurd (O1 q.lt (by rw[z];exact hb)) (Nat.lt_irrefl _)
 ·exact absurd (O1 (V0 (I.pin p hp).1) (by rw[z];exact hb)) (Nat.lt_irrefl _)
structure Turn(P:Program)(w:World)(K:W.Frag)(tg:Expr)(J:It)(fp:List Addr)(it:Addr)(tn:Nat->Heap->Prop):Prop where
 mem:it∈fp
 obj:∀i h,tn i h->∀b∈fp,∃o,h.get? b=some o/\∀v,o.data≠ .cell v
 keep:∀i h h',tn i h->(∀b∈fp,∀o,h.get? b=some o->h'.get? b=some o)->tn i h'
 item:∀(X:Cx),X.prog=P->X.w=w->X.K=K->X.calm=true->∀(i:Nat) (pins:List (Addr×Obj)) (s:Shared) (σ:St) (H:Hp) (E:Value->Shared->Prop),Inv X pins σ H s->(∀b∈fp,zec X pins H b)->tn i s.heap->J.go i H->
  wpAny (model P w) X.A (pyNext (.ref it)) (λr s1=>∃u,r=some u/\
   wpAny (model P w) X.A (letOwnedTupleGo tg (.ref it) u) (λ_ s2=>∃x H',Inv X pins σ H' s2/\RelV x u/\J.yld i H x H'/\tn (i+1) s2.heap/\∀b∈fp,H' b=none) E s1) E s
 done:∀(X:Cx),X.prog=P->X.w=w->X.K=K->X.calm=true->∀(i:Nat) (pins:List (Addr×Obj)) (s:Shared) (σ:St) (H:Hp) (E:Value->Shared->Prop),Inv X pins σ H s->(∀b∈fp,zec X pins H b)->tn i s.heap->J.stop i H->
   wpAny (model P w) X.A (pyNext (.ref it)) (λr s1=>r=none/\Inv X pins σ H s1) E s
 self:∀(A:Around) (i:Nat) (s:Shared) (Q:Value->Shared->Prop) (E:Value->Shared->Prop),tn i s.heap->Q (.ref it) s->wpAny (model P w) A (pyIter (.ref it)) Q E s
noncomputable abbrev TI:=St->Hp->(It->Hp->Prop)->Prop
variable{wi wi2:TI}
def PIE(X:Cx)(pins:List (Addr×Obj))(σ:St)(tg:Expr)(R:It->Hp->Prop)(itv:Value)(s2:Shared):Prop:=
 ∃(it:Addr) (fp:List Addr) (tn:Nat->Heap->Prop) (J:It) (H':Hp),itv= .ref it/\Inv X pins σ H' s2/\Turn X.prog X.w X.K tg J fp it tn/\tn 0 s2.heap/\(∀b∈fp,zec X pins H' b)/\R J H'
def PI(X:Cx)(tg iter:Expr)(wi:TI):Prop:=
 ∀(pins:List (Addr×Obj)) (s:Shared) (σ:St) (H:Hp) (R:It->Hp->Prop),Inv X pins σ H s->wi σ H R->
  wpAny (model X.prog X.w) X.A (eval iter X.env) (λv s1=>wpAny (model X.prog X.w) X.A (pyIter v) (PIE X pins σ tg R) X.xe s1) X.xe s
theorem zlI{o:Obj}{n:String}{vs:Array Value}{Q:Unit->Shared->Prop}(ho:s.heap.get? it=some o)(hc:o.cls= .type n)(hd:o.data= .fields vs)
 (hn:["enumerate","zip","dict_itemiterator","dict_reverseitemiterator","odict_iterator","itertools.zip_longest","itertools.pairwise"].contains n=false) (hQ:Q Unit.unit s):wpAny M A (letOwnedTupleGo tg (.ref it) u) Q E s:=by
 unfold letOwnedTupleGo
 cases tg<;>first
  |exact K0 hQ
  |(cases u<;>first
     |exact K0 hQ
     |(refine C0 (wpAny_load ho ?_)
       rw[hc,hd]
       show wpAny M A (if(["enumerate","zip","dict_itemiterator","dict_reverseitemiterator","odict_iterator","itertools.zip_longest","itertools.pairwise"].contains n&&vs[0]?==some (rawInt _))=true then _ else _) Q E s
       rw[N0 (by intro h;rw[hn,Bool.false_and] at h;cases h)]
       exact K0 hQ))
noncomputable def Itl(K:W.Frag)(a:Addr):It:=
 ⟨λi H=>∃xs x,SqL K H a xs/\xs[i]?=some x,λi H x H'=>H'=H/\∀xs,SqL K H a xs->xs[i]?=some x,λi H=>∃xs,SqL K H a xs/\xs.length<=i⟩
noncomputable def Itt(K:W.Frag)(a:Addr):It:=
 ⟨λi H=>∃xs x,SqT K H a xs/\xs[i]?=some x,λi H x H'=>H'=H/\∀xs,SqT K H a xs->xs[i]?=some x,λi H=>∃xs,SqT K H a xs/\xs.length<=i⟩
noncomputable def Itr(lo:Int)(n:Nat):It:=⟨λi _=>i<n,λi H x H'=>H'=H/\x= .int (lo+i),λi _=>n<=i⟩
theorem zmr(a it:Addr):Turn P w K tg (Itl K a) [it] it (λi h=>h.IsListIter it a i) where
 mem:=`Z3
 obj:=λi h st b hb=>by
  have e:b=it:=by simpa using hb
  subst e
  obtain⟨o,e,c,d⟩:=st
  exact⟨o,e,λv z=>by rw[d] at z;cases z⟩
 keep:=λi h h' st k=>st.at λo e=>k it `Z3 o e
 item:=by
  intro X hP hw hK hc i pins s σ H E I hf st hg
  subst hP hw hK
  obtain⟨xs,x,hq,hx⟩:=hg
  obtain⟨its,rv,p,hz⟩:=I.list hq
  obtain⟨u,hu,ru⟩:=rv.get hx
  obtain⟨f0,f1,f2,f3,f4,f5⟩:=hf it `Z3
  refine wpAny_pyNext_list_item st p.isList (x:=u) (by simpa using hu) λh' st' sb=>?_
  have I1:Inv X pins σ H {s with heap:=h'}:=I.turned (t':=s.toks) (λb o hb e=>(sb.2 b hb).trans e) f0 f1 f3 f4 f5
  obtain⟨o,e,c,d⟩:=id st'
  exact⟨u,rfl,zlI (s:={s with heap:=h'}) e c d ⋯ ⟨x,H,I1,ru,⟨rfl,λys hy=>by rw[I.list_inj hy hq];exact hx⟩,st',λb hb=>(hf b hb).1⟩⟩
 done:=by
   intro X hP hw hK hc i pins s σ H E I hf st hg
   subst hP hw hK
   obtain⟨xs,hq,hx⟩:=hg
   obtain⟨its,rv,p,hz⟩:=I.list hq
   obtain⟨f0,f1,f2,f3,f4,f5⟩:=hf it `Z3
   have hl:=rv.length
   exact wpAny_pyNext_list_end (I.ok.hd hc) st p.isList (by simp;lia) λh' eb=>⟨rfl,I.turned (t':=s.toks) (λb o hb e=>eb b o hb e) f0 f1 f3 f4 f5⟩
 self:=λ_ _ _ _ _ st h=>wpAny_pyIter_listiter st h
theorem zkq(a it:Addr):Turn P w K tg (Itt K a) [it] it (λi h=>h.IsTupleIter it a i) where
 mem:=`Z3
 obj:=λi h st b hb=>by
  have e:b=it:=by simpa using hb
  subst e
  obtain⟨o,e,c,d⟩:=st
  exact⟨o,e,λv z=>by rw[d] at z;cases z⟩
 keep:=λi h h' st k=>st.at λo e=>k it `Z3 o e
 item:=by
  intro X hP hw hK hc i pins s σ H E I hf st hg
  subst hP hw hK
  obtain⟨xs,x,hq,hx⟩:=hg
  obtain⟨its,rv,p,hz⟩:=I.tuple hq
  obtain⟨u,hu,ru⟩:=rv.get hx
  obtain⟨f0,f1,f2,f3,f4,f5⟩:=hf it `Z3
  refine wpAny_pyNext_tuple_item st (show s.heap.IsTuple a its.toArray from p) (x:=u) (by simpa using hu) λh' st' sb=>?_
  have I1:Inv X pins σ H {s with heap:=h'}:=I.turned (t':=s.toks) (λb o hb e=>(sb.2 b hb).trans e) f0 f1 f3 f4 f5
  obtain⟨o,e,c,d⟩:=id st'
  exact⟨u,rfl,zlI (s:={s with heap:=h'}) e c d ⋯ ⟨x,H,I1,ru,⟨rfl,λys hy=>by rw[I.tuple_inj hy hq];exact hx⟩,st',λb hb=>(hf b hb).1⟩⟩
 done:=by
   intro X hP hw hK hc i pins s σ H E I hf st hg
   subst hP hw hK
   obtain⟨xs,hq,hx⟩:=hg
   obtain⟨its,rv,p,hz⟩:=I.tuple hq
   obtain⟨f0,f1,f2,f3,f4,f5⟩:=hf it `Z3
   have hl:=rv.length
   exact wpAny_pyNext_tuple_end (I.ok.hd hc) st (show s.heap.IsTuple a its.toArray from p) (by simp;lia) λh' eb=>⟨rfl,I.turned (t':=s.toks) (λb o hb e=>eb b o hb e) f0 f1 f3 f4 f5⟩
 self:=λ_ _ _ _ _ st h=>wpAny_pyIter_tupleiter st h
theorem zkz(it:Addr)(lo:Int)(n:Nat):Turn P w K tg (Itr lo n) [it] it (λi h=>IsRangeIter h it (lo+(i:Nat)*1) ((n:Int) -(i:Nat)) 1) where
 mem:=`Z3
 obj:=λi h st b hb=>by
  have e:b=it:=by simpa using hb
  subst e
  exact⟨_,st,λv z=>by
   have z':Data.fields _=Data.cell v:=z
   cases z'⟩
 keep:=λi h h' st k=>k it `Z3 _ st
 item:=by
  intro X hP hw hK hc i pins s σ H E I hf st hg
  subst hP hw hK
  obtain⟨f0,f1,f2,f3,f4,f5⟩:=hf it `Z3
  have W:=Walks.range (prog:=X.prog) (w:=X.w) (I.ok.hd hc) it lo 1 n
  refine W.item i s _ _ hg st λv h' tk hv st' kk=>?_
  obtain⟨t,rfl⟩:=hv
  have I1:Inv X pins σ H {s with heap:=h',toks:=tk}:=I.turned (λb o hb e=>kk b o (by simpa using hb) e) f0 f1 f3 f4 f5
  refine⟨_,rfl,zlI (s:={s with heap:=h',toks:=tk}) (n:="range_iterator") st' rfl rfl ⋯ ⟨.int (lo+i),H,I1,⟨t,?_⟩,⟨rfl,rfl⟩,st',λb hb=>(hf b hb).1⟩⟩
  rw[Int.mul_one]
 done:=by
   intro X hP hw hK hc i pins s σ H E I hf st hg
   subst hP hw hK
   obtain⟨f0,f1,f2,f3,f4,f5⟩:=hf it `Z3
   exact wpAny_pyNext_range_end (I.ok.hd hc) st (by have:n<=i:=hg;lia) λh' eb=>⟨rfl,I.turned (t':=s.toks) (λb o hb e=>eb b o hb e) f0 f1 f3 f4 f5⟩
 self:=λ_ _ _ _ _ st h=>wpAny_pyIter_rangeiter st h
noncomputable def zq3(K:W.Frag)(tl:TE):TI:=λσ H R=>tl σ H λx H1=>∃a,x= .ref a/\(∃xs,SqL K H1 a xs)/\R (Itl K a) H1
noncomputable def zss(K:W.Frag)(tl:TE):TI:=λσ H R=>tl σ H λx H1=>∃a,x= .ref a/\(∃xs,SqT K H1 a xs)/\R (Itt K a) H1
theorem zqC{l:Expr}(hl:PE X l tl):PI X tg l (zq3 X.K tl):=by
 intro pins s σ H R I h
 refine thn (hl pins s σ H _ I h) λv s1 zq=>?_
 obtain⟨x,H1,I1,r1,q1⟩:=zq
 obtain⟨a,e,⟨xs,hq⟩,q⟩:=q1
 subst e
 cases r1
 obtain⟨its,rv,p,hz⟩:=I1.list hq
 refine wpAny_pyIter_list p.isList ?_
 refine⟨s1.heap.objs.size,[s1.heap.objs.size],_,_,H1,rfl,I1.kept (t':=s1.toks) λb o e=>G0 _ e,zmr a _,⟨_,O0 _ rfl,rfl,rfl⟩,λb hb=>?_,q⟩
 have e:b=s1.heap.objs.size:=by simpa using hb
 subst e
 exact I1.fpOk (P0 _) (I1.hok.fresh (P0 _))
theorem zrT{l:Expr}(hl:PE X l tl):PI X tg l (zss X.K tl):=by
 intro pins s σ H R I h
 refine thn (hl pins s σ H _ I h) λv s1 zq=>?_
 obtain⟨x,H1,I1,r1,q1⟩:=zq
 obtain⟨a,e,⟨xs,hq⟩,q⟩:=q1
 subst e
 cases r1
 obtain⟨its,rv,p,hz⟩:=I1.tuple hq
 refine wpAny_pyIter_tuple (show s1.heap.IsTuple a its.toArray from p) ?_
 refine⟨s1.heap.objs.size,[s1.heap.objs.size],_,_,H1,rfl,I1.kept (t':=s1.toks) λb o e=>G0 _ e,zkq a _,⟨_,O0 _ rfl,rfl,rfl⟩,λb hb=>?_,q⟩
 have e:b=s1.heap.objs.size:=by simpa using hb
 subst e
 exact I1.fpOk (P0 _) (I1.hok.fresh (P0 _))
theorem zjy{R:It->Hp->Prop}{lo hi:Int}{t u v:Tok}{tk:Nat}(I:Inv X pins σ H s)(h1: -(2^62)<=lo)(h2:lo<2^62)(h3: -(2^62)<=hi)(h4:hi<2^62)
 (q:R (Itr lo (hi -lo).toNat) H):wpAny (model X.prog X.w) X.A (pyIter (.ref s.heap.objs.size)) (PIE X pins σ tg R) E {s with heap:=s.heap.push {cls:= .type "range",data:= .fields #[.int lo t, .int hi u, .int 1 v]},toks:=tk}:=by
 refine wpAny_pyIter_range (IsRange.new ..) (small_one h1 h2 h3 h4) ?_
 have I1:Inv X pins σ H {s with heap:=s.heap.push {cls:= .type "range",data:= .fields #[.int lo t, .int hi u, .int 1 v]},toks:=tk}:=I.kept λb o e=>G0 _ e
 refine⟨(s.heap.push {cls:= .type "range",data:= .fields #[.int lo t, .int hi u, .int 1 v]}).objs.size,[(s.heap.push {cls:= .type "range",data:= .fields #[.int lo t, .int hi u, .int 1 v]}).objs.size],_,_,H,rfl,
  I1.kept (t':=tk) λb o e=>G0 _ e,zkz _ lo (hi -lo).toNat,?_,λb hb=>?_,q⟩
 ·have e1:lo+((0:Nat):Int)*1=lo:=`Z3
  have e2:(((hi -lo).toNat:Nat):Int) -((0:Nat):Int)=Builtin.Range.rangeSize lo hi 1:=by rw[rangeSize_one];split<;>lia
  show IsRangeIter _ _ (lo+((0:Nat):Int)*1) ((((hi -lo).toNat:Nat):Int) -((0:Nat):Int)) 1
  rw[e1,e2]
  exact O0 _ rfl
 ·have e:b=(s.heap.push {cls:= .type "range",data:= .fields #[.int lo t, .int hi u, .int 1 v]}).objs.size:=by simpa using hb
  subst e
  exact I1.fpOk (P0 _) (I1.hok.fresh (P0 _))
noncomputable def zrc(ta:TA):TI:=λσ H R=>ta σ H λvs H1=>∃j:Int,vs=[.int j]/\-(2^62)<=j/\j<2^62/\R (Itr 0 j.toNat) H1
noncomputable def zq4(ta:TA):TI:=λσ H R=>ta σ H λvs H1=>∃i j:Int,vs=[.int i, .int j]/\(-(2^62)<=i/\i<2^62/\-(2^62)<=j/\j<2^62)/\R (Itr i (j -i).toNat) H1
theorem zl1{a:Expr}{p:Pos}(hg:Gl X "range")(hm:X.mg "range"=none)(ha:PA X [a] ta)(hs:autoParam (starEach [a] X.env=[(false,eval a X.env)]) v3):PI X tg (.Call (.Name "range" p) [a] [] pos) (zrc ta):=by
 intro pins s σ H R I h
 refine Call_ (zgy I hg hm boot_range (PyProof.Rows.callWith_type1 (thn (ha pos pins s σ H _ I h) λus s1 zq=>?_) hs rfl))
 obtain⟨vs,H1,I1,r1,q1⟩:=zq
 obtain⟨j,e,q1,q2,q⟩:=q1
 subst e
 cases r1 with
 |cons r rr=>
  cases rr
  obtain⟨t,rfl⟩:=r
  exact call_range_1 (zjy I1 () () q1 q2 (by simpa using q))
theorem zmy{a b:Expr}{p:Pos}(hg:Gl X "range")(hm:X.mg "range"=none)(ha:PA X [a,b] ta)(hs:autoParam (starEach [a,b] X.env=[(false,eval a X.env),(false,eval b X.env)]) v3)(hs2:autoParam (starEach [b] X.env=[(false,eval b X.env)]) v3):
 PI X tg (.Call (.Name "range" p) [a,b] [] pos) (zq4 ta):=by
 intro pins s σ H R I h
 refine Call_ (zgy I hg hm boot_range (PyProof.Rows.callWith_type1 (thn (ha pos pins s σ H _ I h) λus s1 ⟨vs,H1,I1,r1,q1⟩=>?_) (by rw[hs,hs2]) (by rw[hs2];rfl)))
 obtain⟨i,j,e,⟨q1,q2,q3,q4⟩,q⟩:=q1
 subst e
 cases r1 with
 |cons r rr=>
  cases rr with
  |cons r' rr=>
   cases rr
   obtain⟨t,rfl⟩:=r
   obtain⟨t',rfl⟩:=r'
   exact call_range_2 (zjy I1 q1 q2 q3 q4 q)
noncomputable def ztd(wi:TI)(g:TG)(tb:TS):TS:=λD σ H=>wi σ H λJ H1=>∃W:Nat->Nat->St->Hp->Prop,(∃m,W 0 m σ H1)/\∀i m σ H,W i m σ H->
 (J.stop i H/\D.nx σ H)\/(J.go i H/\∃N:St->Hp->Prop,(∀σ' H',N σ' H'->∃m',m'<m/\W (i+1) m' σ' H')/\∀x H',J.yld i H x H'->g x σ H' λσ2 H2=>tb {D with nx:=N,ct:=N,bk:=D.nx} σ2 H2)
noncomputable def zd9(fp:List Addr)(h:Heap):List (Addr×Obj):=fp.filterMap λb=>(h.get? b).map λo=>(b,o)
theorem zal{h:Heap}{b:Addr}{o:Obj}(hb:b∈fp)(e:h.get? b=some o):(b,o)∈zd9 fp h:=List.mem_filterMap.mpr ⟨b,hb,by rw[e];rfl⟩
theorem zl7{h:Heap}{p:Addr×Obj}(hp:p∈zd9 fp h):p.1∈fp/\h.get? p.1=some p.2:=by
 obtain⟨b,hb,e⟩:=List.mem_filterMap.mp hp
 cases q:h.get? b with
 |none=>rw[q] at e;cases e
 |some o=>
  rw[q] at e
  have e':(b,o)=p:=U1 e
  subst e'
  exact⟨hb,q⟩
theorem Inv.pinned(I:Inv X pins σ H s)(hf:∀b∈fp,zec X pins H b)(ho:∀b∈fp,∃o,s.heap.get? b=some o/\∀v,o.data≠ .cell v):Inv X (pins ++zd9 fp s.heap) σ H s:=
 I.pins_of λp hp=>(Q2.mp hp).elim (λz=>I.pin p (N1 _ z)) λz=>by
  obtain⟨hb,e⟩:=zl7 z
  obtain⟨f0,f1,f2,_⟩:=hf p.1 hb
  obtain⟨o,e',d⟩:=ho p.1 hb
  rw[e] at e';cases e'
  exact⟨e,f0,f1,f2,d⟩
theorem Inv.unpinned{pl:List (Addr×Obj)}(I:Inv X (pins ++pl) σ H s):Inv X pins σ H s:=I.pins_of λp hp=>I.pin p (N1 _ (List.mem_append_left _ hp))
theorem zrH{g:TG}(hp:PassesOwn (model X.prog X.w) X.A X.env X.xe)(hc:X.calm=true)(hi:PI X tg iter wi)(hg:PG X tg g)(hb:PSs X body tb)
 (hs:autoParam (∀x,foldedSetIterable iter X.env x=pure x) u5):PS X (.For tg iter body [] pos) (ztd wi g tb):=by
 intro pins s σ H D I h
 refine wpAny_For (thn (hi pins s σ H _ I h) λv s1 h1=>thn h1 λitv s2 h2=>?_) hs
 obtain⟨it,fp,tn,J,H2,e,I2,T,st2,f2,W,⟨m0,w0⟩,turn⟩:=h2
 subst e
 have stat:∀{H':Hp},(∀b∈fp,H' b=none)->∀b∈fp,zec X pins H' b:=λhn b hb=>⟨hn b hb,(f2 b hb).2⟩
 refine codeAny_forLoop_any (λn s'=>∃i σ' H',Inv X pins σ' H' s'/\tn i s'.heap/\(∀b∈fp,H' b=none)/\W i n σ' H') ?_ m0 ⟨0,σ,H2,I2,st2,λb hb=>(f2 b hb).1,w0⟩
 rintro n s3 ⟨i,σ3,H3,I3,st3,fr3,w3⟩
 rcases turn i n σ3 H3 w3 with⟨stop,qn⟩|⟨go,N,hN,step⟩
 ·refine wpAny_passesOwn hp (thn (T.done X rfl rfl rfl hc i pins s3 σ3 H3 X.xe I3 (stat fr3) st3 stop) λr s4 zq=>?_)
  obtain⟨hr,I4⟩:=zq
  subst hr
  exact wpAny_execs_nil ⟨σ3,H3,I4,qn⟩
 ·refine wpAny_passesOwn hp (thn (T.item X rfl rfl rfl hc i pins s3 σ3 H3 X.xe I3 (stat fr3) st3 go) λr s4 zq=>?_)
  obtain⟨u,hr,h4⟩:=zq
  subst hr
  refine wpAny_passesOwn hp (thn h4 λ_ s5 zq=>?_)
  obtain⟨x,H5,I5,r5,y5,st5,fr5⟩:=zq
  have I5':=I5.pinned (stat fr5) (T.obj _ _ st5)
  refine wpAny_passesOwn hp (thn (hg _ s5 σ3 H5 x u _ I5' r5 (step x H5 y5)) λ_ s6 zq=>?_)
  obtain⟨σ6,H6,I6,q6⟩:=zq
  refine wpAny_passesOwn hp (thn (hb _ s6 σ6 H6 _ I6 q6) λf s7 q7=>?_)
  have again:∀{σ7:St} {H7:Hp},Inv X (pins ++zd9 fp s5.heap) σ7 H7 s7->N σ7 H7->∃m,m<n/\∃i σ' H',Inv X pins σ' H' s7/\tn i s7.heap/\(∀b∈fp,H' b=none)/\W i m σ' H':=λ{σ7 H7} I7 n7=>by
   obtain⟨m',hm,w7⟩:=hN σ7 H7 n7
   refine⟨m',hm,i+1,σ7,H7,I7.unpinned,T.keep _ _ _ st5 λb hb o e=>(I7.pin (b,o) (N1 _ (N1 _ (zal hb e)))).1,λb hb=>?_,w7⟩
   obtain⟨o,e,d⟩:=T.obj _ _ st5 b hb
   exact(I7.pin (b,o) (N1 _ (N1 _ (zal hb e)))).2.1
  cases f with
  |next=>obtain ⟨σ7,H7,I7,n7⟩:=q7;exact again I7 n7
  |cont=>obtain ⟨σ7,H7,I7,n7⟩:=q7;exact again I7 n7
  |brk=>obtain ⟨σ7,H7,I7,q7⟩:=q7;exact⟨σ7,H7,I7.unpinned,q7⟩
  |ret v=>obtain ⟨x7,σ7,H7,I7,r7,q7⟩:=q7;exact⟨x7,σ7,H7,I7.unpinned,r7,q7⟩
noncomputable abbrev R2:=V->V->Hp->VK->Prop
variable{r':R2}
def OpR(X:Cx)(f:Value->Value->Sem Value)(r:R2):Prop:=
 ∀(pins:List (Addr×Obj)) (s:Shared) (σ:St) (H:Hp) (x y:V) (v u:Value) (Q:VK),Inv X pins σ H s->RelV x v->RelV y u->r x y H Q->
  wpAny (model X.prog X.w) X.A (f v u) (EP X pins σ Q) X.xe s
def UnR(X:Cx)(f:Value->Sem Value)(r:V->Hp->VK->Prop):Prop:=
 ∀(pins:List (Addr×Obj)) (s:Shared) (σ:St) (H:Hp) (x:V) (v:Value) (Q:VK),Inv X pins σ H s->RelV x v->r x H Q->
  wpAny (model X.prog X.w) X.A (f v) (EP X pins σ Q) X.xe s
def CallR(X:Cx)(f:Value)(r:List V->Hp->VK->Prop):Prop:=
 ∀(pins:List (Addr×Obj)) (s:Shared) (σ:St) (H:Hp) (xs:List V) (us:List Value) (Q:VK),Inv X pins σ H s->Vals xs us->r xs H Q->
  wpAny (model X.prog X.w) X.A (call f us) (EP X pins σ Q) X.xe s
def ztn(X:Cx)(r:V->Hp->(Bool->Hp->Prop)->Prop):Prop:=
 ∀(pins:List (Addr×Obj)) (s:Shared) (σ:St) (H:Hp) (x:V) (v:Value) (Q:Bool->Hp->Prop),Inv X pins σ H s->RelV x v->r x H Q->
  wpAny (model X.prog X.w) X.A (truthy v) (TP X pins σ Q) X.xe s
noncomputable def tOp(r:R2)(ta tb:TE):TE:=λσ H Q=>ta σ H λx H1=>tb σ H1 λy H2=>r x y H2 Q
def tUn(r:V->Hp->VK->Prop)(ta:TE):TE:=λσ H Q=>ta σ H λx H1=>r x H1 Q
def rI(C:Int->Int->Prop)(g:Int->Int->V):R2:=λx y H Q=>∃i j,x= .int i/\y= .int j/\C i j/\Q (g i j) H
noncomputable def rI0(g:Int->Int->V):R2:=λx y H Q=>∃i j,x= .int i/\y= .int j/\Q (g i j) H
def rU(g:Int->V):V->Hp->VK->Prop:=λx H Q=>∃i,x= .int i/\Q (g i) H
section
variable{a b c:Expr}{ta tb tc:TE}
theorem zrr(ha:PE X a ta)(hb:PE X b tb){R:V->V->Hp->Prop}(I:Inv X pins σ H s)
 (h:ta σ H λx H1=>tb σ H1 λy H2=>R x y H2)  {f:Value->Value->Sem Value}
 (hf:∀v u s2 x y H2,Inv X pins σ H2 s2->RelV x v->RelV y u->R x y H2->wpAny (model X.prog X.w) X.A (f v u) Q X.xe s2):
 wpAny (model X.prog X.w) X.A (eval a X.env) (λv s₁=>wpAny (model X.prog X.w) X.A (eval b X.env) (λu s₂=>wpAny (model X.prog X.w) X.A (f v u) Q X.xe s₂) X.xe s₁) X.xe s:=by
 refine thn (ha pins s σ H _ I h) λv s1 zq=>?_
 obtain⟨x,H1,I1,r1,q1⟩:=zq
 refine thn (hb pins s1 σ H1 _ I1 q1) λu s2 zq=>?_
 obtain⟨y,H2,I2,r2,q2⟩:=zq
 exact hf v u s2 x y H2 I2 r1 r2 q2
theorem zsG{op:Operator}{r:R2}(ho:OpR X (binaryOp op) r)(ha:PE X a ta)(hb:PE X b tb):PE X (.BinOp a op b pos) (tOp r ta tb):=by
 intro pins s σ H Q I h
 exact wpAny_BinOp (zrr ha hb I h λv u s2 x y H2 I2 rx ry q=>ho pins s2 σ H2 x y v u Q I2 rx ry q)
theorem zso{op:UnaryOp}{r:V->Hp->VK->Prop}(ho:UnR X (unaryOp op) r)(ha:PE X a ta):PE X (.UnaryOp op a pos) (tUn r ta):=by
 intro pins s σ H Q I h
 refine UnaryOp_ (thn (ha pins s σ H _ I h) λv s1 zq=>?_)
 obtain⟨x,H1,I1,r1,q1⟩:=zq
 exact ho pins s1 σ H1 x v Q I1 r1 q1
theorem opI{f:Value->Value->Sem Value}{C:Int->Int->Prop}{g:Int->Int->Int}
 (rule:∀(i j:Int) (t u:Tok) (s:Shared) (Q:Value->Shared->Prop) (E:Value->Shared->Prop),C i j->Q (.int (g i j) s.toks) {s with toks:=s.toks+1}->wpAny (model X.prog X.w) X.A (f (.int i t) (.int j u)) Q E s):
 OpR X f (rI C λi j=> .int (g i j)):=by
 intro pins s σ H x y v u Q I rx ry h
 obtain⟨i,j,rfl,rfl,hc,q⟩:=h
 obtain⟨t,rfl⟩:=rx
 obtain⟨t',rfl⟩:=ry
 exact rule i j t t' s _ _ hc ⟨.int (g i j),H,I.tok _,⟨_,rfl⟩,q⟩
theorem zsA{f:Value->Value->Sem Value}{g:Int->Int->Int}
 (rule:∀(i j:Int) (t u:Tok) (s:Shared) (Q:Value->Shared->Prop) (E:Value->Shared->Prop),Q (.int (g i j) s.toks) {s with toks:=s.toks+1}->wpAny (model X.prog X.w) X.A (f (.int i t) (.int j u)) Q E s):
 OpR X f (rI0 λi j=> .int (g i j)):=by
 intro pins s σ H x y v u Q I rx ry h
 obtain⟨i,j,rfl,rfl,q⟩:=h
 obtain⟨t,rfl⟩:=rx
 obtain⟨t',rfl⟩:=ry
 exact rule i j t t' s _ _ ⟨.int (g i j),H,I.tok _,⟨_,rfl⟩,q⟩
theorem zp0{f:Value->Value->Sem Value}{g:Int->Int->Bool}
 (rule:∀(i j:Int) (t u:Tok) (s:Shared) (Q:Value->Shared->Prop) (E:Value->Shared->Prop),Q (.bool (g i j)) s->wpAny (model X.prog X.w) X.A (f (.int i t) (.int j u)) Q E s):
 OpR X f (rI0 λi j=> .bl (g i j)):=by
 intro pins s σ H x y v u Q I rx ry h
 obtain⟨i,j,rfl,rfl,q⟩:=h
 obtain⟨t,rfl⟩:=rx
 obtain⟨t',rfl⟩:=ry
 exact rule i j t t' s _ _ ⟨.bl (g i j),H,I,rfl,q⟩
def ztg(i j:Int):Prop:=0<j/\j<1073741824
def zs6(i j:Int):Prop:=0<=j/\j<=1000000/\i.natAbs<2^64
def CMul(i j:Int):Prop:=(-(2^64)<i/\i<2^64)\/(-(2^64)<j/\j<2^64)
theorem CMul.ok{i j:Int}(h:CMul i j):IntMulOk i j:=by
 rcases h with⟨h1,h2⟩|⟨h1,h2⟩
 ·exact .of_left (intBits_le_64 h1 h2)
 ·exact .of_right (intBits_le_64 h1 h2)
theorem zj1(k:Nat):(0:Int)<=2^k:=by
 rw[two_pow_cast]
 exact Int.natCast_nonneg _
theorem zZ:OpR X (binaryOp .Add) (rI0 λi j=> .int (i+j)):=zsA λ_ _ _ _ _ _ _ q=>add_int q
theorem zhX:OpR X (binaryOp .Sub) (rI0 λi j=> .int (i -j)):=zsA λ_ _ _ _ _ _ _ q=>sub_int q
theorem za0:OpR X (binaryOp .Mult) (rI CMul λi j=> .int (i*j)):=opI λ_ _ _ _ _ _ _ hc q=>mul_int q hc.ok
theorem zh7:OpR X (binaryOp .FloorDiv) (rI ztg λi j=> .int (i/j)):=opI λi j _ _ _ _ _ hc q=>by
 have h1:(0:Int)<j:=hc.1
 have h2:j<1073741824:=hc.2
 exact floordiv_int () (by rw[Int.fdiv_eq_ediv_of_nonneg i ()];exact q) (.inl (PyProof.noPylong_small ()))
theorem zbv:OpR X (binaryOp .Mod) (rI (λ_ j=>0<j) λi j=> .int (i%j)):=opI λi j _ _ _ _ _ hc q=>by
 have h1:(0:Int)<j:=hc
 exact mod_int' () (by rw[Int.fmod_eq_emod_of_nonneg i ()];exact q)
theorem zfa:OpR X (binaryOp .Pow) (rI zs6 λi j=> .int (i^j.toNat)):=opI λ_ _ _ _ _ _ _ hc q=>pow_int_small hc.1 hc.2.1 hc.2.2 q
theorem unI{f:Value->Sem Value}{g:Int->Int}
 (rule:∀(i:Int) (t:Tok) (s:Shared) (Q:Value->Shared->Prop) (E:Value->Shared->Prop),Q (.int (g i) s.toks) {s with toks:=s.toks+1}->wpAny (model X.prog X.w) X.A (f (.int i t)) Q E s):
 UnR X f (rU λi=> .int (g i)):=by
 intro pins s σ H x v Q I rx h
 obtain⟨i,rfl,q⟩:=h
 obtain⟨t,rfl⟩:=rx
 exact rule i t s _ _ ⟨.int (g i),H,I.tok _,⟨_,rfl⟩,q⟩
theorem zeZ:UnR X (unaryOp .USub) (rU λi=> .int (-i)):=unI λ_ _ _ _ _ q=>neg_int q
end
noncomputable def zr1:V->V->Bool
 | .non, .non=>true| .non, .int _=>true| .int _, .non=>true| .non, .bl _=>true| .bl _, .non=>true| .non, .str _=>true| .str _, .non=>true
 | .int _, .int _=>true| .bl _, .bl _=>true| .str _, .str _=>true| .byt _, .byt _=>true
 | .int _, .str _=>true| .str _, .int _=>true| .bl _, .str _=>true| .str _, .bl _=>true
 |_,_=>false
noncomputable def rEq:R2:=λx y H Q=>zr1 x y=true/\Q (.bl (decide (x=y))) H
noncomputable def rNe:R2:=λx y H Q=>zr1 x y=true/\Q (.bl (!decide (x=y))) H
theorem zlR{i j:Int}:decide (V.int i=V.int j)=(i==j):=by
 rw[Bool.eq_iff_iff]
 simp
theorem znb{i j:Bool}:decide (V.bl i=V.bl j)=(i==j):=by
 rw[Bool.eq_iff_iff]
 simp
theorem zlu{i j:Str}:decide (V.str i=V.str j)=(i==j):=by
 rw[Bool.eq_iff_iff]
 simp
theorem zlx{i j:Array UInt8}:decide (V.byt i=V.byt j)=(i.toList==j.toList):=by
 rw[Bool.eq_iff_iff]
 cases i
 cases j
 simp
section
variable{a b c:Expr}{ta tb tc:TE}
theorem zF{Q:VK}{k k':Bool}(I:Inv X pins σ H s)(q:Q (.bl k) H)(e:k=k'):EP X pins σ Q (.bool k') s:=by
 subst e
 exact⟨.bl k,H,I,rfl,q⟩
theorem zau:OpR X (compareOp .Eq) rEq:=by
 intro pins s σ H x y v u Q I rx ry h
 obtain⟨hs,q⟩:=h
 cases x with
 |non=>
  cases rx
  cases y with
  |non=>cases ry;exact EqNone.eq_none_none (zF I q `Z3)
  |bl j=>cases ry;exact EqNone.eq_none_bool (zF I q `Z3)
  |int j=>obtain ⟨t',rfl⟩:=ry;exact EqNone.eq_none_int (zF I q `Z3)
  |str j=>obtain ⟨t',rfl⟩:=ry;exact EqNone.eq_none_str (zF I q `Z3)
  |_=>exact absurd (show false=true from hs) L1
 |bl i=>
  cases rx
  cases y with
  |non=>cases ry;exact EqNone.eq_bool_none (zF I q `Z3)
  |bl j=>cases ry;exact eq_bool (zF I q znb)
  |str j=>obtain ⟨t',rfl⟩:=ry;exact EqMixed.eq_bool_str (zF I q `Z3)
  |_=>exact absurd (show false=true from hs) L1
 |int i=>
  obtain⟨t,rfl⟩:=rx
  cases y with
  |non=>cases ry;exact EqNone.eq_int_none (zF I q `Z3)
  |int j=>obtain ⟨t',rfl⟩:=ry;exact eq_int (zF I q zlR)
  |str j=>obtain ⟨t',rfl⟩:=ry;exact EqMixed.eq_int_str (zF I q `Z3)
  |_=>exact absurd (show false=true from hs) L1
 |str i=>
  obtain⟨t,rfl⟩:=rx
  cases y with
  |non=>cases ry;exact EqNone.eq_str_none (zF I q `Z3)
  |bl j=>cases ry;exact EqMixed.eq_str_bool (zF I q `Z3)
  |int j=>obtain ⟨t',rfl⟩:=ry;exact EqMixed.eq_str_int (zF I q `Z3)
  |str j=>obtain ⟨t',rfl⟩:=ry;exact eq_str (zF I q zlu)
  |_=>exact absurd (show false=true from hs) L1
 |byt i=>
  obtain⟨t,rfl⟩:=rx
  cases y with
  |byt j=>obtain ⟨t',rfl⟩:=ry;exact W.eq_bytes (zF I q zlx)
  |_=>exact absurd (show false=true from hs) L1
 |_=>cases y<;>exact absurd (show false=true from hs) L1
theorem zny:OpR X (compareOp .NotEq) rNe:=by
 intro pins s σ H x y v u Q I rx ry h
 obtain⟨hs,q⟩:=h
 cases x with
 |non=>
  cases rx
  cases y with
  |non=>cases ry;exact EqNone.ne_none_none (zF I q `Z3)
  |bl j=>cases ry;exact EqNone.ne_none_bool (zF I q `Z3)
  |int j=>obtain ⟨t',rfl⟩:=ry;exact EqNone.ne_none_int (zF I q `Z3)
  |str j=>obtain ⟨t',rfl⟩:=ry;exact EqNone.ne_none_str (zF I q `Z3)
  |_=>exact absurd (show false=true from hs) L1
 |bl i=>
  cases rx
  cases y with
  |non=>cases ry;exact EqNone.ne_bool_none (zF I q `Z3)
  |bl j=>cases ry;exact ne_bool (zF I q (Z2 not znb))
  |str j=>obtain ⟨t',rfl⟩:=ry;exact EqMixed.ne_bool_str (zF I q `Z3)
  |_=>exact absurd (show false=true from hs) L1
 |int i=>
  obtain⟨t,rfl⟩:=rx
  cases y with
  |non=>cases ry;exact EqNone.ne_int_none (zF I q `Z3)
  |int j=>obtain ⟨t',rfl⟩:=ry;exact ne_int (zF I q (Z2 not zlR))
  |str j=>obtain ⟨t',rfl⟩:=ry;exact EqMixed.ne_int_str (zF I q `Z3)
  |_=>exact absurd (show false=true from hs) L1
 |str i=>
  obtain⟨t,rfl⟩:=rx
  cases y with
  |non=>cases ry;exact EqNone.ne_str_none (zF I q `Z3)
  |bl j=>cases ry;exact EqMixed.ne_str_bool (zF I q `Z3)
  |int j=>obtain ⟨t',rfl⟩:=ry;exact EqMixed.ne_str_int (zF I q `Z3)
  |str j=>obtain ⟨t',rfl⟩:=ry;exact ne_str (zF I q (Z2 not zlu))
  |_=>exact absurd (show false=true from hs) L1
 |byt i=>
  obtain⟨t,rfl⟩:=rx
  cases y with
  |byt j=>obtain ⟨t',rfl⟩:=ry;exact W.ne_bytes (zF I q (Z2 not zlx))
  |_=>exact absurd (show false=true from hs) L1
 |_=>cases y<;>exact absurd (show false=true from hs) L1
theorem zs4:OpR X (compareOp .Lt) (rI0 λi j=> .bl (decide (i<j))):=zp0 λ_ _ _ _ _ _ _ q=>lt_int q
theorem zhh:OpR X (compareOp .LtE) (rI0 λi j=> .bl (decide (i<=j))):=zp0 λ_ _ _ _ _ _ _ q=>le_int q
theorem zjl:OpR X (compareOp .Gt) (rI0 λi j=> .bl (decide (j<i))):=zp0 λ_ _ _ _ _ _ _ q=>gt_int q
theorem zqO:OpR X (compareOp .GtE) (rI0 λi j=> .bl (decide (j<=i))):=zp0 λ_ _ _ _ _ _ _ q=>ge_int q
theorem zkr:OpR X (compareOp .Is) (λx y H Q=>y= .non/\Q (.bl (decide (x= .non))) H):=by
 intro pins s σ H x y v u Q I rx ry h
 obtain⟨rfl,q⟩:=h
 cases ry
 refine is_none_gen (zF I q ?_)
 cases x<;>first
  |(cases rx;rfl)
  |(obtain⟨t,rfl⟩:=rx;rfl)
theorem zqd:OpR X (compareOp .IsNot) (λx y H Q=>y= .non/\Q (.bl (!decide (x= .non))) H):=by
 intro pins s σ H x y v u Q I rx ry h
 obtain⟨rfl,q⟩:=h
 cases ry
 refine isnot_none_gen (zF I q ?_)
 cases x<;>first
  |(cases rx;rfl)
  |(obtain⟨t,rfl⟩:=rx;rfl)
theorem zpj{r:R2}(ho:OpR X (compareOp op) r)(ha:PE X a ta)(hb:PE X b tb)(hm:behindInMarks op b=false):PE X (.Compare a [op] [b] pos) (tOp r ta tb):=by
 intro pins s σ H Q I h
 exact wpAny_Compare1 (zrr ha hb I h λv u s2 x y H2 I2 rx ry q=>ho pins s2 σ H2 x y v u Q I2 rx ry q) hm
noncomputable def zq7(t:TE):TT:=λσ H Q=>t σ H λx H'=>∃k,x= .bl k/\Q k H'
theorem zqA{r:R2}(ho:OpR X (compareOp op) r)(ha:PE X a ta)(hb:PE X b tb)(hm:behindInMarks op b=false):PT X (.Compare a [op] [b] pos) (zq7 (tOp r ta tb)):=by
 intro pins s σ H Q I h
 refine wpAny_isTrue_Compare1 (thn (ha pins s σ H _ I h) λv s1 ⟨x,H1,I1,r1,q1⟩=>thn (hb pins s1 σ H1 _ I1 q1) λu s2 ⟨y,H2,I2,r2,q2⟩=>
  thn (ho pins s2 σ H2 x y v u _ I2 r1 r2 q2) λc s3 ⟨z,H3,I3,r3,k,e,q3⟩=>?_) hm
 subst e
 cases r3
 exact wpAny_truthy_bool ⟨H3,I3,q3⟩
noncomputable def zn5(r r':R2)(ta tb tc:TE):TE:=λσ H Q=>ta σ H λx H1=>tb σ H1 λy H2=>r x y H2 λz H3=>∃k,z= .bl k/\
 (if k=true then tc σ H3 λw' H4=>r' y w' H4 Q else Q (.bl false) H3)
theorem znP{r:R2}(ho:OpR X (compareOp op) r)(ho':OpR X (compareOp op') r')(ha:PE X a ta)(hb:PE X b tb)(hc:PE X c tc)
 (hm:autoParam (lastMarks [op,op'] [b,c]=false) v6):PE X (.Compare a [op,op'] [b,c] pos) (zn5 r r' ta tb tc):=by
 intro pins s σ H Q I h
 refine Compare_chain (thn (ha pins s σ H _ I h) λv s1 ⟨x,H1,I1,r1,q1⟩=>chain_link (thn (hb pins s1 σ H1 _ I1 q1) λu s2 ⟨y,H2,I2,r2,q2⟩=>
  thn (ho pins s2 σ H2 x y v u _ I2 r1 r2 q2) λd s3 ⟨z,H3,I3,r3,k,e,q3⟩=>?_)) hm
 subst e
 cases r3
 refine wpAny_truthy_bool ?_
 cases k with
 |false=>exact ite_ff ⟨.bl false,H3,I3,rfl,q3⟩
 |true=>exact ite_tt (chain_last (thn (hc pins s3 σ H3 _ I3 q3) λw' s4 ⟨z',H4,I4,r4,q4⟩=>ho' pins s4 σ H4 y z' u w' Q I4 r2 r4 q4))
def zsi(K:W.Frag)(x:V)(H:Hp)(k:Bool):Prop:=
 match x with
 | .non=>k=false
 | .bl b=>k=b
 | .int i=>k=(i !=0)
 | .str y=>y.length<=sizeLine/\k=((y.length:Int) !=0)
 | .byt y=>y.size<=sizeLine/\k=((y.size:Int) !=0)
 | .ref p=>(∃xs,SqL K H p xs/\k=!xs.isEmpty)\/(∃xs,SqT K H p xs/\k=!xs.isEmpty)\/∃kvs,H p=some (.dK kvs)/\k=!kvs.isEmpty
 |_=>False
theorem zkB{kvs:List (κ×V)}{vs:List (κ×Value)}(r:KV kvs vs):(!vs.isEmpty)=!kvs.isEmpty:=by
 cases r<;>rfl
theorem zfT(r:Vals xs its):(!its.toArray.isEmpty)=!xs.isEmpty:=by
 cases r<;>simp
theorem zeg:(sizeLine:Nat)<2^63:=by rw[sizeLine_eq];decide
theorem zrq:ztn X (λx H Q=>∃k,zsi X.K x H k/\Q k H):=by
 intro pins s σ H x v Q I rx h
 obtain⟨k,e,q⟩:=h
 have hl:=zeg
 have hs:sizeLine=16777216:=sizeLine_eq
 cases x with
 |non=>
  cases rx
  have e':k=false:=e
  subst e'
  exact truthy_none ⟨H,I,q⟩
 |bl b=>
  cases rx
  have e':k=b:=e
  subst e'
  exact wpAny_truthy_bool ⟨H,I,q⟩
 |int i=>
  obtain⟨t,rfl⟩:=rx
  have e':k=(i !=0):=e
  subst e'
  exact P.truthy_int ⟨H,I,q⟩
 |str y=>
  obtain⟨t,rfl⟩:=rx
  obtain⟨hy,e'⟩:y.length<=sizeLine/\k=((y.length:Int) !=0):=e
  subst e'
  exact P.truthy_str () ⟨H,I.tok _,q⟩
 |byt y=>
  obtain⟨t,rfl⟩:=rx
  obtain⟨hy,e'⟩:y.size<=sizeLine/\k=((y.size:Int) !=0):=e
  subst e'
  exact W.truthy_bytes () ⟨H,I.tok _,q⟩
 |ref p=>
  cases rx
  have e':(∃xs,SqL X.K H p xs/\k=!xs.isEmpty)\/(∃xs,SqT X.K H p xs/\k=!xs.isEmpty)\/∃kvs,H p=some (.dK kvs)/\k=!kvs.isEmpty:=e
  rcases e' with⟨xs,hx,e'⟩|⟨xs,hx,e'⟩|⟨kvs,hx,e'⟩
  ·subst e'
   obtain⟨its,r,pl,hz⟩:=I.list hx
   have hlen:=r.length
   exact wpAny_truthy_list pl.isList (by simp only[Z0];lia) ⟨H,I.tok _,by rw[zfT r];exact q⟩
  ·subst e'
   obtain⟨its,r,pl,hz⟩:=I.tuple hx
   have hlen:=r.length
   exact truthy_tuple pl (by simp only[Z0];lia) ⟨H,I.tok _,by rw[zfT r];exact q⟩
  ·subst e'
   obtain⟨hz,hS,vs,r,m⟩:kvs.length<=sizeLine/\(p==sysModules)=false/\∃vs,KV kvs vs/\s.heap.DictOf (zS X.prog X.w) p vs:=I.hok p _ hx
   have hlen:kvs.length=vs.length:=Paired.length r
   exact wpAny_truthy_dict hS m () ⟨H,I.tok _,by rw[zkB r];exact q⟩
 |_=>exact (show False from e).elim
theorem zom(ha:PE X a ta)(he:∀whole,isTrue a X.env whole=(do let v ←whole;standAt a.pos;holding [v] (truthy v))):
 PT X a (λσ H Q=>ta σ H λx H'=>∃k,zsi X.K x H' k/\Q k H'):=by
 intro pins s σ H Q I h
 refine isTrue_plain (thn (ha pins s σ H _ I h) λv s1 zq=>?_) (he _)
 obtain⟨x,H1,I1,r1,q1⟩:=zq
 exact zrq pins s1 σ H1 x v Q I1 r1 q1
theorem zc5{x:V}{us:List Value}(r:Vals [x] us):∃u,us=[u]/\RelV x u:=by
 cases r with
 |cons r1 r2=>cases r2;exact⟨_,rfl,r1⟩
theorem zhw{x y:V}{us:List Value}(r:Vals [x,y] us):∃u w',us=[u,w']/\RelV x u/\RelV y w':=by
 cases r with
 |cons r1 r2=>
  cases r2 with
  |cons r3 r4=>cases r4;exact⟨_,_,rfl,r1,r3⟩
theorem zfb(hc:X.calm=true):CallR X (.builtin "min") (λxs H Q=>∃i j,xs=[.int i, .int j]/\Q (.int (if j<i then j else i)) H):=by
 intro pins s σ H xs us Q I r h
 obtain⟨i,j,rfl,q⟩:=h
 obtain⟨u,w',rfl,⟨t,rfl⟩,⟨t',rfl⟩⟩:=zhw r
 refine min_two_ints (I.ok.hd hc) λh' tk k=>⟨_,H,I.kept k,?_,q⟩
 by_cases hj:j<i
 ·rw[R0 hj,R0 hj];exact⟨_,rfl⟩
 ·rw[N0 hj,N0 hj];exact⟨_,rfl⟩
theorem zdG:CallR X (.type "int") (λxs H Q=>(∃i,xs=[.int i]/\Q (.int i) H)\/∃k,xs=[.bl k]/\Q (.int (if k then 1 else 0)) H):=by
 intro pins s σ H xs us Q I r h
 rcases h with⟨i,rfl,q⟩|⟨k,rfl,q⟩
 ·obtain ⟨u,rfl,t,rfl⟩:=zc5 r
  exact call_int_int ⟨.int i,H,I,⟨_,rfl⟩,q⟩
 ·obtain ⟨u,rfl,r1⟩:=zc5 r
  cases r1
  exact call_int_bool ⟨.int (if k then 1 else 0),H,I.tok _,⟨_,rfl⟩,q⟩
end
structure ObjM(h:Heap)(x dx C:Addr)(mA:Str->Option Value):Prop where
 obj:h.get? x=some (W.instObj C dx)
 ns:h.Ns1 dx mA
 ne:dx≠x
theorem zmH{h:Heap}{dx:Addr}(n:h.Ns1 dx mA):∃od,h.get? dx=some od/\∀name,W.lookIn name od=some (mA name):=by
 obtain⟨o,es,ep,ho,hd,hk,_,hm⟩:=n
 refine⟨o,ho,λname=>?_⟩
 have e:=hm name
 unfold nsFind findBy at e
 rw[←Array.find?_toList] at e
 unfold W.lookIn
 rw[hd]
 dsimp only
 split
 ·rename_i y q
  rw[q] at e
  exact Z2 some e
 ·rename_i q
  rw[q] at e
  have a:es.toList.any (·.refKey)=false:=by
   rw[List.any_eq_false]
   intro y hy
   obtain⟨z,t,hkey⟩:=hk y (Array.mem_toList_iff.mp hy)
   simp[DictEntry.refKey,hkey]
  have a':¬es.toList.any (·.refKey)=true:=by rw[a];exact L1
  rw[N0 a']
  exact Z2 some e
theorem ObjM.look{h:Heap}{x dx:Addr}(I:ObjM h x dx C mA):∃od,W.InstAt h x (W.instObj C dx) C (some od)/\∀name,W.lookIn name od=some (mA name):=
 let⟨od,ho,hl⟩:=zmH I.ns
 ⟨od,⟨I.obj,rfl,rfl,ho⟩,hl⟩
section
variable{x dx:Addr}{v:Value}
theorem zpi{expr:Bool}(X:K.In s.heap)(I:ObjM s.heap x dx C mA)(hg:W.plainGet K C name=true)(hh:W.hasDictIn K C=true)
 (ha:W.findIn K (.ref C) name=some none) (hv:mA name=some v) (hv':W.handedIn v=true) (h:Q v {s with toks:=s.toks+1}):
 wpAny `V3 A (getAttr (.ref x) name expr) Q E s:=by
 obtain⟨od,J,hl⟩:=I.look
 exact W.get_value X J (W.plainGet_of hg).1 (W.findObj_own hh ha rfl (by rw[hl,hv])) hv' h
theorem znU{Q:Value×List Value->Shared->Prop}(X:K.In s.heap)(I:ObjM s.heap x dx C mA)(hg:W.plainGet K C name=true)
 (hf:W.findIn K (.ref C) name=some (some (.ref f))) (ht:W.isFn K (.ref f)=true) (hv:mA name=none) (h:Q (.ref f,[.ref x]) s):
 wpAny `V3 A (getMethod (.ref x) name pl) Q E s:=by
 obtain⟨od,J,hl⟩:=I.look
 exact W.method_fn X J (W.plainGet_of hg).1 (W.plainGet_of hg).2 hf (beq_iff_eq.mp ht) (by show(W.lookIn name od).map (·.isSome)=some false;rw[hl,hv];rfl) h
theorem zpR{ns:List Str}{Q:Unit->Shared->Prop}(X:K.In s.heap)(I:ObjM s.heap x dx C mA)
 (hs:W.findIn K (.ref C) "__setattr__"=some (some (.builtin "object.__setattr__"))) (hp:W.plainOver K C=true) (ht:W.takerIn K C name=some none) (hh:W.hasDictIn K C=true)
 (hw:PySem.Within mA ns) (hsz:ns.length<=sizeLine)
 (h:∀h',ObjM h' x dx C (λy=>if y=name then some v else mA y)->Heap.SameBut dx s.heap h'->Q Unit.unit {s with heap:=h',toks:=s.toks+2}):
 wpAny `V3 A (setAttr (.ref x) name v) Q E s:=by
 obtain⟨od,J,hl⟩:=I.look
 refine W.set_plain X J hs (W.osa_open (s:={s with toks:=s.toks+1}) (r:=none) X J hp ht λb=>?_)
 obtain⟨cd,hc,hd'⟩:=W.any_some hh
 have hx:s.heap.get? x=some ⟨.ref C,some dx, .plain, #[]⟩:=I.obj
 refine C0 (K0 (C0 (C0 (wpAny_loadPart hx (C0 (W.Looks.here (s:={s with toks:=s.toks+1}) (W.looks_clsIn X hc) ?_))))))
 rw[hd']
 refine K0 (a:=some dx) (C0 (K0 (C0 ?_)))
 refine wpAny_nsSet1 (s:={s with toks:=s.toks+1}) I.ns λh' hn2 hs2=>?_
 obtain⟨oD,esD,epD,hoD,hdD,hcD⟩:=hn2.count (Within.cons name v hw)
 refine C0 (wpAny_lookBehind hoD (by rw[hdD];exact pastItsLine_dict (V1 hcD (by rw[J1];lia))) ?_)
 exact K0 (h _ ⟨(hs2.2 _ (Ne.symm I.ne)).trans I.obj,hn2,I.ne⟩ hs2)
theorem zo8{R:Result->Shared->Prop}{vs:List Value}(X:K.In s.heap)(hm:W.makesIn K C=true)
 (hi:W.findIn K (.ref C) "__init__"=some (some (.ref f))) (hf:W.typeIn K (.ref f)=some (.type "function"))
 (h:codeAny `V3 (A.under (.builtin "type.__call__" ⟨.ref C::vs,kw⟩)) (.call (.ref f) ⟨.ref (s.heap.objs.size+1)::vs,kw⟩) (W.InitBack (s.heap.objs.size+1) R)
   {s with heap:=(s.heap.push W.emptyDict).push (W.instObj C s.heap.objs.size)}):
 codeAny `V3 A (.call (.ref C) ⟨vs,kw⟩) R s:=by
 obtain⟨hh,g,d,t,os⟩:=s
 exact W.make_core (W.makes_of X hm) (W.looks_findIn X hi) (λself=>W.bind_fn X self hf) (.inl rfl) h
end
noncomputable def zad(f:Str)(v:V):List (Str×V)->List (Str×V)
 |[]=> [(f,v)]
 |(g,x)::r=>if g=f then(g,v)::r else(g,x)::zad f v r
theorem zfn(f g:Str)(v:V):∀fs:List (Str×V),(zad f v fs).lookup g=if g=f then some v else fs.lookup g
 |[]=>by
  show List.lookup g [(f,v)]=_
  by_cases h:g=f
  ·have hb:(g==f)=true:=beq_iff_eq.mpr h
   simp only[List.lookup,hb,R0 h]
  ·have hb:(g==f)=false:=beq_eq_false_iff_ne.mpr h
   simp only[List.lookup,hb,N0 h]
 |(k,x)::r=>by
  have ih:=zfn f g v r
  rw[show zad f v ((k,x)::r)=(if k=f then(k,v)::r else(k,x)::zad f v r)from rfl]
  by_cases hk:k=f
  ·rw[R0 hk]
   by_cases h:g=k
   ·have hb:(g==k)=true:=beq_iff_eq.mpr h
    simp only[List.lookup,hb,R0 (h.trans hk)]
   ·have hb:(g==k)=false:=beq_eq_false_iff_ne.mpr h
    simp only[List.lookup,hb,N0 (λe:g=f=>h (e.trans hk.symm))]
  ·rw[N0 hk]
   by_cases h:g=k
   ·have hb:(g==k)=true:=beq_iff_eq.mpr h
    simp only[List.lookup,hb,N0 (λe:g=f=>hk (h.symm.trans e))]
   ·have hb:(g==k)=false:=beq_eq_false_iff_ne.mpr h
    simp only[List.lookup,hb]
    exact ih
theorem ze2(f:Str)(v:V):∀fs:List (Str×V),f∈(zad f v fs).map (·.1)/\∀g,g∈fs.map (·.1)->g∈(zad f v fs).map (·.1)
 |[]=>⟨by simp[zad],λg h=>by simp at h⟩
 |(k,x)::r=>by
  obtain⟨i1,i2⟩:=ze2 f v r
  rw[show zad f v ((k,x)::r)=(if k=f then(k,v)::r else(k,x)::zad f v r)from rfl]
  by_cases hk:k=f
  ·rw[R0 hk]
   subst hk
   exact⟨`Z3,λg h=>by simpa using h⟩
  ·rw[N0 hk]
   refine⟨?_,λg h=>?_⟩
   ·rw[Z1]
    exact b0 _ i1
   ·rw[Z1] at h⊢
    rcases X0.mp h with e|e
    ·exact X0.mpr (.inl e)
    ·exact b0 _ (i2 g e)
theorem zfp(f:Str)(v:V):∀fs:List (Str×V),(zad f v fs).length<=fs.length+1
 |[]=>by simp[zad]
 |(k,x)::r=>by
  have ih:=zfp f v r
  rw[show zad f v ((k,x)::r)=(if k=f then(k,v)::r else(k,x)::zad f v r)from rfl]
  by_cases hk:k=f
  ·rw[R0 hk,J1,J1];lia
  ·rw[N0 hk,J1,J1];lia
theorem RelO.some_of{o:Option Value}(r:RelO (some v) o):∃u,o=some u/\RelV v u:=by
 cases o with
 |none=>exact (show False from r).elim
 |some u=>exact ⟨u,rfl,r⟩
theorem RelO.none_of{o:Option Value}(r:RelO none o):o=none:=by
 cases o with
 |none=>rfl
 |some u=>exact (show False from r).elim
theorem zmq(r:RelV v u):W.handedIn u=true:=by
 cases v with
 |non=>cases (show u=Value.none from r);rfl
 |bl b=>cases (show u=Value.bool b from r);rfl
 |int i=>obtain ⟨t,e⟩:=(show∃t,u=Value.int i t from r);cases e;rfl
 |str x=>obtain ⟨t,e⟩:=(show∃t,u=Value.str x t from r);cases e;rfl
 |byt b=>obtain ⟨t,e⟩:=(show∃t,u=Value.bytes b t from r);cases e;rfl
 |flt b=>obtain ⟨t,e⟩:=(show∃t,u=Value.float b t from r);cases e;rfl
 |ref a=>cases (show u=Value.ref a from r);rfl
 |ty n=>cases (show u=Value.type n from r);rfl
section
variable{h:Heap}{dx:Addr}{fs fs':List (Str×V)}
theorem zfJ(hok:HOk P w H h)(e:H a=some (.ins C dx fs)):∃mA,ObjM h a dx C mA/\(∀f,RelO (fs.lookup f) (mA f))/\PySem.Within mA (fs.map (·.1))/\fs.length<=1000/\H dx=some (.own a):=by
 obtain⟨d,z,ne,ob,mA,n,r,q⟩:=(show ObjOk P w H h a (.ins C dx fs)from hok a _ e)
 exact⟨mA,⟨ob,n,ne⟩,r,q,z,d⟩
end
structure Cls(K:W.Frag)(C:Addr):Prop where
 pg:W.plainGet K C Str.empty=true
 hd:W.hasDictIn K C=true
 po:W.plainOver K C=true
 sa:W.findIn K (.ref C) "__setattr__"=some (some (.builtin "object.__setattr__"))
variable{sa:TS}
theorem Cls.get(c:Cls K C)(f:Str):W.plainGet K C f=true:=c.pg
def NoAttr(K:W.Frag)(C:Addr)(f:Str):Prop:=W.findIn K (.ref C) f=some none
theorem NoAttr.taker{f:Str}(n:NoAttr K C f):W.takerIn K C f=some none:=by
 unfold W.takerIn
 rw[show W.findIn K (.ref C) f=some none from n]
 rfl
structure Con(K:W.Frag)(C:Addr)(f:Str)(v:V)(u:Value):Prop where
 at_:W.findIn K (.ref C) f=some (some u)
 rel:RelV v u
 get:W.specialIn K u "__get__"=some none
 cp:W.copiedNames.contains f=false
structure Meth(K:W.Frag)(C:Addr)(m:Str)(f:Addr):Prop where
 at_:W.findIn K (.ref C) m=some (some (.ref f))
 fn:W.isFn K (.ref f)=true
 kp:W.keepIn K (.ref f)=true
section
variable{dx:Addr}{fs:List (Str×V)}{f:Str}
theorem zf3{b:Bool}(I:Inv X pins σ H s)(e:H a=some (.ins C dx fs))(c:Cls X.K C)(n:NoAttr X.K C f)(l:fs.lookup f=some v)
 (h:∀u s',Inv X pins σ H s'->RelV v u->Q u s'):wpAny (model X.prog X.w) A (getAttr (.ref a) f b) Q E s:=by
 obtain⟨mA,O,r,_,_,_⟩:=zfJ I.hok e
 obtain⟨u,hu,ru⟩:=RelO.some_of (v:=v) (o:=mA f) (by rw[←l];exact r f)
 exact zpi I.kIn O (c.get f) c.hd n hu (zmq ru) (h u _ (I.tok _) ru)
theorem zd0{m:Str}{g:Addr}{Q:Value×List Value->Shared->Prop}(I:Inv X pins σ H s)(e:H a=some (.ins C dx fs))(c:Cls X.K C)(k:Meth X.K C m g)(l:fs.lookup m=none)
 (h:Q (.ref g,[.ref a]) s):wpAny (model X.prog X.w) A (getMethod (.ref a) m pl) Q E s:=by
 obtain⟨mA,O,r,_,_,_⟩:=zfJ I.hok e
 have hn:mA m=none:=RelO.none_of (by rw[←l];exact r m)
 exact znU I.kIn O (c.get m) k.at_ k.fn hn h
theorem zf9{y:V}{Q:Unit->Shared->Prop}(I:Inv X pins σ H s)(e:H a=some (.ins C dx fs))(c:Cls X.K C)(n:NoAttr X.K C f)(hl:fs.length<1000)(ry:RelV y u)
 (h:∀s',Inv X pins σ (upd H a (.ins C dx (zad f y fs))) s'->Q Unit.unit s'):wpAny (model X.prog X.w) A (setAttr (.ref a) f u) Q E s:=by
 obtain⟨mA,O,r,wi,_,ho⟩:=zfJ I.hok e
 have hz:(fs.map (·.1)).length<=sizeLine:=by rw[D0,sizeLine_eq];lia
 refine zpR I.kIn O c.sa c.po n.taker c.hd wi hz λh' O' sb=>h _ ?_
 have hd:∃o,h'.get? dx=some o:=let⟨o,_,_,e',_⟩:=O'.ns;⟨o,e'⟩
 refine I.write (x:=a) (e:=dx) (by rw[e];exact True.intro) (.inr ho) (λb q hb z=>(sb.2 b hb).trans z) hd ?_
 refine⟨by rw[zd O.ne];exact ho,?_,O.ne,O'.obj,_,O'.ns,λg=>?_,λg hg=>?_⟩
 ·have:=zfp f y fs;lia
 ·show RelO ((zad f y fs).lookup g) (if g=f then some u else mA g)
  rw[zfn]
  by_cases q:g=f
  ·rw[R0 q,R0 q];exact ry
  ·rw[N0 q,N0 q];exact r g
 ·by_cases q:g=f
  ·rw[q];exact(ze2 f y fs).1
  ·refine (ze2 f y fs).2 g (wi g λz=>hg ?_)
   show(if g=f then some u else mA g)=none
   rw[N0 q];exact z
theorem Inv.made(I:Inv X pins σ H s):Inv X pins σ (upd (upd H s.heap.objs.size (.own (s.heap.objs.size+1))) (s.heap.objs.size+1) (.ins C s.heap.objs.size []))
 {s with heap:=(s.heap.push W.emptyDict).push (W.instObj C s.heap.objs.size)}:=by
 have e1:(s.heap.push W.emptyDict).get? s.heap.objs.size=some W.emptyDict:=O0 s.heap rfl
 have e2:((s.heap.push W.emptyDict).push (W.instObj C s.heap.objs.size)).get? (s.heap.objs.size+1)=some (W.instObj C s.heap.objs.size):=by
  have:=O0 (s.heap.push W.emptyDict) (o:=W.instObj C s.heap.objs.size) rfl
  rwa[Heap.size_push] at this
 have e3:(s.heap.push W.emptyDict).Ns s.heap.objs.size (λ_=>none):=⟨W.emptyDict, #[],_,e1,rfl,(λe he=>absurd he `Z3),λ_=>rfl⟩
 have I1:=I.laid (a:=s.heap.objs.size) (o:= .own (s.heap.objs.size+1)) (h':=s.heap.push W.emptyDict) (t':=s.toks) (λb u q=>G0 _ q) (P0 _) ⟨_,e1⟩
 refine I1.laid (a:=s.heap.objs.size+1) (o:= .ins C s.heap.objs.size []) (t':=s.toks) (λb u q=>G0 _ q) (Nat.le_of_eq (Heap.size_push _ _)) ?_
 have ne:s.heap.objs.size≠s.heap.objs.size+1:=P1 (Nat.lt_succ_self _)
 refine⟨by rw[zd ne,zb],W1 _,ne,e2,λ_=>none,(Heap.Ns1.of_empty e3).at λo q=>G0 _ q,λ_=>True.intro,λy hy=>absurd rfl hy⟩
theorem zqf{e:Expr}{f:Str}(hb:attributeBase e f env (eval e env)=eval e env)
 (h:wpAny `V3 A (eval e env) (λo s₁=>wpAny `V3 A (getAttr o f true) Q E s₁) E s):wpAny `V3 A (eval (.Attribute e f pos) env) Q E s:=
 Attribute_any_ h (by rw[arm_eval_Attribute,hb])
end
noncomputable def zrd(K:W.Frag)(ta:TE)(f:Str):TE:=λσ H Q=>ta σ H λx H1=>∃a C dx fs v,x= .ref a/\H1 a=some (.ins C dx fs)/\Cls K C/\NoAttr K C f/\fs.lookup f=some v/\Q v H1
noncomputable def zsw(K:W.Frag)(ta tv:TE)(f:Str):TS:=λD σ H=>tv σ H λy H1=>ta σ H1 λx H2=>∃a C dx fs,x= .ref a/\H2 a=some (.ins C dx fs)/\Cls K C/\NoAttr K C f/\fs.length<1000/\
 D.nx σ (upd H2 a (.ins C dx (zad f y fs)))
def zse(X:Cx)(op:Operator)(rd:V->V->Hp->VK->Prop):Prop:=
 ∀(pins:List (Addr×Obj)) (s:Shared) (σ:St) (H:Hp) (x y:V) (u v:Value) (Q:VK),Inv X pins σ H s->RelV x u->RelV y v->rd x y H Q->wpAny (model X.prog X.w) X.A (inplaceOp op u v) (EP X pins σ Q) X.xe s
def zlm(K:W.Frag)(ta tv:TE)(rd:V->V->Hp->VK->Prop)(f:Str):TS:=λD σ H=>ta σ H λx H1=>∃a C dx fs v,x= .ref a/\H1 a=some (.ins C dx fs)/\Cls K C/\NoAttr K C f/\fs.lookup f=some v/\
 tv σ H1 λy H2=>rd v y H2 λz H3=>∃dx' fs',H3 a=some (.ins C dx' fs')/\fs'.length<1000/\D.nx σ (upd H3 a (.ins C dx' (zad f z fs')))
section
variable{o e:Expr}{f:Str}{ta:TE}
theorem zrJ(he:PE X e ta)(hb:attributeBase e f X.env (eval e X.env)=eval e X.env):PE X (.Attribute e f pos) (zrd X.K ta f):=by
 intro pins s σ H Q I h
 refine zqf hb (thn (he pins s σ H _ I h) λu s1 zq=>?_)
 obtain⟨x,H1,I1,rx,a,C,dx,fs,v,ex,ea,c,n,l,q⟩:=zq
 subst ex
 obtain rfl:u=Value.ref a:=rx
 exact zf3 I1 ea c n l λu' s2 I2 ru=>⟨v,H1,I2,ru,q⟩
theorem zrW(ha:PE X o ta)(hv:PE X value tv)(hs:swapsWith value (some (.Attribute o f pos')) pos.line X.env=pure false):PS X (.Assign [.Attribute o f pos'] value pos) (zsw X.K ta tv f):=by
 intro pins s σ H D I h
 refine plainObj_wpAny_Assign_Attribute (thn (hv pins s σ H _ I h) λu s1 zq=>?_) hs
 obtain⟨y,H1,I1,ry,q⟩:=zq
 refine thn (ha pins s1 σ H1 _ I1 q) λov s2 zq1=>?_
 obtain⟨x,H2,I2,rx,a,C,dx,fs,ex,ea,c,n,l,q2⟩:=zq1
 subst ex
 obtain rfl:ov=Value.ref a:=rx
 exact zf9 I2 ea c n l ry λs3 I3=>⟨σ,_,I3,q2⟩
theorem zmU{op:Operator}{rd:V->V->Hp->VK->Prop}(ha:PE X o ta)(hv:PE X value tv)(hop:zse X op rd):PS X (.AugAssign (.Attribute o f tpos) op value pos) (zlm X.K ta tv rd f):=by
 intro pins s σ H D I h
 refine wpAny_AugAssign_AttributeAny (thn (ha pins s σ H _ I h) λov s1 zq=>?_)
 obtain⟨x,H1,I1,rx,a,C,dx,fs,v,ex,ea,c,n,l,q⟩:=zq
 subst ex
 obtain rfl:ov=Value.ref a:=rx
 refine zf3 I1 ea c n l λu s2 I2 ru=>thn (hv pins s2 σ H1 _ I2 q) λw3 s3 ⟨y,H2,I3,ry,q3⟩=>thn (hop pins s3 σ H2 v y u w3 _ I3 ru ry q3) λw4 s4 ⟨z,H3,I4,rz,dx',fs',ea',l',q4⟩=>?_
 exact zf9 I4 ea' c n l' rz λs5 I5=>⟨σ,_,I5,q4⟩
def ztz:V->V->Hp->VK->Prop:=λx y H Q=>∃i j,x= .int i/\y= .int j/\Q (.int (i+j)) H
theorem zrX:zse X .Add ztz:=by
 rintro pins s σ H x y u v Q I rx ry ⟨i,j,rfl,rfl,q⟩
 obtain⟨t,rfl⟩:=(show∃t,u=Value.int i t from rx)
 obtain⟨t',rfl⟩:=(show∃t',v=Value.int j t' from ry)
 exact PyProof.Rows.iadd_int ⟨.int (i+j),H,I.tok _,⟨_,rfl⟩,q⟩
theorem methcall_of{m:Str}{args:List Expr}(he:PE X e te)(I:Inv X pins σ H s)
 (h:te σ H λx H1=>∃a C dx fs g,x= .ref a/\H1 a=some (.ins C dx fs)/\Cls X.K C/\Meth X.K C m g/\fs.lookup m=none/\
   ∀s1,Inv X pins σ H1 s1->wpAny (model X.prog X.w) X.A (callWith pos (.ref g) [.ref a] (backTo pos (starEach args X.env)) (backToKw pos (keywordEach [] X.env))) Q X.xe s1)
 (ht:eval (.Call (.Attribute e m apos) args [] pos) X.env=(do
   let ov ←eval e X.env
   standAt apos.atName
   let(f,first) ←holding [ov] (getMethod ov m pl)
   callWith pos f first (backTo pos (starEach args X.env)) (backToKw pos (keywordEach [] X.env)))):
 wpAny (model X.prog X.w) X.A (eval (.Call (.Attribute e m apos) args [] pos) X.env) Q X.xe s:=by
 refine W.methodCall_KW (pl:=pl) (thn (he pins s σ H _ I h) λu s1 zq=>?_) ht
 obtain⟨x,H1,I1,rx,a,C,dx,fs,g,ex,ea,c,k,l,q⟩:=zq
 subst ex
 obtain rfl:u=Value.ref a:=rx
 exact zd0 I1 ea c k l (q s1 I1)
end
section
variable{c:Value}{b:Bool}
inductive TyOf(K:W.Frag)(H:Hp):V->Value->Prop where
 |non:TyOf K H .non (.type "NoneType")
 |bl (x:Bool):TyOf K H (.bl x) (.type "bool")
 |int (i:Int):TyOf K H (.int i) (.type "int")
 |str (x:Str):TyOf K H (.str x) (.type "str")
 |flt (x:UInt64):TyOf K H (.flt x) (.type "float")
 |lst {a:Addr} {xs:List V} (e:H a=some (.lst xs)):TyOf K H (.ref a) (.type "list")
 |frz {a:Addr} {o:Obj} {xs:List V} (e:H a=some (.frz o (.lst xs))):TyOf K H (.ref a) (.type "list")
 |tup {a:Addr} {xs:List V} (e:H a=some (.tup xs)):TyOf K H (.ref a) (.type "tuple")
 |dK {a:Addr} {kvs:List (Key×V)} (e:H a=some (.dK kvs)):TyOf K H (.ref a) (.type "dict")
 |dT {a:Addr} {kvs:List (List Key×V)} (e:H a=some (.dT kvs)):TyOf K H (.ref a) (.type "dict")
 |ins {a C dx:Addr} {fs:List (Str×V)} (e:H a=some (.ins C dx fs)) (cl:Cls K C) (ha:W.findIn K (.ref C) "__class__"=some (some (.builtin "object.__class__")))
   (hn:W.specialIn K (.builtin "object.__class__") "__get__"=some (some (.builtin "getset_descriptor.__get__"))) (htk:W.takesIn K (.builtin "object.__class__")=some true)
   (hm:W.mroIn K C (.type "object")=some true):TyOf K H (.ref a) (.ref C)
theorem zmn{x:V}{t:Value}(I:Inv X pins σ H s)(rx:RelV x u)(ty:TyOf X.K H x t)(e:W.kitOne X.K t c=some b)(h:∀tk,Q (.bool b) {s with toks:=tk}):
 wpAny (model X.prog X.w) A (call (.builtin "isinstance") [u,c]) Q E s:=by
 cases ty with
 |non=>cases (show u=Value.none from rx);exact W.kia_one W.kitx_none I.kIn True.intro e (λz=>nomatch z) h
 |bl y=>cases (show u=Value.bool y from rx);exact W.kia_one W.kitx_bool I.kIn True.intro e (λz=>nomatch z) h
 |int i=>obtain ⟨t,q⟩:=(show∃t,u=Value.int i t from rx);cases q;exact W.kia_one W.kitx_int I.kIn True.intro e (λz=>nomatch z) h
 |str y=>obtain ⟨t,q⟩:=(show∃t,u=Value.str y t from rx);cases q;exact W.kia_one W.kitx_str I.kIn True.intro e (λz=>nomatch z) h
 |flt y=>obtain ⟨t,q⟩:=(show∃t,u=Value.float y t from rx);cases q;exact W.kia_one W.kitx_float I.kIn True.intro e (λz=>nomatch z) h
 | @lst a xs ea=>
   cases(show u=Value.ref a from rx)
   obtain⟨_,_,n,_,h1⟩:=(show ObjOk X.prog X.w H s.heap a (.lst xs)from I.hok a _ ea)
   exact W.kia_one W.kitx_list I.kIn ⟨_,h1,rfl⟩ e (λz=>nomatch z) h
 | @frz a ob xs ea=>
   cases(show u=Value.ref a from rx)
   obtain⟨_,_,_,n,_,h1⟩:=(show ObjOk X.prog X.w H s.heap a (.frz ob (.lst xs))from I.hok a _ ea)
   exact W.kia_one W.kitx_list I.kIn ⟨_,h1,rfl⟩ e (λz=>nomatch z) h
 | @tup a xs ea=>
   cases(show u=Value.ref a from rx)
   obtain⟨_,_,_,p,_⟩:=(show ObjOk X.prog X.w H s.heap a (.tup xs)from I.hok a _ ea)
   obtain⟨o,h1,h2,_⟩:=p
   exact W.kia_one W.kitx_tuple I.kIn ⟨o,h1,h2⟩ e (λz=>nomatch z) h
 | @dK a kvs ea=>
   cases(show u=Value.ref a from rx)
   obtain⟨_,_,vs,_,p⟩:=(show ObjOk X.prog X.w H s.heap a (.dK kvs)from I.hok a _ ea)
   obtain⟨o,es,ep,h1,h2,_⟩:=p
   exact W.kia_one W.kitx_dict I.kIn ⟨o,h1,h2.1⟩ e (λz=>nomatch z) h
 | @dT a kvs ea=>
   cases(show u=Value.ref a from rx)
   obtain⟨_,_,xs,_,o,es,ep,h1,h2,_⟩:=(show ObjOk X.prog X.w H s.heap a (.dT kvs)from I.hok a _ ea)
   exact W.kia_one W.kitx_dict I.kIn ⟨o,h1,h2.1⟩ e (λz=>nomatch z) h
 | @ins a C dx fs ea cl ha hn htk hm=>
   cases(show u=Value.ref a from rx)
   obtain⟨mA,O,_⟩:=zfJ I.hok ea
   obtain⟨od,J,_⟩:=O.look
   exact W.kia_one (W.kitx_own (cl.get _) cl.hd ha hn htk hm) I.kIn J e (λz=>nomatch z) h
end
structure Room(k:Nat)(A:Around):Prop where
 hd:A.handled=none
 dp:A.depth+3*k+5<recursionLimit
 un:A.units+16*k+200<cLine
 gd:A.guards=some []
theorem Room.mono{k:Nat}(r:Room k A)(h:j<=k):Room j A:=⟨r.hd,by have:=r.dp;lia,by have:=r.un;lia,r.gd⟩
theorem Room.deeper{k:Nat}(r:Room (k+1) A)(env:Env):Room k (A.deeper env):=
 ⟨r.hd,by have:=r.dp;show A.depth+1+3*k+5<_;lia,by have:=r.un;show A.units+3+16*k+200<_;lia,r.gd⟩
theorem zkm{us:List Value}:(A.under (.builtin "type.__call__" ⟨.ref C::us,kw⟩)).depth=A.depth+1:=by
 first|rfl|simp[Around.under,Code.weight,Code.isCreation,Code.isGuard,Code.isCaller,Code.frames,Code.isFrame,guardIds]
theorem zke{us:List Value}:(A.under (.builtin "type.__call__" ⟨.ref C::us,kw⟩)).units=A.units+1:=by
 first|rfl|simp[Around.under,Code.cUnits,Code.frames,Code.isFrame]
theorem Room.make{k:Nat}(r:Room (k+1) A)(C:Addr)(us:List Value)(kw:List (Str×Value)):Room k (A.under (.builtin "type.__call__" ⟨.ref C::us,kw⟩)):=
 ⟨r.hd,by have:=r.dp;rw[zkm];lia,by have:=r.un;rw[zke];lia,(show(_:Option _)=some [] from r.gd)⟩
theorem Room.depth{k:Nat}(r:Room k A):A.depth<recursionLimit:=by have:=r.dp;lia
theorem Room.units{k:Nat}(r:Room k A):A.units+64<cLine:=by have:=r.un;lia
noncomputable def znh:TA:=λ_ H Q=>Q [] H
noncomputable def zlM(ta:TE)(tr:TA):TA:=λσ H Q=>ta σ H λx H1=>tr σ H1 λxs H2=>Q (x::xs) H2
section
variable{e:Expr}{t:TA}
theorem zoa:PA X [] znh:=λ_ _ _ _ H Q I h=>Calls.spliced_nil ⟨[],H,I, .nil,h⟩
theorem zlf(ha:PE X e te)(hr:PA X es t)(hs:autoParam (starEach (e::es) X.env=(false,eval e X.env)::starEach es X.env) v3):PA X (e::es) (zlM te t):=by
 intro pos pins s σ H Q I h
 rw[hs]
 show wpAny _ _ (spliced ((false,eval e X.env)::backTo pos (starEach es X.env))) _ _ s
 refine Calls.spliced_cons (thn (ha pins s σ H _ I h) λu s1 zq=>?_)
 obtain⟨x,H1,I1,r1,q1⟩:=zq
 refine thn (hr pos pins s1 σ H1 _ I1 q1) λus s2 zq=>?_
 obtain⟨xs,H2,I2,r2,q2⟩:=zq
 exact⟨x::xs,H2,I2, .cons r1 r2,q2⟩
noncomputable def zsM(t:TA):TE:=λσ H Q=>t σ H λxs H1=>xs.length<=sizeLine/\∀p,H1 p=none->Q (.ref p) (upd H1 p (.tup xs))
noncomputable def zrZ(t:TA):TE:=λσ H Q=>t σ H λxs H1=>xs.length<=sizeLine/\∀p,H1 p=none->Q (.ref p) (upd H1 p (.lst xs))
theorem zrC{x1}(h:PA X es t):PE X (.Tuple es x1 pos) (zsM t):=by
 intro pins s σ H Q I hq
 refine wpAny_Tuple_spliced (thn (h pos pins s σ H _ I hq) λus s1 ⟨xs,H1,I1,r,z,q⟩=>⟨by rw[←r.length];exact z,?_⟩)
 have hf:H1 s1.heap.objs.size=none:=I1.hok.fresh (P0 _)
 refine⟨.ref s1.heap.objs.size,upd H1 s1.heap.objs.size (.tup xs),I1.laid (t':=s1.toks) (λb u e=>G0 _ e) (P0 _) ?_,rfl,q _ hf⟩
 exact⟨z,us,r,⟨_,O0 _ rfl,rfl,_,rfl⟩,NoDict.new rfl (O0 _ rfl)⟩
theorem znY(h:PA X es t):PE X (.List es pos) (zrZ t):=by
 intro pins s σ H Q I hq
 refine wpAny_List_spliced (thn (h pos pins s σ H _ I hq) λus s1 ⟨xs,H1,I1,r,z,q⟩=>⟨by rw[←r.length];exact z,?_⟩)
 have hf:H1 s1.heap.objs.size=none:=I1.hok.fresh (P0 _)
 refine⟨.ref s1.heap.objs.size,upd H1 s1.heap.objs.size (.lst xs),I1.laid (t':=s1.toks) (λb u e=>G0 _ e) (P0 _) ?_,rfl,q _ hf⟩
 exact⟨z,us,0,r,O0 _ rfl⟩
end
noncomputable abbrev Sp:=List V->Hp->VK->XK->Prop
variable{sp:Sp}
noncomputable abbrev CXT:=List Env->Hp->Shared->XK->Value->Shared->Prop
variable{CX:CXT}
structure Env0(P:Program)(w:World)(K:W.Frag)(mg:Str->Option Value)(base:Heap)(A:Around)(outer:List Env)(s:Shared)(H:Hp):Prop where
 frames:A.frames=some outer
 mod:Mod K mg base
 bs:∀b o,base.get? b=some o->s.heap.get? b=some o/\H b=none
 bsz:base.objs.size<=s.heap.objs.size
 funs:s.heap.FunFrames base outer
 frf:∀b∈frs outer,H b=none
 hok:HOk P w H s.heap
 bare:AllBare s.gens
def CE(outer:List Env)(P:Program)(w:World)(H:Hp)(s:Shared)(Q:VK)(u:Value)(s':Shared):Prop:=
 ∃v H',s'.os=s.os/\AllBare s'.gens/\Un (frs outer) [] H H' s.heap s'.heap/\HOk P w H' s'.heap/\RelV v u/\Q v H'
def CR(CX:CXT)(outer:List Env)(P:Program)(w:World)(H:Hp)(s:Shared)(Q:VK)(E:XK)(r:Result)(s':Shared):Prop:=
 match r with
 | .ok (.ret u)=>CE outer P w H s Q u s'
 | .ok _=>False
 | .error e=>CX outer H s E e s'
structure FnOk(P:Program)(w:World)(K:W.Frag)(mg:Str->Option Value)(base:Heap)(CX:CXT)(k:Nat)(f:Addr)(fd:FuncData)(ps:List Str)(sp:Sp):Prop where
 len:∀vs H Q E,sp vs H Q E->vs.length=ps.length
 run:∀(A:Around) (outer:List Env) (s:Shared) (H:Hp) (args:Args) (us:List Value) (vs:List V) (Q:VK) (E:XK),Room k A->Env0 P w K mg base A outer s H->BindsTo s fd args (ps.zip us)->Vals vs us->sp vs H Q E->
  codeAny (model P w) A (.call (.ref f) args) (CR CX outer P w H s Q E) s
theorem Env0.make{mg:Str->Option Value}{base:Heap}(e:Env0 P w K mg base A outer s H)(C:Addr)(us:List Value)(kw:List (Str×Value)):
 Env0 P w K mg base (A.under (.builtin "type.__call__" ⟨.ref C::us,kw⟩)) outer s H:=⟨by first|exact e.frames|(simpa[Around.under,Code.envs,Code.isFrame,pushEnvs] using e.frames),e.mod,e.bs,e.bsz,e.funs,e.frf,e.hok,e.bare⟩
theorem Inv.env0(I:Inv X pins σ H s):Env0 X.prog X.w X.K X.mg X.base X.A X.stack s H:=
 ⟨I.ok.frames,I.ok.mod,I.bs,V1 I.ok.bsz I.sz,I.stack,I.stkFree,I.hok,I.bare⟩
theorem Inv.after{Q:VK}(I:Inv X pins σ H s)(h:CE X.stack X.prog X.w H s Q u s'):EP X pins σ Q u s':=by
 obtain⟨v,H',os,bare,un,hok,r,q⟩:=h
 obtain⟨hh,g,d,t,os'⟩:=s'
 obtain rfl:os'=s.os:=os
 exact⟨v,H',I.call (h':=hh) (g':=g) (d':=d) (t':=t) (ch:=[]) un hok bare (λb z=>absurd z `Z3),r,q⟩
noncomputable def zq9(sp:Sp)(dvs:List V)(E:XK)(t:TA):TE:=λσ H Q=>t σ H λvs H1=>sp (vs ++dvs) H1 Q E
noncomputable def zlv(C:Addr)(m:Str)(sp:Sp)(dvs:List V)(E:XK)(ta:TE)(t:TA):TE:=λσ H Q=>ta σ H λx H1=>∃a dx fs,x= .ref a/\H1 a=some (.ins C dx fs)/\fs.lookup m=none/\
 t σ H1 λvs H2=>sp (x::(vs ++dvs)) H2 Q E
noncomputable def zqZ(C:Addr)(sp:Sp)(dvs:List V)(E:XK)(t:TA):TE:=λσ H Q=>t σ H λvs H1=>∀x dx,H1 x=none->H1 dx=none->dx≠x->
 sp (.ref x::(vs ++dvs)) (upd (upd H1 dx (.own x)) x (.ins C dx [])) (λv H2=>v= .non/\Q (.ref x) H2) E
def Binds(K:W.Frag)(fd:FuncData)(ps:List Str)(ds:List Value):Prop:=
 ∀(s:Shared) (us:List Value),K.In s.heap->(us ++ds).length=ps.length->BindsTo s fd ⟨us,[]⟩ (ps.zip (us ++ds))
theorem Binds.all{ps:List Str}(h:∀us:List Value,us.length=ps.length->bindArgs fd ⟨us,[]⟩=pure (ps.zip us)):Binds K fd ps []:=λs us _ hl=>by
 rw[List.append_nil] at hl⊢
 exact .of_eq (h us hl)
def za4(CX:CXT)(X:Cx)(E:XK):Prop:=∀(pins:List (Addr×Obj)) (σ:St) (H:Hp) (s:Shared) (e:Value) (s':Shared),Inv X pins σ H s->CX X.stack H s E e s'->X.xe e s'
section
variable{k:Nat}{ps:List Str}{ds:List Value}{E:XK}{m:Str}{p:Pos}{e o:Expr}{ta:TE}{t:TA}
theorem zkS{Q:VK}{us:List Value}(F:FnOk X.prog X.w X.K X.mg X.base CX k f fd ps sp)(hr:Room k X.A)(hb:Binds X.K fd ps ds)(hd:Vals dvs ds)(hx:za4 CX X E)
 (I:Inv X pins σ H s) (r:Vals vs us) (h:sp (vs ++dvs) H Q E):wpAny (model X.prog X.w) X.A (call (.ref f) us) (EP X pins σ Q) X.xe s:=by
 have r2:Vals (vs ++dvs) (us ++ds):=r.append hd
 have hl:(us ++ds).length=ps.length:=by rw[←r2.length];exact F.len _ _ _ _ h
 refine wpAny_call (codeAny_mono (F.run X.A X.stack s H ⟨us,[]⟩ (us ++ds) (vs ++dvs) Q E hr I.env0 (hb s us I.kIn hl) r2 h) λr s' hq=>?_)
 cases r with
 |error e=>exact hx pins σ H s e s' I hq
 |ok fl=>
  cases fl with
  |ret u=>exact I.after hq
  |next=>exact False.elim hq
  |brk=>exact False.elim hq
  |cont=>exact False.elim hq
theorem zpP(F:FnOk X.prog X.w X.K X.mg X.base CX k f fd ps sp)(hr:Room k X.A)(hg:Gl X x)(hm:X.mg x=some (.ref f))(hk:W.keepIn X.K (.ref f)=true)(hb:Binds X.K fd ps ds)(hd:Vals dvs ds)(hx:za4 CX X E)
 (ha:PA X (e::es) t) (hdb:autoParam ((x==("__debug__":Str))=false) v4) (he:autoParam (starEach (e::es) X.env=(false,eval e X.env)::starEach es X.env) v3) (hpl:autoParam ((backTo pos (starEach es X.env)).any (·.1)=false) v3):
 PE X (.Call (.Name x p) (e::es) [] pos) (zq9 sp dvs E t):=by
 intro pins s σ H Q I h
 refine wpAny_Call_Name_kw (zeC I hg hm ?_ hdb)
 refine W.callWith_K (h₀:=X.base) I.ok.mod.kin hk (thn (ha pos pins s σ H _ I h) λus s1 zq=>?_) he hpl
 obtain⟨vs,H1,I1,r,q⟩:=zq
 refine⟨I1.kIn,?_⟩
 exact zkS F hr hb hd hx I1 r q
theorem zpI(he:PE X o ta)(c:Cls X.K C)(hm:Meth X.K C m f)(F:FnOk X.prog X.w X.K X.mg X.base CX k f fd ps sp)(hr:Room k X.A)(hb:Binds X.K fd ps ds)(hd:Vals dvs ds)(hx:za4 CX X E)(ha:PA X (e::es) t)
 (hst:autoParam (starEach (e::es) X.env=(false,eval e X.env)::starEach es X.env) v3) (hpl:autoParam ((backTo pos (starEach es X.env)).any (·.1)=false) v3)
 (ht:autoParam (eval (.Call (.Attribute o m apos) (e::es) [] pos) X.env=(do
   let ov ←eval o X.env
   standAt apos.atName
   let(f,first) ←holding [ov] (getMethod ov m pl)
   callWith pos f first (backTo pos (starEach (e::es) X.env)) (backToKw pos (keywordEach [] X.env)))) v3):
 PE X (.Call (.Attribute o m apos) (e::es) [] pos) (zlv C m sp dvs E ta t):=by
 intro pins s σ H Q I h
 refine W.methodCall_KW (pl:=pl) (thn (he pins s σ H _ I h) λu s1 zq=>?_) ht
 obtain⟨x,H1,I1,rx,a,dx,fs,ex,ea,l,q⟩:=zq
 subst ex
 obtain rfl:u=Value.ref a:=rx
 refine zd0 I1 ea c hm l ?_
 refine W.callWith_K (first:=[.ref a]) (h₀:=X.base) I.ok.mod.kin hm.kp (thn (ha pos pins s1 σ H1 _ I1 q) λus s2 zq=>?_) hst hpl
 obtain⟨vs,H2,I2,r,q2⟩:=zq
 refine⟨I2.kIn,?_⟩
 exact zkS (us:= .ref a::us) (vs:= .ref a::vs) F hr hb hd hx I2 (.cons rfl r) q2
theorem zoJ(he:PE X o ta)(c:Cls X.K C)(hm:Meth X.K C m f)(F:FnOk X.prog X.w X.K X.mg X.base CX k f fd ps sp)(hr:Room k X.A)(hb:Binds X.K fd ps ds)(hd:Vals dvs ds)(hx:za4 CX X E)
 (ht:autoParam (eval (.Call (.Attribute o m apos) [] [] pos) X.env=(do
   let ov ←eval o X.env
   standAt apos.atName
   let(f,first) ←holding [ov] (getMethod ov m pl)
   callWith pos f first (backTo pos (starEach [] X.env)) (backToKw pos (keywordEach [] X.env)))) v3):
 PE X (.Call (.Attribute o m apos) [] [] pos) (zlv C m sp dvs E ta znh):=by
 intro pins s σ H Q I h
 refine W.methodCall_KW (pl:=pl) (thn (he pins s σ H _ I h) λu s1 zq=>?_) ht
 obtain⟨x,H1,I1,rx,a,dx,fs,ex,ea,l,q⟩:=zq
 subst ex
 obtain rfl:u=Value.ref a:=rx
 refine zd0 I1 ea c hm l ?_
 exact W.callWith_K0 (first:=[.ref a]) I1.kIn hm.kp (zkS (us:=[.ref a]) (vs:=[.ref a]) F hr hb hd hx I1 (.cons rfl .nil) q)
structure Mk(K:W.Frag)(C f:Addr):Prop where
 makes:W.makesIn K C=true
 init:W.findIn K (.ref C) "__init__"=some (some (.ref f))
 fn:W.isFn K (.ref f)=true
 kp:W.keepIn K (.ref C)=true
theorem zm9{Q:VK}{us:List Value}(M:Mk X.K C f)(F:FnOk X.prog X.w X.K X.mg X.base CX k f fd ps sp)(hr:Room (k+1) X.A)(hb:Binds X.K fd ps ds)(hd:Vals dvs ds)
 (hx:za4 CX X E) (I:Inv X pins σ H s) (r:Vals vs us)
 (h:∀x dx,H x=none->H dx=none->dx≠x->sp (.ref x::(vs ++dvs)) (upd (upd H dx (.own x)) x (.ins C dx [])) (λv H2=>v= .non/\Q (.ref x) H2) E):
 wpAny (model X.prog X.w) X.A (call (.ref C) us) (EP X pins σ Q) X.xe s:=by
 have hq:=h (s.heap.objs.size+1) s.heap.objs.size (I.hok.fresh (Nat.le_succ _)) (I.hok.fresh (P0 _)) (P1 (Nat.lt_succ_self _))
 have I2:=Inv.made (C:=C) I
 have r2:Vals (V.ref (s.heap.objs.size+1)::(vs ++dvs)) (Value.ref (s.heap.objs.size+1)::(us ++ds)):= .cons rfl (r.append hd)
 have hl:(Value.ref (s.heap.objs.size+1)::us ++ds).length=ps.length:=by
  have e:=r2.length
  rw[F.len _ _ _ _ hq] at e
  exact e.symm
 refine wpAny_call (zo8 (f:=f) I.kIn M.makes M.init (beq_iff_eq.mp M.fn) (codeAny_mono (F.run _ X.stack _ _ ⟨Value.ref (s.heap.objs.size+1)::us,[]⟩ (Value.ref (s.heap.objs.size+1)::(us ++ds)) _ _ E (hr.make C us [])
  (I2.env0.make C us []) (hb _ (Value.ref (s.heap.objs.size+1)::us) I2.kIn hl) r2 hq) λr s' hq'=>?_))
 cases r with
 |error e=>exact hx pins σ _ _ e s' I2 hq'
 |ok fl=>
  cases fl with
  |ret u=>
   obtain⟨v,H',I3,rv,ev,q3⟩:=I2.after hq'
   subst ev
   exact⟨rv,⟨V.ref (s.heap.objs.size+1),H',I3,rfl,q3⟩⟩
  |next=>exact False.elim hq'
  |brk=>exact False.elim hq'
  |cont=>exact False.elim hq'
theorem zqJ(M:Mk X.K C f)(F:FnOk X.prog X.w X.K X.mg X.base CX k f fd ps sp)(hr:Room (k+1) X.A)(hg:Gl X x)(hm:X.mg x=some (.ref C))(hb:Binds X.K fd ps ds)(hd:Vals dvs ds)(hx:za4 CX X E)
 (ha:PA X (e::es) t) (hdb:autoParam ((x==("__debug__":Str))=false) v4) (he:autoParam (starEach (e::es) X.env=(false,eval e X.env)::starEach es X.env) v3) (hpl:autoParam ((backTo pos (starEach es X.env)).any (·.1)=false) v3):
 PE X (.Call (.Name x p) (e::es) [] pos) (zqZ C sp dvs E t):=by
 intro pins s σ H Q I h
 refine wpAny_Call_Name_kw (zeC I hg hm ?_ hdb)
 refine W.callWith_K (h₀:=X.base) I.ok.mod.kin M.kp (thn (ha pos pins s σ H _ I h) λus s1 zq=>?_) he hpl
 obtain⟨vs,H1,I1,r,q⟩:=zq
 refine⟨I1.kIn,?_⟩
 exact zm9 M F hr hb hd hx I1 r q
end
section
variable{k:Nat}{ps ks:List Str}{E:XK}{m:Str}{p kpos:Pos}{e o:Expr}{kws:List Keyword}{ta:TE}{t tk:TA}{nm:Option Str}
structure KBinds(K:W.Frag)(fd:FuncData)(ps ks:List Str)(g:List Value->List Value->List Value)(gV:List V->List V->List V):Prop where
 to:∀(s:Shared) (us ws:List Value),K.In s.heap->(g us ws).length=ps.length->BindsTo s fd ⟨us,ks.zip ws⟩ (ps.zip (g us ws))
 rel:∀{vs:List V} {us:List Value} {zs:List V} {ws:List Value},Vals vs us->Vals zs ws->Vals (gV vs zs) (g us ws)
variable{g:List Value->List Value->List Value}{gV:List V->List V->List V}
end
structure FnScope(N P:List Str)(sc:Scope):Prop where
 kind:sc.kind= .function
 co:sc.isCoroutine=false
 gen:sc.isGenerator=false
 nd:N.Nodup
 pre:N.take P.length=P
 par:∀x∈P,sc.names.lookup x=some .local\/sc.names.lookup x=some .cell
 nofree:∀y∈sc.names,y.2≠ .free
theorem zhx{kindOf:Str->Option NameKind}{x:Str}:∀{binds:List (Str×Value)} {m:Str->Option Value},(∀v,(x,v)∉binds)->bindL kindOf binds m x=m x
 |[],_,_=>rfl
 |(n,v)::r,m,h=>by
  unfold bindL
  rw[zhx λw hw=>h w (b0 _ hw)]
  split
  ·have:x≠n:=by rintro rfl;exact h v K1
   simp[this]
  ·rfl
theorem zhF{kindOf:Str->Option NameKind}{x:Str}:∀{binds:List (Str×Value)} {m:Str->Option Value},(∀v,(x,v)∉binds)->bindC kindOf binds m x=m x
 |[],_,_=>rfl
 |(n,v)::r,m,h=>by
  unfold bindC
  rw[zhF λw hw=>h w (b0 _ hw)]
  split
  ·rfl
  ·have:x≠n:=by rintro rfl;exact h v K1
   simp[this]
theorem zhH{kindOf:Str->Option NameKind}{x:Str}{v:Value}:∀{P:List Str} {vs:List Value} {i:Nat} {m:Str->Option Value},P.Nodup->P[i]?=some x->vs[i]?=some v->kindOf x=some .local->
 bindL kindOf (P.zip vs) m x=some v
 |[],_,_,_,_,h,_,_=>by simp at h
 |_::_,[],_,_,_,_,h,_=>by simp at h
 |p::P,w::vs,0,m,nd,h1,h2,hk=>by
  simp at h1 h2;subst h1;subst h2
  show bindL kindOf ((p,w)::P.zip vs) m p=_
  unfold bindL
  rw[zhx λv hv=>(U2.mp nd).1 (List.of_mem_zip hv).1,R0 hk]
  simp
 |p::P,w::vs,i+1,m,nd,h1,h2,hk=>by
  show bindL kindOf ((p,w)::P.zip vs) m x=_
  unfold bindL
  exact zhH (i:=i) (U2.mp nd).2 (by simpa using h1) (by simpa using h2) hk
theorem zhs{kindOf:Str->Option NameKind}{x:Str}{v:Value}:∀{P:List Str} {vs:List Value} {i:Nat} {m:Str->Option Value},P.Nodup->P[i]?=some x->vs[i]?=some v->kindOf x≠some .local->
 bindC kindOf (P.zip vs) m x=some v
 |[],_,_,_,_,h,_,_=>by simp at h
 |_::_,[],_,_,_,_,h,_=>by simp at h
 |p::P,w::vs,0,m,nd,h1,h2,hk=>by
  simp at h1 h2;subst h1;subst h2
  show bindC kindOf ((p,w)::P.zip vs) m p=_
  unfold bindC
  rw[zhF λv hv=>(U2.mp nd).1 (List.of_mem_zip hv).1,N0 hk]
  simp
 |p::P,w::vs,i+1,m,nd,h1,h2,hk=>by
  show bindC kindOf ((p,w)::P.zip vs) m x=_
  unfold bindC
  exact zhs (i:=i) (U2.mp nd).2 (by simpa using h1) (by simpa using h2) hk
noncomputable def zdz(N:List Str)(vs:List V):St:=vs.map some ++List.replicate (N.length -vs.length) none
noncomputable def zgT(CX:CXT)(P:Program)(w:World)(K:W.Frag)(mg:Str->Option Value)(base:Heap)(N:List Str)(qual:Str)(scope:Scope)(f:Addr)(cd:Value)(A:Around)(outer:List Env)(s:Shared)(H:Hp)(E:XK):Cx where
 prog:=P
 w:=w
 K:=K
 mg:=mg
 base:=base
 A:=A.deeper (envOfC qual scope s.heap.objs.size f cd)
 N:=N
 s₀:=s
 H₀:=H
 env:=envOfC qual scope s.heap.objs.size f cd
 outer:=outer
 stack:=envOfC qual scope s.heap.objs.size f cd::outer
 ex:=[]
 calm:=true
 fn:=λ_=>true
 pn:=[]
 xe:=λe s'=>wpAny (model P w) (A.deeper (envOfC qual scope s.heap.objs.size f cd)) (leaving (envOfC qual scope s.heap.objs.size f cd) e) (λ_ s''=>CX outer H s E e s'') (λe' s''=>CX outer H s E e' s'') s'
theorem zjd{sc:Scope}{n:Nat}(h:sc.names.lookup x=some .cell):∃c,(cellsFrom n sc.names []).lookup x=some c:=by
 have q:=W.cellsFrom_some sc.names n [] (.inl h)
 exact Option.isSome_iff_exists.mp q
theorem zm0{mg:Str->Option Value}{base:Heap}{ps:List Str}{cd:Value}{s1:Shared}{E:XK}{us:List Value}
 (S:FnScope N ps scope) (hd:A.handled=none) (e0:Env0 P w K mg base A outer s H) (hl:vs.length=ps.length) (r:Vals vs us)
 (x:InCallC s s.heap.objs.size (bindL (envOfC qual scope s.heap.objs.size f cd).kindOf (ps.zip us) λ_=>none) (cellsFrom (s.heap.objs.size+1) scope.names []) (bindC (envOfC qual scope s.heap.objs.size f cd).kindOf (ps.zip us) λ_=>none) s1):
 Inv (zgT CX P w K mg base N qual scope f cd A outer s H E) [] (zdz N vs) H s1:=by
 have hpl:ps.length<=N.length:=by have:=Z2 List.length S.pre;rw[J2] at this;lia
 obtain⟨h1,tk,rfl,hk⟩:=x.done
 have noA:∀b:Addr,b∉(zgT CX P w K mg base N qual scope f cd A outer s H E).ex:=λb z=>absurd (show b∈([]:List Addr)from z) `Z3
 refine⟨⟨e0.mod,S.kind,rfl,rfl,P0 _,λy z c h1 h2=>?_,λy hy=>?_,λy c _ h=>?_,λ_=>hd,Around.frames_deeper e0.frames, .inr ⟨rfl,rfl⟩,λb z=>absurd z (noA b),e0.bs,e0.bsz,λb _ _=>noA b,λb z=>absurd z (noA b),e0.funs,e0.frf⟩,
  rfl,e0.bare,Un.kept hk,⟨_,x.toInCall.ns,λi y v h1 h2 h3=>?_⟩,λy c h=>⟨_,x.cell y c h⟩,e0.hok.fresh (P0 _),λy c h=>?_,λp hp=>absurd (show p∈([]:List (Addr×Obj))from hp) `Z3,e0.hok.kept hk,?_⟩
 ·exact name_of_addr x.apart (PySem.mem_of_lookup h1) (PySem.mem_of_lookup h2)
 ·have hy:scope.names.lookup y=some .cell\/scope.names.lookup y=some .free:=hy
  rcases hy with hy|hy
  ·exact zjd hy
  ·exact absurd rfl (S.nofree _ (PySem.mem_of_lookup hy))
 ·exact Nat.le_of_lt (x.above y c (PySem.mem_of_lookup h))
 ·have hi:i<vs.length:=by
   unfold zdz at h2
   by_cases hi:i<vs.length
   ·exact hi
   ·rw[P2 (by simpa using hi)] at h2
    rw[List.getElem?_replicate] at h2
    split at h2<;>cases h2
  have ha:vs[i]?=some v:=by
   unfold zdz at h2
   rw[V2 (by simpa using hi),U0] at h2
   cases e:vs[i]? with
   |none=>rw[e] at h2;cases h2
   |some a=>rw[e] at h2;cases h2;rfl
  obtain⟨u,hu,rv⟩:=r.get ha
  have hp:ps[i]?=some y:=by
   rw[←S.pre,List.getElem?_take_of_lt ()];exact h1
  have ndP:ps.Nodup:=by rw[←S.pre];exact S.nd.sublist (List.take_sublist _ _)
  refine⟨u,rv,?_⟩
  rcases S.par y (D1 hp)with k|k
  ·exact .inl ⟨k,zhH ndP hp hu k⟩
  ·obtain ⟨c,e⟩:=zjd (n:=s.heap.objs.size+1) k
   refine .inr ⟨.inl k,c,e,?_⟩
   have q:=x.cell y c e
   rw[zhs ndP hp hu (by show scope.names.lookup y≠_;rw[k];decide)] at q
   exact q
 ·exact e0.hok.fresh (Nat.le_of_lt (x.above y c (PySem.mem_of_lookup h)))
 ·unfold zdz
  show _=N.length
  rw[F1,D0,List.length_replicate]
  lia
theorem zoA{mg:Str->Option Value}{base:Heap}{k:Nat}{params:Arguments}{dV kV:Value}{an:Option Addr}
  {ps:List Str}  (lk:K.lookup f=some ⟨oc,od, .func (W.fnOf name qual params body scope dV kV doc pm an cdv ct),osl⟩) (hcd:W.codeIn K cdv qual=true) (S:FnScope N ps scope)
 (len:∀vs H Q E,sp vs H Q E->vs.length=ps.length)
 (hbody:∀(A:Around) (outer:List Env) (s:Shared) (H:Hp) (vs:List V) (Q:VK) (E:XK),Room k (A.deeper (envOfC qual scope s.heap.objs.size f cdv))->sp vs H Q E->
   ∃t,PSs (zgT CX P w K mg base N qual scope f cdv A outer s H E) body t/\t {nx:=λ_ H'=>Q .non H',rt:=Q} (zdz N vs) H):
 FnOk P w K mg base CX (k+1) f (W.fnOf name qual params body scope dV kV doc pm an cdv ct) ps sp:=by
 refine⟨len,λA outer s H args us vs Q E hr e0 hb r hsp=>?_⟩
 have hl:=len _ _ _ _ hsp
 have KX:K.In s.heap:=e0.mod.kin.keeps λb o e=>(e0.bs b o e).1
 have lim:s.heap.NoLimit:=e0.mod.nolimit.keeps λb o e=>(e0.bs b o e).1
 have hkind:∀y∈ps.zip us,scope.names.lookup y.1=some .local\/(scope.names.lookup y.1=some .cell/\((cellsFrom (s.heap.objs.size+1) scope.names []).lookup y.1).isSome=true):=λ⟨n,v⟩ hy=>by
  rcases S.par n (List.of_mem_zip hy).1 with q|q
  ·exact .inl q
  ·exact .inr ⟨q,W.cellsFrom_some _ _ _ (.inl q)⟩
 refine codeAny_call_function hr.depth (KX _ _ lk) rfl S.co S.gen rfl (W.codeRec_of KX hcd) (hb _ _ _ _ ?_)
 refine wpAny_newFunctionEnv_cells S.kind hkind λenv he s1 x=>?_
 subst he
 refine⟨lim.keeps x.toInCall.keep,codeAny_func ?_⟩
 obtain⟨t,ht,hq⟩:=hbody A outer s H vs Q E (hr.deeper _) hsp
 have I:Inv (zgT CX P w K mg base N qual scope f cdv A outer s H E) [] (zdz N vs) H s1:=zm0 S hr.hd e0 hl r x
 refine W2 (ht [] s1 (zdz N vs) H _ I hq) (λfl s' hs=>?_) λe s' hs=>hs
 have fin:∀{σ':St} {H':Hp} {v:V} {u:Value},Inv (zgT CX P w K mg base N qual scope f cdv A outer s H E) [] σ' H' s'->RelV v u->Q v H'->CE outer P w H s Q u s':=
  λ{σ' H' v u} J rv q=>⟨v,H',J.os,J.bare,J.base,J.hok,rv,q⟩
 cases fl with
 |ret u=>
  obtain⟨v,σ',H',J,rv,q⟩:=hs
  exact fin J rv q
 |next=>
  obtain⟨σ',H',J,q⟩:=hs
  exact fin (v:=V.non) (u:=Value.none) J rfl q
 |brk=>
  obtain⟨_,_,_,q⟩:=hs
  exact False.elim q
 |cont=>
  obtain⟨_,_,_,q⟩:=hs
  exact False.elim q
section
variable{p:Pos}{e:Expr}{t:TA}{id T:String}{r:List V->Hp->VK->Prop}
def tCB(r:List V->Hp->VK->Prop)(t:TA):TE:=λσ H Q=>t σ H λvs H1=>r vs H1 Q
theorem znB(hc:CallR X (.builtin id) r)(hg:Gl X x)(hm:X.mg x=none)(hv:bootBuiltins x=some (.builtin id))(ha:PA X (e::es) t)(hn:autoParam (x≠"__name__") v4)(hdb:autoParam ((x==("__debug__":Str))=false) v4)
 (he:autoParam (starEach (e::es) X.env=(false,eval e X.env)::starEach es X.env) v3) (hpl:autoParam ((backTo pos (starEach es X.env)).any (·.1)=false) v3):PE X (.Call (.Name x p) (e::es) [] pos) (tCB r t):=by
 intro pins s σ H Q I h
 refine wpAny_Call_Name_kw (zgy I hg hm hv ?_ hn hdb)
 refine PyProof.Rows.callWith_builtin1 (thn (ha pos pins s σ H _ I h) λus s1 zq=>?_) he hpl
 obtain⟨vs,H1,I1,r1,q1⟩:=zq
 exact hc pins s1 σ H1 vs us Q I1 r1 q1
theorem zmM(hc:CallR X (.type T) r)(hg:Gl X x)(hm:X.mg x=none)(hv:bootBuiltins x=some (.type T))(ha:PA X (e::es) t)(hn:autoParam (x≠"__name__") v4)(hdb:autoParam ((x==("__debug__":Str))=false) v4)
 (he:autoParam (starEach (e::es) X.env=(false,eval e X.env)::starEach es X.env) v3) (hpl:autoParam ((backTo pos (starEach es X.env)).any (·.1)=false) v3):PE X (.Call (.Name x p) (e::es) [] pos) (tCB r t):=by
 intro pins s σ H Q I h
 refine wpAny_Call_Name_kw (zgy I hg hm hv ?_ hn hdb)
 refine PyProof.Rows.callWith_type1 (thn (ha pos pins s σ H _ I h) λus s1 zq=>?_) he hpl
 obtain⟨vs,H1,I1,r1,q1⟩:=zq
 exact hc pins s1 σ H1 vs us Q I1 r1 q1
end
section
open PySem.SeqAt
open PySem.AutoSeq1 (wpAny_loadPart')
open PySem.MeetsSeq PySem.MeetsSeq2 PySem.MeetsSeq3
end
theorem cat_tup{t b:Addr}{vs ws:List Value}(ht:IsTup s.heap t vs.toArray)(hb:IsTup s.heap b ws.toArray)(hv:vs≠ [])
 (h1:ws=[]->Q (.ref t) s) (h2:ws≠ []->Q (.ref s.heap.objs.size) {s with heap:=s.heap.push {cls:= .type "tuple",data:= .seq (vs ++ws).toArray}})
 (hsz:vs.length+ws.length<=sizeLine):wpAny `V3 A (binaryOp .Add (.ref t) (.ref b)) Q E s:=by
 obtain⟨⟨cls,dd,data,sl⟩,ho,hc,n,hd⟩:=id ht
 obtain⟨⟨cls2,dd2,data2,sl2⟩,ho2,hc2,n2,hd2⟩:=id hb
 simp only at hc hd hc2 hd2
 subst hc hd hc2 hd2
 have e:vs.toArray ++ws.toArray=(vs ++ws).toArray:=`Z3
 by_cases hw:ws=[]
 ·exact concat_meets ⟨_,ho,rfl⟩ ⟨_,ho2,rfl⟩ noFill_tuple_add seq_tuple_add F.slot_tuple_add F.entry_tuple_add (F.args_tuple_add_2 _ _)
   (tuple_addW1 t b vs.toArray ws.toArray n n2 dd dd2 sl sl2 (by simpa using hv) (by simp[hw])) ⟨ho,ho2,h1 hw⟩
 ·refine concat_meets ⟨_,ho,rfl⟩ ⟨_,ho2,rfl⟩ noFill_tuple_add seq_tuple_add F.slot_tuple_add F.entry_tuple_add (F.args_tuple_add_2 _ _)
   (tuple_addW2 t b vs.toArray ws.toArray n n2 dd dd2 sl sl2 (by simpa using hv) (by simpa using hw) (by rw[Z0,Z0];exact hsz)) ⟨ho,ho2,?_⟩
  rw[e]
  exact h2 hw
noncomputable def sIx(n d:Nat):Option Int->Nat
 |none=>d
 |some v=>if v<0 then(v+(n:Int)).toNat else min v.toNat n
theorem zrQ(n d:Nat)(hd:d<=n)(o:Option Int):sIx n d o<=n:=by
 cases o with
 |none=>exact hd
 |some v=>
  show(if v<0 then(v+(n:Int)).toNat else min v.toNat n)<=n
  by_cases hv:v<0
  ·rw[R0 hv];lia
  ·rw[N0 hv];exact Nat.min_le_right _ _
theorem zlg(v:Int)(n d:Nat):(if v<0 then max (v+(n:Int)) 0 else min v (n:Int))=((sIx n d (some v):Nat):Int):=by
 show(if v<0 then max (v+(n:Int)) 0 else min v (n:Int))=(((if v<0 then(v+(n:Int)).toNat else min v.toNat n):Nat):Int)
 by_cases hv:v<0
 ·simp only[R0 hv];lia
 ·simp only[N0 hv];lia
theorem zk0(lo hi:Option Int)(n:Nat):Builtin.Slice.sliceAdjust lo hi 1 (n:Int)=(((sIx n 0 lo:Nat):Int),((sIx n n hi:Nat):Int)):=by
 have h1:¬((1:Int)<0):=()
 unfold Builtin.Slice.sliceAdjust
 simp only[h1,if_false]
 refine Prod.ext ?_ ?_
 ·cases lo with
  |none=>rfl
  |some v=>exact zlg v n 0
 ·cases hi with
  |none=>rfl
  |some v=>exact zlg v n n
theorem zkW(i j:Nat):Builtin.Slice.slicePlaces (i:Int) (j:Int) 1=j -i:=by
 unfold Builtin.Slice.slicePlaces
 have h1:(1:Int)>0:=()
 simp only[h1,if_true,Int.ediv_one]
 split<;>lia
theorem zgp{v:Value}{o:Option Int}{Q:Option Int->Shared->Prop}(p:IsPart v o)(h:Q o s):wpAny `V3 A (Builtin.Slice.slicePartIndex v) Q E s:=by
 cases p with
 |none=>exact slicePart_none h
 |int i t=>exact slicePart_int h
theorem zcB{sl:Addr}{hi:Option Int}{n:Nat}{Q:Int×Int×Nat->Shared->Prop}(hs:s.heap.IsSliceOf sl vl vu .none)(pl:IsPart vl lo)(pu:IsPart vu hi)
 (h:Q (((sIx n 0 lo:Nat):Int),1,sIx n n hi -sIx n 0 lo) s):wpAny `V3 A (Builtin.Slice.sliceApplied (.ref sl) (pure (n:Int))) Q E s:=by
 obtain⟨os,hos,hcs,hds⟩:=id hs
 unfold Builtin.Slice.sliceApplied Builtin.Slice.sliceFields
 refine C0 (C0 (wpAny_field hos hds (x:=vl) rfl (C0 (wpAny_field hos hds (x:=vu) rfl (C0 (wpAny_field hos hds (x:= .none) rfl (K0 ?_)))))))
 refine C0 (slicePart_none ?_)
 show wpAny _ _ (if((1:Int)==0)=true then _ else _) _ _ s
 rw[N0 ⋯]
 refine C0 (zgp pl (C0 (zgp pu (C0 (K0 ?_)))))
 show wpAny _ _ (match Builtin.Slice.sliceAdjust lo hi 1 (n:Int)with|(lo,hi)=>pure (lo,(1:Int),Builtin.Slice.slicePlaces lo hi 1)) _ _ s
 rw[zk0 lo hi n]
 show wpAny _ _ (pure (((sIx n 0 lo:Nat):Int),(1:Int),Builtin.Slice.slicePlaces ((sIx n 0 lo:Nat):Int) ((sIx n n hi:Nat):Int) 1)) _ _ s
 rw[zkW]
 exact K0 h
theorem zoz(xs:Array Value)(i k:Nat):((List.range k).filterMap λ(m:Nat)=>xs[((i:Int)+(m:Int)*1).toNat]?).toArray=((xs.toList.drop i).take k).toArray:=by
 have e:(λ(m:Nat)=>xs[((i:Int)+(m:Int)*1).toNat]?)=λm=>xs[i+m]?:=by
  funext m
  have:((i:Int)+(m:Int)*1).toNat=i+m:=()
  rw[this]
 rw[e]
 have:=pick_run xs i k
 rw[List.filterMap_map] at this
 have e2:((λx=>xs[x]?)∘λx=>i+x)=λm=>xs[i+m]?:=rfl
 rw[e2] at this
 rw[this]
theorem getItem_tuple_cut{t sl:Addr}{hi:Option Int}(ht:IsTup s.heap t items)(hs:s.heap.IsSliceOf sl vl vu .none)(pl:IsPart vl lo)(pu:IsPart vu hi)
 (hw:¬(sIx items.size 0 lo=0/\sIx items.size items.size hi=items.size))
 (h:Q (.ref s.heap.objs.size) {s with heap:=s.heap.push {cls:= .type "tuple",data:= .seq ((items.toList.drop (sIx items.size 0 lo)).take (sIx items.size items.size hi -sIx items.size 0 lo)).toArray}})
 (hsz:items.size<=sizeLine):wpAny `V3 A (getItem (.ref t) (.ref sl)) Q E s:=by
 have htake:sizeOk (.seq ((items.toList.drop (sIx items.size 0 lo)).take (sIx items.size items.size hi -sIx items.size 0 lo)).toArray):=by
  show((items.toList.drop (sIx items.size 0 lo)).take (sIx items.size items.size hi -sIx items.size 0 lo)).toArray.size<=sizeLine
  rw[Z0,J2,List.length_drop,Array.length_toList]
  lia
 have hj:sIx items.size items.size hi<=items.size:=zrQ _ _ (P0 _) hi
 obtain⟨os,hos,hcs,hds⟩:=id hs
 have hTs:s.TypeIs (.ref sl) "slice":=⟨os,hos,hcs⟩
 unfold getItem
 try with_reducible refine X2 ?_
 first|refine C0 (K0 ?_)|skip
 refine C0 (wpAny_sequenceKey ht.typeIs ⋯ ?_)
 refine C0 (wpAny_callSpecial?_slot (name:=Str.ofString "__getitem__") ht.typeIs PyProof.Rows.slot_tuple_getitem
  (Y2 PyProof.Rows.slot_tuple_getitem ht.typeIs entry_tuple_getitem ?_ (args_tuple_getitem _ _)))
 show wpAny _ _ (Builtin.Tuple.tupleItemsOf (.ref t)>>=_) _ _ s
 refine C0 (tupleItemsOf_ ht ?_)
 refine C0 (wpAny_typeOf hTs ?_)
 rw[R0 ⋯]
 refine C0 (zcB hs pl pu ?_)
 have hno:¬((((sIx items.size 0 lo:Nat):Int)==0&&(1:Int)==1&&(sIx items.size items.size hi -sIx items.size 0 lo)==items.size)=true):=by
  intro q
  rw[W0,W0] at q
  have q1:((sIx items.size 0 lo:Nat):Int)=0:=eq_of_beq q.1.1
  have q2:sIx items.size items.size hi -sIx items.size 0 lo=items.size:=eq_of_beq q.2
  exact hw ⟨(),()⟩
 show wpAny _ _ (if(((sIx items.size 0 lo:Nat):Int)==0&&(1:Int)==1&&(sIx items.size items.size hi -sIx items.size 0 lo)==items.size)=true then _ else _) _ _ s
 rw[N0 hno,zoz]
 first
  |exact C0 (m:=Builtin.Tuple.tupleExact _) (D2 (K0 ⟨_,rfl,K0 h⟩) htake)
  |exact C0 (m:=Builtin.Tuple.tupleExact _) (D2 (C0 (K0 (K0 ⟨_,rfl,K0 h⟩))) htake)
  |exact C0 (C0 (m:=Builtin.Tuple.tupleExact _) (D2 (K0 (K0 ⟨_,rfl,K0 h⟩)) htake))
  |exact C0 (C0 (m:=Builtin.Tuple.tupleExact _) (D2 (K0 ⟨_,rfl,K0 h⟩) htake))
noncomputable abbrev TO:=St->Hp->(Option Int->Hp->Prop)->Prop
def PO(X:Cx)(e:Option Expr)(t:TO):Prop:=
 ∀(pins:List (Addr×Obj)) (s:Shared) (σ:St) (H:Hp) (Q:Option Int->Hp->Prop),Inv X pins σ H s->t σ H Q->
  wpAny (model X.prog X.w) X.A (evalPart e X.env) (λu s'=>∃o H',Inv X pins σ H' s'/\IsPart u o/\Q o H') X.xe s
noncomputable def zlT:TO:=λ_ H Q=>Q none H
noncomputable def zq6(t:TE):TO:=λσ H Q=>t σ H λx H1=>∃i,x= .int i/\Q (some i) H1
section
variable{e:Expr}{lo hi:Option Expr}{tl th:TO}{p2:Pos}
theorem zqH:PO X none zlT:=by
 intro pins s σ H Q I h
 rw[evalPart_none]
 exact K0 ⟨none,H,I, .none,h⟩
theorem zqm(h:PE X e te):PO X (some e) (zq6 te):=by
 intro pins s σ H Q I hw
 rw[evalPart_some]
 refine thn (h pins s σ H _ I hw) λu s1 zq=>?_
 obtain⟨x,H1,I1,r1,q1⟩:=zq
 obtain⟨i,rfl,q⟩:=q1
 obtain⟨t,rfl⟩:=r1
 exact⟨some i,H1,I1, .int i t,q⟩
def SlR(X:Cx)(r:V->Option Int->Option Int->Hp->VK->Prop):Prop:=
 ∀(pins:List (Addr×Obj)) (s:Shared) (σ:St) (H:Hp) (x:V) (v vl vu:Value) (lo hi:Option Int) (sl:Addr) (Q:VK),Inv X pins σ H s->RelV x v->s.heap.IsSliceOf sl vl vu .none->IsPart vl lo->IsPart vu hi->r x lo hi H Q->
  ∃T id,typeLookup (.type T) "__getitem__"=pure (some (.builtin id))/\s.TypeIs v T/\wpAny (model X.prog X.w) X.A (getItem v (.ref sl)) (EP X pins σ Q) X.xe s
def tSl(r:V->Option Int->Option Int->Hp->VK->Prop)(te:TE)(tl th:TO):TE:=λσ H Q=>te σ H λx H1=>tl σ H1 λl H2=>th σ H2 λu H3=>r x l u H3 Q
theorem zon{r:V->Option Int->Option Int->Hp->VK->Prop}(hr:SlR X r)(he:PE X e te)(hl:PO X lo tl)(hu:PO X hi th):PE X (.Subscript e (.Slice lo hi none p2) pos) (tSl r te tl th):=by
 intro pins s σ H Q I h
 refine Subscript_ (thn (he pins s σ H _ I h) λv s1 zq=>?_)
 obtain⟨x,H1,I1,r1,q1⟩:=zq
 refine wpAny_Slice (thn (hl pins s1 σ H1 _ I1 q1) λvl s2 zq=>?_)
 obtain⟨l,H2,I2,pl,q2⟩:=zq
 refine thn (hu pins s2 σ H2 _ I2 q2) λvu s3 zq1=>?_
 obtain⟨u,H3,I3,pu,q3⟩:=zq1
 rw[evalPart_none]
 refine K0 ?_
 have I4:Inv X pins σ H3 {s3 with heap:=s3.heap.push {cls:= .type "slice",data:= .fields #[vl,vu, .none]}}:=I3.kept (t':=s3.toks) λb ob q=>G0 _ q
 obtain⟨T,id,hT,ht,hg⟩:=hr pins {s3 with heap:=s3.heap.push {cls:= .type "slice",data:= .fields #[vl,vu, .none]}} σ H3 x v vl vu l u s3.heap.objs.size Q I4 r1 (Heap.IsSliceOf.new ..) pl pu q3
 show wpAny (model X.prog X.w) X.A (subscriptTail e (.Slice lo hi none p2) v (.ref s3.heap.objs.size)) (EP X pins σ Q) X.xe {s3 with heap:=s3.heap.push {cls:= .type "slice",data:= .fields #[vl,vu, .none]}}
 exact tail_any (ops:=[.ref s3.heap.objs.size,v]) ht hT hg (by with_unfolding_all rfl)
noncomputable def zcs(xs:List V)(lo hi:Option Int):List V:=(xs.drop (sIx xs.length 0 lo)).take (sIx xs.length xs.length hi -sIx xs.length 0 lo)
theorem zff(xs:List V)(lo hi:Option Int):(zcs xs lo hi).length<=xs.length:=by
 unfold zcs
 rw[J2,List.length_drop]
 lia
def zti(K:W.Frag):V->Option Int->Option Int->Hp->VK->Prop:=λx lo hi H Q=>∃a xs,x= .ref a/\SqT K H a xs/\
 ¬(sIx xs.length 0 lo=0/\sIx xs.length xs.length hi=xs.length)/\∀p,H p=none->Q (.ref p) (upd H p (.tup (zcs xs lo hi)))
theorem zrV:SlR X (zti X.K):=by
 intro pins s σ H x v vl vu lo hi sl Q I rx hs pl pu h
 obtain⟨a,xs,rfl,hx,hw,q⟩:=h
 cases rx
 obtain⟨its,r,ht,hz⟩:=I.tuple hx
 have hlen:its.toArray.size=xs.length:=by rw[Z0];exact r.length.symm
 refine⟨"tuple",_,PyProof.Rows.slot_tuple_getitem.lookup,ht.typeIs,?_⟩
 refine getItem_tuple_cut ht hs pl pu (by rw[hlen];exact hw) ?_ (by rw[hlen];exact hz)
 rw[hlen]
 refine⟨.ref s.heap.objs.size,_,I.laid (t':=s.toks) (o:= .tup (zcs xs lo hi)) (λb ob q=>G0 _ q) (P0 _) ?_,rfl,q _ (I.hok.fresh (P0 _))⟩
 exact⟨V1 (zff xs lo hi) hz,_,(r.drop (sIx xs.length 0 lo)).take (sIx xs.length xs.length hi -sIx xs.length 0 lo),IsTup.new _ _,NoDict.new rfl (O0 _ rfl)⟩
noncomputable def zsP(K:W.Frag):R2:=λx y H Q=>∃a b xs ys,x= .ref a/\y= .ref b/\SqT K H a xs/\SqT K H b ys/\xs≠ []/\xs.length+ys.length<=sizeLine/\
 (ys=[]->Q (.ref a) H)/\(ys≠ []->∀p,H p=none->Q (.ref p) (upd H p (.tup (xs ++ys))))
theorem Vals.nil_iff{us:List Value}(r:Vals xs us):us=[]↔xs=[]:=by
 cases r with
 |nil=>simp
 |cons _ _=>simp
theorem zpT:OpR X (binaryOp .Add) (zsP X.K):=by
 intro pins s σ H x y v u Q I rx ry h
 obtain⟨a,b,xs,ys,rfl,rfl,ha,hb,hx,hz,q1,q2⟩:=h
 cases rx
 cases ry
 obtain⟨its,r1,p1,_⟩:=I.tuple ha
 obtain⟨its2,r2,p2,_⟩:=I.tuple hb
 refine cat_tup p1 p2 (λz=>hx (r1.nil_iff.mp z)) (λz=>⟨.ref a,H,I,rfl,q1 (r2.nil_iff.mp z)⟩) (λz=>?_) (by rw[←r1.length,←r2.length];exact hz)
 refine⟨.ref s.heap.objs.size,_,I.laid (t':=s.toks) (o:= .tup (xs ++ys)) (λb ob q=>G0 _ q) (P0 _) ?_,rfl,q2 (λw=>z (r2.nil_iff.mpr w)) _ (I.hok.fresh (P0 _))⟩
 exact⟨by rw[F1];exact hz,_,r1.append r2,IsTup.new _ _,NoDict.new rfl (O0 _ rfl)⟩
end
noncomputable def ixN(n:Nat)(i:Int):Option Nat:=if 0<=i then(if i<n then some i.toNat else none)else if -(n:Int)<=i then some (i+n).toNat else none
noncomputable def atI(xs:List α)(i:Int):Option α:=(ixN xs.length i).bind λj=>xs[j]?
theorem zld{n:Nat}{i:Int}(h:ixN n i=some j):seqIndex? i n=some j/\j<n/\-(n:Int)<=i/\i<n:=by
 unfold ixN at h
 by_cases h0:0<=i
 ·rw[R0 h0] at h
  by_cases h1:i<n
  ·rw[R0 h1] at h
   have e:i.toNat=j:=U1 h
   exact⟨by rw[seqIndex_of h0 h1,e],(),(),h1⟩
  ·rw[N0 h1] at h;cases h
 ·rw[N0 h0] at h
  by_cases h1: -(n:Int)<=i
  ·rw[R0 h1] at h
   have e:(i+n).toNat=j:=U1 h
   exact⟨by rw[seqIndex_neg () h1,e],(),h1,()⟩
  ·rw[N0 h1] at h;cases h
theorem zhO{xs:List α}{i:Int}{v:α}(h:atI xs i=some v):∃j,seqIndex? i xs.length=some j/\xs[j]?=some v/\j<xs.length/\-(xs.length:Int)<=i/\i<xs.length:=by
 unfold atI at h
 cases e:ixN xs.length i with
 |none=>rw[e] at h;cases h
 |some j=>
  rw[e] at h
  obtain⟨h1,h2,h3,h4⟩:=zld e
  exact⟨j,h1,h,h2,h3,h4⟩
theorem zT{xs:List α}{v:α}(h:xs[j]?=some v):atI xs (j:Int)=some v:=by
 have hj:j<xs.length:=(X1.mp h).1
 have e:ixN xs.length (j:Int)=some j:=by
  unfold ixN
  rw[R0 (),R0 ()];simp
 unfold atI;rw[e];exact h
def zlq(b:Expr):Prop:=∀o i,subscripted b false o i=operate [o,i] (getItem o i)
def IxR(X:Cx)(r:R2):Prop:=
 ∀(value slice:Expr) (pins:List (Addr×Obj)) (s:Shared) (σ:St) (H:Hp) (x y:V) (v u:Value) (Q:VK),Inv X pins σ H s->RelV x v->RelV y u->r x y H Q->
  subscripted slice false v u=operate [v,u] (getItem v u)->wpAny (model X.prog X.w) X.A (subscriptTail value slice v u) (EP X pins σ Q) X.xe s
def MtR(X:Cx)(id:String)(r:V->List V->Hp->VK->Prop):Prop:=
 ∀(pins:List (Addr×Obj)) (s:Shared) (σ:St) (H:Hp) (x:V) (xs:List V) (v:Value) (us:List Value) (Q:VK),Inv X pins σ H s->RelV x v->Vals xs us->r x xs H Q->
  wpAny (model X.prog X.w) X.A (call (.builtin id) (v::us)) (EP X pins σ Q) X.xe s
section
variable{a b:Expr}{ta tb:TE}
theorem IxR.or{r:R2}(h:IxR X r)(h':IxR X r'):IxR X (λx y H Q=>r x y H Q\/r' x y H Q):=by
 intro value slice pins s σ H x y v u Q I rx ry q hs
 rcases q with q|q
 ·exact h value slice pins s σ H x y v u Q I rx ry q hs
 ·exact h' value slice pins s σ H x y v u Q I rx ry q hs
theorem zsW{r:R2}(hr:IxR X r)(ha:PE X a ta)(hb:PE X b tb)(hs:zlq b):PE X (.Subscript a b pos) (tOp r ta tb):=by
 intro pins s σ H Q I h
 exact Subscript_ (zrr ha hb I h λv u s2 x y H2 I2 rx ry q=>hr a b pins s2 σ H2 x y v u Q I2 rx ry q (hs _ _))
noncomputable def zsN(K:W.Frag):R2:=λx y H Q=>∃p xs i v,x= .ref p/\y= .int i/\SqL K H p xs/\atI xs i=some v/\Q v H
noncomputable def zs7(K:W.Frag):R2:=λx y H Q=>∃p xs i v,x= .ref p/\y= .int i/\SqT K H p xs/\atI xs i=some v/\Q v H
noncomputable def zsU:R2:=λx y H Q=>∃z i c,x= .str z/\y= .int i/\z.length<=sizeLine/\atI z.cps.toList i=some c/\Q (.str ⟨#[c]⟩) H
theorem zO:IxR X (zsN X.K):=by
 intro value slice pins s σ H x y v u Q I rx ry h hs
 obtain⟨p,xs,i,z,rfl,rfl,hq,he,q⟩:=h
 cases rx
 obtain⟨t,rfl⟩:=ry
 obtain⟨its,r,pl,hz⟩:=I.list hq
 obtain⟨j,h1,h2,h3,h4,h5⟩:=zhO he
 obtain⟨w,ew,rw'⟩:=r.get h2
 have hl:=r.length
 have hn:=zeg
 have fin:EP X pins σ Q w s:=⟨z,H,I,rw',q⟩
 by_cases h0:0<=i
 ·have hj:i.toNat=j:=by
   rw[seqIndex_of h0 h5] at h1
   exact U1 h1
  exact item_listR pl.isList h0 () (by rw[hj];simpa using ew) fin hs
 ·have hj:(i+(its.toArray.size:Int)).toNat=j:=by
   rw[seqIndex_neg () h4] at h1
   rw[Z0,←hl]
   exact U1 h1
  exact subscriptTail_builtinR (x:=w) pl.isList.typeIs slot_list_getitem.lookup
   (wpAny_getItem_list_neg (Q:=λr s'=>r=w/\EP X pins σ Q r s') pl.isList () (by rw[Z0]<;>lia) () (by rw[hj];simpa using ew) ⟨rfl,fin⟩) hs
theorem zY:IxR X (zs7 X.K):=by
 intro value slice pins s σ H x y v u Q I rx ry h hs
 obtain⟨p,xs,i,z,rfl,rfl,hq,he,q⟩:=h
 cases rx
 obtain⟨t,rfl⟩:=ry
 obtain⟨its,r,pl,hz⟩:=I.tuple hq
 obtain⟨j,h1,h2,h3,h4,h5⟩:=zhO he
 obtain⟨w,ew,rw'⟩:=r.get h2
 have hl:=r.length
 have hn:=zeg
 have fin:EP X pins σ Q w s:=⟨z,H,I,rw',q⟩
 exact subscriptTail_builtinR (x:=w) pl.typeIs slot_tuple_getitem.lookup
  (getItem_tuple (j:=j) (Q:=λr s'=>r=w/\EP X pins σ Q r s') pl () () (by rw[Z0,←hl];exact h1) (by simpa using ew) ⟨rfl,fin⟩) hs
theorem zoq:IxR X zsU:=by
 intro value slice pins s σ H x y v u Q I rx ry h hs
 obtain⟨z,i,c,rfl,rfl,hz,he,q⟩:=h
 obtain⟨t,rfl⟩:=rx
 obtain⟨t',rfl⟩:=ry
 obtain⟨j,h1,h2,h3,h4,h5⟩:=zhO he
 have hl:z.cps.toList.length=z.length:=by simp[Str.length]
 rw[hl] at h1 h4 h5
 have hn:=zeg
 exact tail_any (typeIs_str s z t) slot_str_getitem.lookup (getItem_str (c:=c) (by
  have e1:decide (i< -(2^63:Int))=false:=E1 ()
  have e2:decide (i≥2^63)=false:=E1 ()
  rw[e1,e2,Bool.or_false]) (by rw[h1];simpa using h2) ⟨.str ⟨#[c]⟩,H,I.tok _,⟨_,rfl⟩,q⟩) hs
noncomputable def rIx(K:W.Frag):R2:=λx y H Q=>zsN K x y H Q\/zs7 K x y H Q\/zsU x y H Q
theorem zo6:IxR X (rIx X.K):=zO.or (zY.or zoq)
theorem zkb(its:List Value)(n j:Nat)(u:Value):Obj.mapSeq (·.setIfInBounds j u) {cls:= .type "list",data:= .seq its.toArray n}={cls:= .type "list",data:= .seq (its.set j u).toArray n}:=by
 simp[Obj.mapSeq]
theorem Inv.lst{pins:List (Addr×Obj)}{σ:St}{H:Hp}{s:Shared}{p:Addr}{xs:List V}(I:Inv X pins σ H s)(h:H p=some (.lst xs)):
 ∃(its:List Value) (n:Nat),Vals xs its/\s.heap.get? p=some {cls:= .type "list",data:= .seq its.toArray n}/\xs.length<=sizeLine:=by
 obtain⟨z,its,n,r,e⟩:=I.hok p _ h
 exact⟨its,n,r,e,z⟩
theorem Inv.lstUpd{p:Addr}{n n':Nat}{f:Obj->Obj}(I:Inv X pins σ H s)(h:H p=some (.lst xs))
 (ho:s.heap.get? p=some {cls:= .type "list",data:= .seq its.toArray n}) (hf:f {cls:= .type "list",data:= .seq its.toArray n}={cls:= .type "list",data:= .seq its'.toArray n'}) (r:Vals ys its') (hz:ys.length<=sizeLine) (t:Nat):
 Inv X pins σ (upd H p (.lst ys)) {s with heap:=s.heap.update p f,toks:=t}:=by
 have e:(s.heap.update p f).get? p=some {cls:= .type "list",data:= .seq its'.toArray n'}:=by
  rw[Heap.get?_update_self f ho (by rw[hf]<;>rfl),hf]
 refine I.write (x:=p) (e:=p) (by rw[h];trivial) (.inl rfl) (λb u hb q=>(Heap.get?_update_other _ _ (Ne.symm hb)).trans q) ⟨_,e⟩ ?_
 exact⟨hz,its',n',r,e⟩
def zsT:V->V->V->Hp->(Hp->Prop)->Prop:=λo i v H Q=>∃p xs k j,o= .ref p/\i= .int k/\H p=some (.lst xs)/\ixN xs.length k=some j/\Q (upd H p (.lst (xs.set j v)))
theorem zds:zro X zsT:=by
 intro pins s σ H o i v ov iv u Q I ro ri rv h
 obtain⟨p,xs,k,j,rfl,rfl,hp,hj,q⟩:=h
 cases ro
 obtain⟨t,rfl⟩:=ri
 obtain⟨its,n,r,ho,hz⟩:=I.lst hp
 obtain⟨h1,h2,h3,h4⟩:=zld hj
 have hl:=r.length
 have hn:=zeg
 have I':Inv X pins σ (upd H p (.lst (xs.set j v))) {s with heap:=s.heap.update p (Obj.mapSeq (·.setIfInBounds j u))}:=
  I.lstUpd hp ho (zkb its n j u) (r.set rv j) (by rw[List.length_set];exact hz) s.toks
 by_cases h0:0<=k
 ·have hk:k.toNat=j:=by
   rw[seqIndex_of h0 h4] at h1
   exact U1 h1
  exact W.ki_setAt ho h0 () (by rw[Z0,←hl];exact h4) (by rw[hk];exact⟨_,I',q⟩)
 ·have hk:(k+(its.toArray.size:Int)).toNat=j:=by
   rw[seqIndex_neg () h3] at h1
   rw[Z0,←hl]
   exact U1 h1
  exact W.ki_setBack ho () (by rw[Z0,←hl];exact h3) () (by rw[hk];exact⟨_,I',q⟩)
theorem ziw(lo hi:Option Int)(n:Nat):(sliceBounds lo hi none n).1=((sIx n 0 lo:Nat):Int)/\(sliceBounds lo hi none n).2.1=((sIx n n hi:Nat):Int)/\(sliceBounds lo hi none n).2.2=1:=by
 refine⟨?_,?_,rfl⟩
 ·cases lo with
  |none=>simp[sliceBounds,sIx]
  |some i=>
   simp only[sliceBounds,sIx,Option.getD_none,show(1:Int)>0 by decide,if_true]
   by_cases h:i<0
   ·simp only[h,if_true]<;>lia
   ·simp only[h,if_false]<;>lia
 ·cases hi with
  |none=>simp[sliceBounds,sIx]
  |some i=>
   simp only[sliceBounds,sIx,Option.getD_none,show(1:Int)>0 by decide,if_true]
   by_cases h:i<0
   ·simp only[h,if_true]<;>lia
   ·simp only[h,if_false]<;>lia
theorem zgU(its:List Value)(lo hi:Option Int):slicePick its.toArray lo hi none=((its.drop (sIx its.length 0 lo)).take (sIx its.length its.length hi -sIx its.length 0 lo)).toArray:=by
 obtain⟨h1,h2,h3⟩:=ziw lo hi its.toArray.size
 unfold slicePick
 rw[h1,h2,h3]
 simp only[sliceRange_one,pick_run,Z0]<;>rfl
def zto(K:W.Frag):V->Option Int->Option Int->Hp->VK->Prop:=λx lo hi H Q=>∃a xs,x= .ref a/\SqL K H a xs/\∀p,H p=none->Q (.ref p) (upd H p (.lst (zcs xs lo hi)))
theorem zlB:SlR X (zto X.K):=by
 intro pins s σ H x v vl vu lo hi sl Q I rx hs pl pu h
 obtain⟨a,xs,rfl,hx,q⟩:=h
 cases rx
 obtain⟨its,r,ht,hz⟩:=I.list hx
 have hlen:=r.length
 refine⟨"list",_,slot_list_getitem.lookup,ht.isList.typeIs,?_⟩
 refine wpAny_getItem_list_slice ht.isList hs pl pu .none `Z3 ?_ (by rw[Z0]<;>lia)
 rw[zgU,←hlen]
 refine⟨.ref s.heap.objs.size,_,I.laid (t':=s.toks) (o:= .lst (zcs xs lo hi)) (λb ob q=>G0 _ q) (P0 _) ?_,rfl,q _ (I.hok.fresh (P0 _))⟩
 exact⟨V1 (zff xs lo hi) hz,_,0,(r.drop (sIx xs.length 0 lo)).take (sIx xs.length xs.length hi -sIx xs.length 0 lo),O0 _ rfl⟩
noncomputable def zeE:V->Bool
 | .non=>true
 | .bl _=>true
 | .int _=>true
 | .str _=>true
 |_=>false
noncomputable def eqV:V->V->Bool
 | .non, .non=>true
 | .bl a, .bl b=>a==b
 | .bl a, .int b=>(if a then 1 else 0)==b
 | .int a, .bl b=>a==(if b then 1 else 0)
 | .int a, .int b=>a==b
 | .str a, .str b=>a==b
 |_,_=>false
theorem zrP{y x:V}{v:Value}(ry:RelV y u)(rx:RelV x v)(fy:zeE y=true)(fx:zeE x=true):SeqAt.EqAt A s u v (eqV y x):=by
 cases y with
 |non=>
  cases ry
  cases x with
  |non=>cases rx;exact SeqAt.EqAt.same _
  |bl b=>cases rx;exact SeqAt.EqAt.none_bool b
  |int b=>obtain ⟨t,rfl⟩:=rx;exact SeqAt.EqAt.none_int b t
  |str b=>obtain ⟨t,rfl⟩:=rx;exact SeqAt.EqAt.none_str b t
  |_=>exact absurd (show false=true from fx) L1
 |bl a=>
  cases ry
  cases x with
  |non=>cases rx;exact SeqAt.EqAt.bool_none a
  |bl b=>cases rx;exact SeqAt.EqAt.bool_bool a b
  |int b=>obtain ⟨t,rfl⟩:=rx;exact SeqAt.EqAt.bool_int a b t
  |str b=>obtain ⟨t,rfl⟩:=rx;exact SeqAt.EqAt.bool_str a b t
  |_=>exact absurd (show false=true from fx) L1
 |int a=>
  obtain⟨t',rfl⟩:=ry
  cases x with
  |non=>cases rx;exact SeqAt.EqAt.int_none a t'
  |bl b=>cases rx;exact SeqAt.EqAt.int_bool a t' b
  |int b=>obtain ⟨t,rfl⟩:=rx;exact SeqAt.EqAt.int_int a t' b t
  |str b=>obtain ⟨t,rfl⟩:=rx;exact SeqAt.EqAt.int_str a t' b t
  |_=>exact absurd (show false=true from fx) L1
 |str a=>
  obtain⟨t',rfl⟩:=ry
  cases x with
  |non=>cases rx;exact SeqAt.EqAt.str_none a t'
  |bl b=>cases rx;exact SeqAt.EqAt.str_bool a t' b
  |int b=>obtain ⟨t,rfl⟩:=rx;exact SeqAt.EqAt.str_int a t' b t
  |str b=>obtain ⟨t,rfl⟩:=rx;exact SeqAt.EqAt.str_str a t' b t
  |_=>exact absurd (show false=true from fx) L1
 |_=>exact absurd (show false=true from fy) L1
noncomputable def eqU(x:V)(u:Value):Bool:=match u with
 | .none=>eqV .non x
 | .bool b=>eqV (.bl b) x
 | .int i _=>eqV (.int i) x
 | .str z _=>eqV (.str z) x
 |_=>false
theorem zm6{x y:V}(r:RelV y u)(f:zeE y=true):eqU x u=eqV y x:=by
 cases y with
 |non=>cases r;rfl
 |bl b=>cases r;rfl
 |int i=>obtain ⟨t,rfl⟩:=r;rfl
 |str z=>obtain ⟨t,rfl⟩:=r;rfl
 |_=>exact absurd (show false=true from f) L1
theorem ziv{x:V}:∀{xs:List V} {us:List Value},Vals xs us->xs.all zeE=true->us.any (eqU x)=xs.any λy=>eqV y x
 |_,_, .nil,_=>rfl
 |y::xs,u::us, .cons r t,f=>by
  rw[List.all_cons,W0] at f
  rw[List.any_cons,List.any_cons,zm6 r f.1,ziv t f.2]
theorem zfS{A:Around}{s:Shared}{x:V}{v:Value}(rx:RelV x v)(fx:zeE x=true):∀{xs:List V} {us:List Value},Vals xs us->xs.all zeE=true->∀u∈us,SeqAt.EqAt A s u v (eqU x u)
 |_,_, .nil,_=>λu hu=>by cases hu
 |y::xs,u::us, .cons r t,f=>λu' hu=>by
  rw[List.all_cons,W0] at f
  rcases X0.mp hu with rfl|hu
  ·rw[zm6 r f.1];exact zrP r rx f.1 fx
  ·exact zfS rx fx t f.2 u' hu
noncomputable def inV(x:V)(xs:List V):Bool:=xs.any λy=>eqV y x
noncomputable def rIn(K:W.Frag)(neg:Bool):R2:=λx y H Q=>∃p xs,y= .ref p/\(SqL K H p xs\/SqT K H p xs)/\zeE x=true/\xs.all zeE=true/\Q (.bl (if neg then !inV x xs else inV x xs)) H
theorem zeS:OpR X (compareOp .In) (rIn X.K false):=by
 intro pins s σ H x y v u Q I rx ry h
 obtain⟨p,xs,rfl,hq,fx,fs,q⟩:=h
 cases ry
 rcases hq with hq|hq
 ·obtain ⟨its,r,pl,hz⟩:=I.list hq
  refine SeqAt.in_listAt (eqU x) pl.isList (λw hw=>zfS rx fx r fs w (by simpa using hw)) ⟨.bl _,H,I,rfl,?_⟩
  rw[show its.toArray.any (eqU x)=its.any (eqU x) by simp,ziv r fs]
  exact q
 ·obtain ⟨its,r,pl,hz⟩:=I.tuple hq
  refine SeqAt.in_tupleAt (eqU x) pl (λw hw=>zfS rx fx r fs w (by simpa using hw)) ⟨.bl _,H,I,rfl,?_⟩
  rw[show its.toArray.any (eqU x)=its.any (eqU x) by simp,ziv r fs]
  exact q
theorem zii:CallR X (.builtin "len") (λxs H Q=>∃p ys,xs=[.ref p]/\(SqL X.K H p ys\/SqT X.K H p ys)/\Q (.int ys.length) H):=by
 intro pins s σ H xs us Q I r h
 obtain⟨p,ys,rfl,hq,q⟩:=h
 obtain⟨u,rfl,rx⟩:=zc5 r
 cases rx
 have hn:=zeg
 rcases hq with hq|hq
 ·obtain ⟨its,r',pl,hz⟩:=I.list hq
  have hlen:=r'.length
  exact Calls.call_len_list pl.isList (by simp only[Z0]<;>lia) ⟨.int ys.length,H,I.tok _,⟨s.toks+1,by rw[Z0,hlen]⟩,q⟩
 ·obtain ⟨its,r',pl,hz⟩:=I.tuple hq
  have hlen:=r'.length
  exact len_tuple pl (by simp only[Z0]<;>lia) ⟨.int ys.length,H,I.tok _,⟨s.toks+1,by rw[Z0,hlen]⟩,q⟩
theorem zig:CallR X (.builtin "len") (λxs H Q=>∃z,xs=[.str z]/\z.length<=sizeLine/\Q (.int z.length) H):=by
 intro pins s σ H xs us Q I r h
 obtain⟨z,rfl,hz,q⟩:=h
 obtain⟨u,rfl,t,rfl⟩:=zc5 r
 have hn:=zeg
 exact len_str () ⟨.int z.length,H,I.tok _,⟨_,rfl⟩,q⟩
theorem CallR.or{f:Value}{r r':List V->Hp->VK->Prop}(h:CallR X f r)(h':CallR X f r'):CallR X f (λxs H Q=>r xs H Q\/r' xs H Q):=by
 intro pins s σ H xs us Q I rs q
 rcases q with q|q
 ·exact h pins s σ H xs us Q I rs q
 ·exact h' pins s σ H xs us Q I rs q
theorem zhW:CallR X (.type "list") (λxs H Q=>∃p ys,xs=[.ref p]/\(SqL X.K H p ys\/SqT X.K H p ys)/\∀l,H l=none->Q (.ref l) (upd H l (.lst ys))):=by
 intro pins s σ H xs us Q I r h
 obtain⟨p,ys,rfl,hq,q⟩:=h
 obtain⟨u,rfl,rx⟩:=zc5 r
 cases rx
 have fin:∀(its:List Value),Vals ys its->ys.length<=sizeLine->∀(h':Heap) (c':Nat),(∀b o',s.heap.get? b=some o'->h'.get? b=some o')->
  h'.get? s.heap.objs.size=some {cls:= .type "list",dict:=none,data:= .seq its.toArray c',slots:= #[]}->EP X pins σ Q (.ref s.heap.objs.size) {s with heap:=h'}:=λits r' hz h' c' kp e=>
  ⟨.ref s.heap.objs.size,_,I.laid (t':=s.toks) kp (P0 _) (show ObjOk X.prog X.w _ h' _ (.lst ys)from⟨hz,its,c',r',e⟩),rfl,q _ (I.hok.fresh (P0 _))⟩
 rcases hq with hq|hq
 ·obtain ⟨its,r',pl,hz⟩:=I.list hq
  have hlen:=r'.length
  obtain⟨o,ho,hc,n,hd⟩:=pl.isList
  exact call_list_seq p (.inl rfl) ho hc hd (λh' c' kp e=>fin its r' hz h' c' kp e) (by simp only[Z0]<;>lia)
 ·obtain ⟨its,r',pl,hz⟩:=I.tuple hq
  have hlen:=r'.length
  obtain⟨o,ho,hc,n,hd⟩:=pl
  exact call_list_seq p (.inr rfl) ho hc hd (λh' c' kp e=>fin its r' hz h' c' kp e) (by simp only[Z0]<;>lia)
theorem zW:CallR X (.type "tuple") (λxs H Q=>∃p ys,xs=[.ref p]/\((SqL X.K H p ys/\∀l,H l=none->Q (.ref l) (upd H l (.tup ys)))\/(SqT X.K H p ys/\Q (.ref p) H))):=by
 intro pins s σ H xs us Q I r h
 obtain⟨p,ys,rfl,h⟩:=h
 obtain⟨u,rfl,rx⟩:=zc5 r
 cases rx
 rcases h with⟨hq,q⟩|⟨hq,q⟩
 ·obtain ⟨its,r',pl,hz⟩:=I.list hq
  have hlen:=r'.length
  refine call_tuple_list pl.isList (λh' kp=>?_) (by simp only[Z0]<;>lia)
  have I1:Inv X pins σ H {s with heap:=h'}:=I.kept (t':=s.toks) kp
  have I2:Inv X pins σ (upd H h'.objs.size (.tup ys)) {s with heap:=h'.push {cls:= .type "tuple",data:= .seq its.toArray}}:=
   I1.laid (t':=s.toks) (λb o e=>G0 _ e) (P0 _) (show ObjOk X.prog X.w _ _ _ (.tup ys)from⟨hz,its,r',IsTup.new _ _,NoDict.new rfl (O0 _ rfl)⟩)
  exact⟨.ref h'.objs.size,_,I2,rfl,q _ (I1.hok.fresh (P0 _))⟩
 ·obtain ⟨its,r',pl,hz⟩:=I.tuple hq
  exact call_tuple_same pl ⟨.ref p,H,I,rfl,q⟩
def tyV(K:W.Frag)(T:String)(x:V)(H:Hp):Prop:=match x with
 | .str _=>T="str"
 | .int _=>T="int"
 | .ref p=>(T="list"/\∃xs,SqL K H p xs)\/(T="tuple"/\∃o,K.lookup p=some o/\o.cls= .type "tuple"/\o.dict=none)\/
    (T="dict"/\((∃kvs,H p=some (.dK kvs))\/∃kvs,H p=some (.dT kvs)))\/(T="set"/\∃S n,H p=some (.set S n))\/(T="tuple"/\∃xs,H p=some (.tup xs))
 |_=>False
theorem zrj{T:String}{x:V}{v:Value}(I:Inv X pins σ H s)(r:RelV x v)(ty:tyV X.K T x H):
 s.TypeIs v T/\∀a,v= .ref a->∃ob,s.heap.get? a=some ob/\ob.dict=none:=by
 cases x with
 |str z=>
  obtain⟨t,rfl⟩:=r
  cases(show T="str"from ty)
  exact⟨typeIs_str s z t,λ_ e=>nomatch e⟩
 |int i=>
  obtain⟨t,rfl⟩:=r
  cases(show T="int"from ty)
  exact⟨typeIs_int s i t,λ_ e=>nomatch e⟩
 |ref p=>
  cases r
  rcases ty with⟨rfl,xs,hq⟩|⟨rfl,o,hk,hc,hd⟩|⟨rfl,hk⟩|⟨rfl,S,n,hk⟩|⟨rfl,xs,hk⟩
  ·obtain ⟨its,_,pl,_⟩:=I.list hq
   refine⟨pl.isList.typeIs,λa e=>?_⟩
   cases e
   obtain⟨o,n,e,c,hd,_⟩:=pl
   exact⟨o,e,hd⟩
  ·refine ⟨⟨o,I.kIn p o hk,hc⟩,λa e=>?_⟩
   cases e
   exact⟨o,I.kIn _ o hk,hd⟩
  ·have z:∃o,s.heap.get? p=some o/\o.ExactDict:=by
    rcases hk with⟨kvs,hk⟩|⟨kvs,hk⟩
    ·obtain ⟨_,_,_,_,o,_,_,e,ex,_⟩:=I.hok p _ hk
     exact⟨o,e,ex⟩
    ·obtain ⟨_,_,_,_,o,_,_,e,ex,_⟩:=I.hok p _ hk
     exact⟨o,e,ex⟩
   obtain⟨o,e,ex⟩:=z
   refine⟨⟨o,e,ex.1⟩,λa e2=>?_⟩
   cases e2
   exact⟨o,e,ex.2.1⟩
  ·obtain ⟨o,_,_,_,e,ex,_⟩:=I.hok p _ hk
   refine⟨⟨o,e,ex.1⟩,λa e2=>?_⟩
   cases e2
   exact⟨o,e,ex.2.1⟩
  ·obtain ⟨_,_,_,⟨o,e,c,_⟩,nd⟩:=I.hok p _ hk
   refine⟨⟨o,e,c⟩,λa e2=>?_⟩
   cases e2
   exact⟨o,e,nd o e⟩
 |_=>exact False.elim ty
def tBM(K:W.Frag)(T:String)(r:V->List V->Hp->VK->Prop)(to:TE)(t:TA):TE:=λσ H Q=>to σ H λx H1=>tyV K T x H1/\t σ H1 λxs H2=>r x xs H2 Q
variable{o e:Expr}{to:TE}{t:TA}{T id:String}{r:V->List V->Hp->VK->Prop}
theorem zsy(pa:PlainAttrs T)(slot:Slot T name id)(hty:typeOf (.builtin id)=pure (.type "method_descriptor"))(hm:MtR X id r)(ho:PE X o to)(ha:PA X (e::es) t)
 (hbase:autoParam (attributeBase o name X.env (eval o X.env)=eval o X.env) v3)
 (hfew:autoParam (((backTo cpos (starEach (e::es) X.env)).all (λx=>!x.1)&&(backToKw cpos (keywordEach [] X.env)).all (λx=>x.1.isSome)
   &&decide ((e::es).length+([]:List Keyword).length+(if([]:List Keyword).isEmpty then 0 else 1)<30))=true) v3)
 (hline:autoParam ((apos.endLine==cpos.line)=true) v3) (hs:autoParam (starEach (e::es) X.env=(false,eval e X.env)::starEach es X.env) v3) (hplain:autoParam ((backTo cpos (starEach es X.env)).any (·.1)=false) v3):
 PE X (.Call (.Attribute o name apos) (e::es) [] cpos) (tBM X.K T r to t):=by
 intro pins s σ H Q I h
 refine wpAny_Call_method_late hbase hfew hline rfl (thn (ho pins s σ H _ I h) λv s1 zq=>?_)
 obtain⟨x,H1,I1,r1,ty,q1⟩:=zq
 obtain⟨h1,h2⟩:=zrj I1 r1 ty
 refine⟨T,id,pa,slot,hty,h1,h2,?_⟩
 have hA:=ha cpos pins s1 σ H1 _ I1 q1
 rw[hs] at hA⊢
 refine Calls.callWith_builtin (by show(false||(backTo cpos (starEach es X.env)).any (·.1))=false;rw[hplain]<;>rfl) (Calls.evalArgs_plain ?_)
 refine thn hA λus s2 zq=>?_
 obtain⟨vs,H2,I2,r2,q2⟩:=zq
 exact hm pins s2 σ H2 x vs v us Q I2 r1 r2 q2
end
def MtM(X:Cx)(id:String)(r:V->List V->Hp->VK->Prop):Prop:=
 ∀(pins:List (Addr×Obj)) (s:Shared) (σ:St) (H:Hp) (x:V) (xs:List V) (v:Value) (us:List Value) (Q:VK),Inv X pins σ H s->RelV x v->Vals xs us->r x xs H Q->
  wpAny (model X.prog X.w) X.A (call (.builtin id) (v::us)) (EP X pins σ Q) X.xe s
theorem Vals.one{x:V}{us:List Value}(h:Vals [x] us):∃u,us=[u]/\RelV x u:=by
 cases h with
 |cons r t=>cases t;exact⟨_,rfl,r⟩
theorem Vals.eraseIdx:∀{xs:List V} {us:List Value} (i:Nat),Vals xs us->Vals (xs.eraseIdx i) (us.eraseIdx i)
 |_,_,_, .nil=> .nil
 |_,_,0, .cons _ t=>t
 |_,_,i+1, .cons r t=> .cons r (Vals.eraseIdx i t)
theorem zhK{α:Type}:∀(l:List α) (i:Nat),(l.eraseIdx i).length<=l.length
 |[],_=>P0 _
 |_::_,0=>Nat.le_succ _
 |_::r,i+1=>Nat.succ_le_succ (zhK r i)
section
variable{b:Addr}{zs:List V}
theorem Inv.lset{n:Nat}{f:Array Value->Array Value}(I:Inv X pins σ H s)(hH:H l=some (.lst xs))
 (e:s.heap.get? l=some {cls:= .type "list",data:= .seq its.toArray n}) (hf:f its.toArray=its'.toArray) (hv:Vals ys its') (hz:ys.length<=sizeLine):
 Inv X pins σ (upd H l (.lst ys)) {s with heap:=s.heap.update l (Obj.mapSeq f),toks:=t'}:=by
 have q:=IsL.update e f
 rw[hf] at q
 refine I.write (x:=l) (e:=l) (by rw[hH];exact trivial) (.inl rfl) (λb' u hb hu=>(Heap.get?_update_other s.heap (Obj.mapSeq f) (Ne.symm hb)).trans hu) ⟨_,q⟩ ?_
 exact⟨hz,its',_,hv,q⟩
theorem Inv.lnew(I:Inv X pins σ H s)(hv:Vals ys its)(hz:ys.length<=sizeLine):
 Inv X pins σ (upd H s.heap.objs.size (.lst ys)) {s with heap:=s.heap.push {cls:= .type "list",data:= .seq its.toArray},toks:=t'}:=
 I.laid (λ_ _ q=>G0 _ q) (P0 _) ⟨hz,its,0,hv,O0 _ rfl⟩
theorem Inv.fresh(I:Inv X pins σ H s):H s.heap.objs.size=none:=I.hok.fresh (P0 _)
theorem Inv.lstM(I:Inv X pins σ H s)(hH:H l=some (.lst xs)):xs.length<=sizeLine/\∃(its:List Value) (n:Nat),Vals xs its/\xs.length=its.length/\s.heap.get? l=some {cls:= .type "list",data:= .seq its.toArray n}:=by
 obtain⟨z,its,n,r,e⟩:=I.hok l _ hH
 exact⟨z,its,n,r,r.length,e⟩
theorem zoE{n:Nat}(h:n<=sizeLine):Builtin.List.listTooLong n=false:=by
 unfold Builtin.List.listTooLong
 exact E1 ()
end
def zpa:V->List V->Hp->VK->Prop:=λx vs H Q=>∃l xs y,x= .ref l/\vs=[y]/\H l=some (.lst xs)/\xs.length<sizeLine/\Q .non (upd H l (.lst (xs ++ [y])))
theorem zba:MtM X "list.append" zpa:=by
 intro pins s σ H x vs v us Q I rx rv h
 obtain⟨l,xs,y,rfl,rfl,hH,hz,q⟩:=h
 cases rx
 obtain⟨u,rfl,ru⟩:=rv.one
 obtain⟨z,its,n,r,hl,e⟩:=I.lstM hH
 refine call_meets F.slot_list_append ⟨_,e,rfl⟩ F.entry_list_append (F.args_list_append_2 _ _) (PySem.list_append l its.toArray n u (by rw[Z0];lia)) ⟨e,?_⟩
 refine⟨.non,_,I.lset (its':=its ++ [u]) hH e `Z3 (r.append (.cons ru .nil)) ?_,rfl,q⟩
 rw[F1,List.length_singleton]
 lia
def zp6:V->List V->Hp->VK->Prop:=λx vs H Q=>∃l b xs zs,x= .ref l/\vs=[.ref b]/\H l=some (.lst xs)/\H b=some (.lst zs)/\xs.length+zs.length<=sizeLine/\Q .non (upd H l (.lst (xs ++zs)))
theorem zhp:MtM X "list.extend" zp6:=by
 intro pins s σ H x vs v us Q I rx rv h
 obtain⟨l,b,xs,zs,rfl,rfl,hH,hB,hz,q⟩:=h
 cases rx
 obtain⟨u,rfl,ru⟩:=rv.one
 cases ru
 obtain⟨z,its,n,r,hl,e⟩:=I.lstM hH
 obtain⟨z2,its2,n2,r2,hl2,e2⟩:=I.lstM hB
 have hsz:its.toArray.size+its2.toArray.size<=sizeLine:=by rw[Z0,Z0];lia
 have hlong:¬(!its.toArray.isEmpty&&Builtin.List.listTooLong (its.toArray.size+its2.toArray.size))=true:=by
  rw[zoE hsz,Bool.and_false]
  exact L1
 refine call_meets F.slot_list_extend ⟨_,e,rfl⟩ F.entry_list_extend (F.args_list_extend_2 _ _)
  (AutoSeq1.list_extend_list_list_0 l its.toArray n b its2.toArray n2 hlong (by rw[Z0];lia) ()) ⟨e,e2,?_⟩
 refine⟨.non,_,I.lset (its':=its ++its2) hH e `Z3 (r.append r2) ?_,rfl,q⟩
 rw[F1]
 lia
def zr3:V->List V->Hp->VK->Prop:=λx vs H Q=>∃l xs i k y,x= .ref l/\vs=[.int i]/\H l=some (.lst xs)/\-(2^63)<=i/\i<2^63/\seqIndex? i xs.length=some k/\xs[k]?=some y/\Q y (upd H l (.lst (xs.eraseIdx k)))
theorem znk:MtM X "list.pop" zr3:=by
 intro pins s σ H x vs v us Q I rx rv h
 obtain⟨l,xs,i,k,y,rfl,rfl,hH,h1,h2,hk,hy,q⟩:=h
 cases rx
 obtain⟨u,rfl,ru⟩:=rv.one
 obtain⟨t,rfl⟩:=ru
 obtain⟨z,its,n,r,hl,e⟩:=I.lstM hH
 obtain⟨w,hw,rw'⟩:=r.get hy
 refine call_meets F.slot_list_pop ⟨_,e,rfl⟩ F.entry_list_pop (F.args_list_pop_2 _ _)
  (MeetsSeq.list_pop_at l its.toArray n i t k w (fitsIndex_both h1 h2) (by rw[Z0,←hl];exact hk) (by rw[←Array.getElem?_toList];exact hw) (by rw[Z0];lia)) ⟨e,?_⟩
 refine⟨y,_,I.lset (its':=its.eraseIdx k) hH e ?_ (r.eraseIdx k) ?_,rw',q⟩
 ·show its.toArray.eraseIdxIfInBounds k=(its.eraseIdx k).toArray
  rw[List.eraseIdxIfInBounds_toArray]
 ·have:=zhK xs k
  lia
noncomputable def ztx:R2:=λx y H Q=>∃l b xs zs,x= .ref l/\y= .ref b/\H l=some (.lst xs)/\H b=some (.lst zs)/\xs.length+zs.length<=sizeLine/\∀p,H p=none->Q (.ref p) (upd H p (.lst (xs ++zs)))
theorem zrU:OpR X (binaryOp .Add) ztx:=by
 intro pins s σ H x y v u Q I rx ry h
 obtain⟨l,b,xs,zs,rfl,rfl,hH,hB,hz,q⟩:=h
 cases rx
 cases ry
 obtain⟨z,its,n,r,hl,e⟩:=I.lstM hH
 obtain⟨z2,its2,n2,r2,hl2,e2⟩:=I.lstM hB
 refine P.add_list e e2 ?_ (by rw[Z0,Z0];lia)
 have ea:its.toArray ++its2.toArray=(its ++its2).toArray:=`Z3
 rw[ea]
 exact⟨.ref _,_,I.lnew (t':=s.toks) (r.append r2) (by rw[F1];lia),rfl,q _ I.fresh⟩
section
set_option maxRecDepth 100000 in
end
section
open PySem.W PySem.Calls
theorem zfs{P:Params}{h:Heap}:∀(ns:List Int) (vs:List Value),WellAll P h vs (ns.map WData.int)->IntsAre vs ns:=by
 intro ns
 induction ns with
 |nil=>
  intro vs w
  rw[List.map_nil] at w
  cases w
  exact .nil
 |cons n ns ih=>
  intro vs w
  rw[Z1] at w
  cases w with
  |cons a b=>
   cases a
   exact .cons _ _ (ih _ b)
theorem zmj{l:OpenLaw}{n:Nat}(hn:l.most=some n){P:Params}{h:Heap}{args:List WData}{vals:List Value}
 (hpre:l.row.toRowW.claim.pre args=true) (hwl:WellAll P h vals args):
 ∃a vs ns,vals=[Value.ref a]/\args=[WData.list (ns.map WData.int)]/\h.get? a=some {cls:= .type "list",data:= .seq vs.toArray}/\IntsAre vs ns/\ns.length<=n:=by
 have hsh:WShape.hasAll [] args [.list .int]=true:=(pre_splitW hpre).1
 have hc:l.pre.holds [] {args:=args}=true:=(pre_splitW hpre).2
 obtain⟨d,r,rfl,h1,h2⟩:=hasAllW_cons hsh
 obtain rfl:=hasAllW_nil h2
 obtain⟨xs,rfl,h3⟩:=hasW_list h1
 obtain⟨ns,rfl⟩:=items_int h3
 have hlen:ns.length<=n:=by
  unfold OpenLaw.pre at hc
  have h4:(WTm.not (.lt (.lit (.int (n:Int))) (.len (.arg 0)))).holds [] {args:=[.list (ns.map .int)]}=true:=by
   have h4:=(holds_andW hc).1
   rw[hn] at h4
   exact h4
  have h5:=condW_of h4 (w_not (w_lt w_lit (w_len_list (w_arg rfl))))
  rw[D0] at h5
  refine Nat.le_of_not_lt λq=>?_
  have q':(n:Int)<((ns.length:Nat):Int):=()
  first
   |(rw[Y0 q'] at h5;exact absurd h5 ⋯)
   |(simp at h5;lia)
 cases hwl with
 |cons w1 w2=>
  cases w2
  cases w1 with
  |list ho hall=>exact ⟨_,_,ns,rfl,rfl,ho,zfs ns _ hall,hlen⟩
theorem zm2(l:OpenLaw)(args:List WData):l.row.toRowW.claim.post args (.bool true) args=true:=
 postW_of (r:=l.row.toRowW) (X:=(true==true))
  (show WShape.has [] (.bool true) .bool=true by first|rfl|decide|simp[WShape.has,WShape.arms,WShape.armsAll])
  (show(WTm.eq .res (.lit (.bool true))).value [] {args:=args,res:=some (.bool true),after:=args}=some (.bool (true==true))from w_eq_bool (w_res rfl) w_lit) rfl
theorem attach_call{l:OpenLaw}{n:Nat}{q:Program}{d:DefRec}
 (hn:l.most=some n) (hdf:d.params.defaults=[])
 (call:∀(w:World) (s₀ s₁:Shared) (mg mb:Str->Option Value) (fa:Addr) (o:Obj) (pm cd doc:Value) (a:Addr) (vs:List Value) (ns:List Int),
   Ground q loose [] XP w s₀ mg mb s₁.heap->YP w s₁.heap->
   s₁.heap.get? fa=some o->o.data= .func (docDef d.name d.params d.body d.scope pm cd doc)->s₁.heap.CodeRec cd d.name->mg d.name=some (.ref fa)->
   s₁.heap.get? a=some {cls:= .type "list",data:= .seq vs.toArray}->IntsAre vs ns->ns.length<=n->s₁.gens= #[]->
   codeAny (model l.prog w) callerA (.call (.ref fa) ⟨[.ref a],[]⟩) (λr s'=>r= .ok (.ret (.bool true))/\OldK s₁.heap s'.heap/\s'.os=s₁.os/\AllBare s'.gens) s₁):
 WalkO q loose XP YP l.row.toRowW d [] (λf vs=>PySem.call f vs):=by
 intro w s₀ s₁ mg mb G Y fa o pm cd doc dV kV ho hd hcd hD hmg hg args vals as hpre hlay hrd hwl hlo
 obtain rfl:dV= .none:=Dflts.none hD hdf
 obtain rfl:kV= .none:=Dflts.noKw hD
 obtain⟨a,vs,ns,rfl,rfl,hobj,hints,hlen⟩:=zmj hn hpre hwl
 refine enter_call (codeAny_mono (call w s₀ s₁ mg mb fa o pm cd doc a vs ns G Y ho (fd_plain hd) hcd hmg hobj hints hlen hg) λr s' hq=>?_)
 obtain⟨rfl,h2,h3,h4⟩:=hq
 exact⟨.inl ⟨.bool true, .bool true,[],rfl,λ_=>rfl, .bool true,zm2 l _,λ_=>⟨List.Pairwise.nil,λ_ hm=>(nomatch hm)⟩⟩,h2,h3,h4⟩
section
variable{K:Frag}
end
end
theorem zhr:∀{vs:List Value} {ns:List Int},IntsAre vs ns->Vals (ns.map V.int) vs
 |_,_, .nil=> .nil
 |_,_, .cons n t h=> .cons ⟨t,rfl⟩ (zhr h)
def zrE(H:Hp):Prop:=∀b,H b=none\/∃o xs,H b=some (.frz o (.lst xs))
theorem znN{mg mb:Str->Option Value}{k:Nat}{s₁:Shared}{vs:List Value}{ns:List Int}
 (KX:K.In s₁.heap) (hns:s₁.heap.Ns mainGlobals mg) (hb:s₁.heap.Ns builtinsNs mb) (hbb:∀x:Str,x≠"__name__"->mb x=bootBuiltins x) (hlim:s₁.heap.NoLimit) (hg:s₁.gens= #[])
 (ha:s₁.heap.get? a=some {cls:= .type "list",data:= .seq vs.toArray}) (hi:IntsAre vs ns) (hl:ns.length<=sizeLine) (hr:Room k callerA)
 (F:∀base:Heap,K.In base->base.Ns mainGlobals mg->FnOk P w K mg base CX k fa fd [x] sp) (hbind:∀(s:Shared) (u:Value),BindsTo s fd ⟨[u],[]⟩ [(x,u)])
 (hsp:∀H:Hp,zrE H->SqL K H a (ns.map V.int)->sp [.ref a] H (λv _=>v= .bl true) λ_ _ _=>False)
 (hCX:∀H e s',CX [] H s₁ (λ_ _ _=>False) e s'->False):
 codeAny (model P w) callerA (.call (.ref fa) ⟨[.ref a],[]⟩) (λr s'=>r= .ok (.ret (.bool true))/\OldK s₁.heap s'.heap/\s'.os=s₁.os/\AllBare s'.gens) s₁:=by
 have rv:=zhr hi
 have lenV:=hi.length
 have core:∀H:Hp,zrE H->SqL K H a (ns.map V.int)->HOk P w H s₁.heap->(∀b,H b≠none->b=a)->(H a≠none->K.lookup a=none)->
  codeAny (model P w) callerA (.call (.ref fa) ⟨[.ref a],[]⟩) (λr s'=>r= .ok (.ret (.bool true))/\OldK s₁.heap s'.heap/\s'.os=s₁.os/\AllBare s'.gens) s₁:=by
  intro H hO hS hok hA hK
  have base_of:∀{b:Addr} {o:Obj},s₁.heap.get? b=some o->H b=none->(zh6 s₁.heap H).get? b=some o:=λe n=>zn6 e n
  have noA:∀{b:Addr} {o:Obj} {es:Array DictEntry} {ep:Nat},s₁.heap.get? b=some o->o.data= .dict es ep->H b=none:=λ{b o es ep} e d=>by
   cases q:H b with
   |none=>rfl
   |some u=>
    have e':b=a:=hA b (by rw[q];simp)
    subst e'
    rw[ha] at e;cases e
    have d':Data.seq vs.toArray _=Data.dict es ep:=d
    cases d'
  have nsK:∀{b:Addr} {m:Str->Option Value},s₁.heap.Ns b m->(zh6 s₁.heap H).Ns b m:=λ{b m} ⟨o,es,ep,e,d,r⟩=>⟨o,es,ep,base_of e (noA e d),d,r⟩
  have hKb:K.In (zh6 s₁.heap H):=λb o e=>base_of (KX b o e) (by
   cases q:H b with
   |none=>rfl
   |some u=>
    have e':b=a:=hA b (by rw[q];simp)
    subst e'
    rw[hK (by rw[q];simp)] at e;cases e)
  have hM:Mod K mg (zh6 s₁.heap H):=⟨hKb,nsK hns,⟨mb,nsK hb,hbb⟩,let⟨mc,h1,h2⟩:=hlim;⟨mc,nsK h1,h2⟩⟩
  have e0:Env0 P w K mg (zh6 s₁.heap H) callerA [] s₁ H:=⟨rfl,hM,λb o e=>zqz e,Nat.le_of_eq (zmS _ _),trivial,λb hb=>absurd (show b∈([]:List Addr)from hb) `Z3,hok, .of_eq hg⟩
  refine codeAny_mono ((F _ hKb (nsK hns)).run callerA [] s₁ H ⟨[.ref a],[]⟩ [.ref a] [.ref a] _ _ hr e0 (hbind s₁ (.ref a)) (.cons rfl .nil) (hsp H hO hS)) λr s' h=>?_
  cases r with
  |error e=>exact (hCX H e s' h).elim
  |ok fl=>
   cases fl with
   |next=>exact False.elim h
   |brk=>exact False.elim h
   |cont=>exact False.elim h
   |ret u=>
    obtain⟨v,H',os,bare,un,hok',r',q⟩:=h
    have q':v= .bl true:=q
    subst q'
    obtain rfl:u=Value.bool true:=r'
    refine⟨rfl,OldK.of_keep λb o e=>?_,os,bare⟩
    cases q:H b with
    |none=>exact un.keep b o e q (by intro z;exact absurd (show b∈([]:List Addr)from z) `Z3) `Z3
    |some u=>
     rcases hO b with z|⟨ob,xs,z⟩
     ·rw[q] at z;cases z
     ·have z2:=un.frzs b ob _ z
      obtain⟨e1,_⟩:=hok b _ z
      obtain⟨e2,_⟩:=hok' b _ z2
      rw[e] at e1;cases e1
      exact e2
 cases hk:K.lookup a with
 |some o=>
  have e:=KX a o hk
  rw[ha] at e
  cases e
  refine core (λ_=>none) (λ_=> .inl rfl) (.inr ⟨_,vs.toArray,_,hk,rfl,rfl,rfl,by rw[Z0,lenV];exact hl,by simpa using rv⟩) (λb u z=>by have z':(none:Option HO)=some u:=z;cases z') (λb z=>absurd rfl z) λz=>absurd rfl z
 |none=>
  refine core (λb=>if b=a then some (.frz {cls:= .type "list",data:= .seq vs.toArray} (.lst (ns.map V.int)))else none) (λb=>?_) (.inl (.inr ⟨{cls:= .type "list",data:= .seq vs.toArray},R0 rfl⟩)) (λb u z=>?_) (λb z=>?_) λ_=>hk
  ·by_cases hb:b=a
   ·exact .inr ⟨_,_,R0 hb⟩
   ·exact .inl (N0 hb)
  ·by_cases hb:b=a
   ·have z':=(R0 hb).symm.trans z
    cases z'
    subst hb
    exact⟨ha,by rw[D0];exact hl,vs,_,rv,ha⟩
   ·have z':=(N0 hb).symm.trans z
    cases z'
  ·by_cases hb:b=a
   ·exact hb
   ·exact absurd (N0 hb) z
theorem walk_of{l:W.OpenLaw}{n k:Nat}{q:Program}{d:DefRec}{K:Params->W.Frag}{CX:World->CXT}{sp:World->Sp}
 (hn:l.most=some n) (hn2:n<=sizeLine) (hdf:d.params.defaults=[]) (hr:Room k callerA)
 (hY:∀(w:World) (h:Heap),YP w h->(K w.params).In h)
 (F:∀(w:World) (mg:Str->Option Value) (fa:Addr) (h:Heap),(K w.params).In h->h.Ns mainGlobals mg->mg d.name=some (.ref fa)->
   ∃fd:FuncData,(∀(s:Shared) (u:Value),BindsTo s fd ⟨[u],[]⟩ [(x,u)])/\
    ∀base:Heap,(K w.params).In base->base.Ns mainGlobals mg->FnOk l.prog w (K w.params) mg base (CX w) k fa fd [x] (sp w))
 (hsp:∀(w:World) (H:Hp) (a:Addr) (ns:List Int),ns.length<=n->zrE H->SqL (K w.params) H a (ns.map V.int)->sp w [.ref a] H (λv _=>v= .bl true) λ_ _ _=>False)
 (hCX:∀(w:World) (H:Hp) (s:Shared) (e:Value) (s':Shared),CX w [] H s (λ_ _ _=>False) e s'->False):
 W.WalkO q loose XP YP l.row.toRowW d [] (λf vs=>PySem.call f vs):=by
 refine attach_call hn hdf λw s₀ s₁ mg mb fa o pm cd doc a vs ns G Y ho hd hcd hmg hobj hints hlen hg=>?_
 have KX:=hY w _ Y
 obtain⟨fd,hb,hF⟩:=F w mg fa _ KX G.T.g hmg
 exact znN KX G.T.g G.T.b G.T.builtins G.T.nolimit hg hobj hints (V1 hlen hn2) hr hF hb (λH hO hS=>hsp w H a ns hlen hO hS) λH e s'=>hCX w H s₁ e s'
noncomputable abbrev CX0:CXT:=λ_ _ _ _ _ _=>False
noncomputable abbrev E0:XK:=λ_ _ _=>False
theorem zm:za4 CX0 X E0:=λ_ _ _ _ _ _ _ h=>h.elim
structure Fun(K:W.Frag)(x qual:Str)(st:Stmt)(f:Addr)(fd:FuncData):Prop where
 ex:∃(oc:Value) (od:Option Addr) (kV doc pm:Value) (an:Option Addr) (cdv ct:Value) (osl:Array (Option Value)),
  fd=W.fnOf x qual (z7 st) (zK st) (ze st) .none kV doc pm an cdv ct/\K.lookup f=some ⟨oc,od, .func fd,osl⟩/\W.codeIn K cdv qual=true
 kp:W.keepIn K (.ref f)=true
section
variable{mg:Str->Option Value}{base:Heap}
theorem Fun.ok{st:Stmt}{ps:List Str}{k:Nat}(F:Fun K x qual st f fd)(S:FnScope N ps (ze st))(len:∀vs H Q E,sp vs H Q E->vs.length=ps.length)
 (hbody:∀(cdv:Value) (A:Around) (outer:List Env) (s:Shared) (H:Hp) (vs:List V) (Q:VK) (E:XK),Room k (A.deeper (envOfC qual (ze st) s.heap.objs.size f cdv))->sp vs H Q E->
   ∃t,PSs (zgT CX0 P w K mg base N qual (ze st) f cdv A outer s H E).nox (zK st) t/\t {nx:=λ_ H'=>Q .non H',rt:=Q} (zdz N vs) H):FnOk P w K mg base CX0 (k+1) f fd ps sp:=by
 obtain⟨oc,od,kV,doc,pm,an,cdv,ct,osl,rfl,lk,hcd⟩:=F.ex
 refine zoA lk hcd S len λA outer s H vs Q E hr hsp=>?_
 obtain⟨t,h,q⟩:=hbody cdv A outer s H vs Q E hr hsp
 exact⟨t,h.nox,q⟩
theorem Fun.binds{st:Stmt}{ps:List Str}(F:Fun K x qual st f fd)
 (h:∀(kV doc pm:Value) (an:Option Addr) (cdv ct:Value) (us:List Value),us.length=ps.length->bindArgs (W.fnOf x qual (z7 st) (zK st) (ze st) .none kV doc pm an cdv ct) ⟨us,[]⟩=pure (ps.zip us)):Binds K fd ps []:=by
 obtain⟨oc,od,kV,doc,pm,an,cdv,ct,osl,rfl,lk,hcd⟩:=F.ex
 exact .all (h kV doc pm an cdv ct)
theorem zix{st:Stmt}{an:Option Addr}{kV:Value}(l:K.lookup f=some ⟨oc,od, .func (W.fnOf x qual (z7 st) (zK st) (ze st) .none kV doc pm an cdv ct),osl⟩)
 (c:W.codeIn K cdv qual=true) (k:W.keepIn K (.ref f)=true):Fun K x qual st f (W.fnOf x qual (z7 st) (zK st) (ze st) .none kV doc pm an cdv ct):=⟨⟨oc,od,kV,doc,pm,an,cdv,ct,osl,rfl,l,c⟩,k⟩
end
theorem zo{n:Nat}(h:n<=1000):n<sizeLine:=Nat.lt_of_le_of_lt h ⋯
theorem zbP{c A B:Prop}[Decidable c](h1:c->A)(h2:¬c->B):if c then A else B:=by
 by_cases h:c
 ·rw[R0 h]
  exact h1 h
 ·rw[N0 h]
  exact h2 h
def Same(H H':Hp):Prop:=∀b o,H b=some o->H' b=some o
theorem Same.refl(H:Hp):Same H H:=λ_ _ h=>h
theorem Same.trans(a:Same H H1)(b:Same H1 H2):Same H H2:=λc o h=>b c o (a c o h)
theorem Same.free(e:Same H H')(h:H' l=Option.none):H l=Option.none:=by
 cases q:H l with
 |none=>rfl
 |some o=>
  rw[e l o q] at h
  cases h
theorem Same.seq(e:Same H H')(h:SqL K H a xs):SqL K H' a xs:=by
 rcases h with(h|⟨o,h⟩)|h
 ·exact .inl (.inl (e _ _ h))
 ·exact .inl (.inr ⟨o,e _ _ h⟩)
 ·exact .inr h
noncomputable def zw(X:Cx)(N':List Str)(scope:Scope)(cl:List (Str×Addr))(C:Addr)(s₀:Shared)(H₀:Hp)(fp:List Addr):Cx:=
 {prog:=X.prog,w:=X.w,K:=X.K,mg:=X.mg,base:=X.base,A:=X.A,N:=N',s₀:=s₀,H₀:=H₀,env:=compEnvC scope cl C X.env,outer:=X.stack,stack:=X.stack,ex:=fp,fn:=λ_=>false,
  calm:=X.calm,pn:=[],xe:=λ_ _=>False}
structure CompOk(N:List Str)(osc:Scope)(N':List Str)(src:List (Option Nat))(scope:Scope):Prop where
 kind:scope.kind= .function
 nocell:∀y∈scope.names,y.2≠ .cell
 loc:∀y∈scope.names,y.2= .local->scope.names.lookup y.1=some .local
 frees:∀y∈scope.names,y.2= .free->osc.names.lookup y.1=some .cell\/osc.names.lookup y.1=some .free
 nd:N'.Nodup
 len:src.length=N'.length
 src:∀q∈src.zip N',∀j∈q.1.toList,N[j]?=some q.2/\scope.names.lookup q.2=some .free
theorem zdX{env:Env}:∀(l:List (Str×NameKind)) (acc:List (Str×Addr)),(∀x c,acc.lookup x=some c->env.cells.lookup x=some c)->(∀y∈l,y.2= .free->∃c,env.cells.lookup y.1=some c)->
 ∃cl,(forIn l acc λ(x:Str×NameKind) (r:List (Str×Addr))=>(if(x.2==NameKind.free)=true then(cellOf env x.1>>=λa=>pure (ForInStep.yield ((x.1,a)::r)))else pure (ForInStep.yield r):Sem (ForInStep (List (Str×Addr)))))=pure cl/\
  (∀x c,cl.lookup x=some c->env.cells.lookup x=some c)/\(∀y∈l,y.2= .free->∃c,cl.lookup y.1=some c)/\(∀x c,acc.lookup x=some c->∃d,cl.lookup x=some d)
 |[],acc,h,_=>⟨acc,rfl,h,λ_ z=>(nomatch z),λx c e=>⟨c,e⟩⟩
 |(n,k)::l,acc,h,hf=>by
  by_cases hk:k= .free
  ·subst hk
   obtain⟨c,hc⟩:=hf (n, .free) K1 rfl
   have hacc:∀x d,((n,c)::acc).lookup x=some d->env.cells.lookup x=some d:=λx d e=>by
    rw[List.lookup_cons] at e
    cases hx:x==n with
    |true=>
     rw[hx] at e
     have e1:x=n:=by simpa using hx
     have e2:c=d:=by simpa using e
     rw[e1,←e2];exact hc
    |false=>
     rw[hx] at e
     exact h x d e
   obtain⟨cl,e1,e2,e3,e4⟩:=zdX l ((n,c)::acc) hacc λy hy=>hf y (b0 _ hy)
   refine⟨cl,?_,e2,λy hy hyf=>?_,λx d e=>?_⟩
   ·rw[List.forIn_cons]
    have:cellOf env n=pure c:=by unfold cellOf;rw[hc]
    simp only[beq_self_eq_true,if_true,this,pure_bind]
    exact e1
   ·rcases X0.mp hy with rfl|hy
    ·exact e4 n c `Z3
    ·exact e3 y hy hyf
   ·by_cases hx:x=n
    ·subst hx;exact e4 x c `Z3
    ·have hb:(x==n)=false:=by simpa using hx
     exact e4 x d (by rw[List.lookup_cons,hb];exact e)
  ·obtain ⟨cl,e1,e2,e3,e4⟩:=zdX l acc h λy hy=>hf y (b0 _ hy)
   refine⟨cl,?_,e2,λy hy hyf=>?_,e4⟩
   ·rw[List.forIn_cons]
    have hb:(k==NameKind.free)=false:=by simpa using hk
    simp only[hb,B3,if_false,pure_bind]
    exact e1
   ·rcases X0.mp hy with rfl|hy
    ·exact absurd hyf hk
    ·exact e3 y hy hyf
theorem zdY(hf:∀y∈scope.names,y.2= .free->∃c,env.cells.lookup y.1=some c):
 ∃cl,closureFor scope env=pure cl/\(∀x c,cl.lookup x=some c->env.cells.lookup x=some c)/\∀y∈scope.names,y.2= .free->∃c,cl.lookup y.1=some c:=by
 obtain⟨cl,e1,e2,e3,_⟩:=zdX (env:=env) scope.names [] (λ_ _ z=>by simp at z) hf
 refine⟨cl,?_,e2,e3⟩
 unfold closureFor
 refine Eq.trans ?_ (Z2 (λt=>t>>=λc=>(pure c:Sem (List (Str×Addr)))) e1)
 first
  |rfl
  |(congr 1)
theorem zib:∀{x:Str},(relabel scope env).names.lookup x=some .cell\/(relabel scope env).names.lookup x=some .free->(∀y∈scope.names,y.2≠ .cell)->(x,NameKind.free)∈scope.names:=by
 intro x h hc
 have key:∀(l:List (Str×NameKind)),(∀y∈l,y.2≠ .cell)->((l.map λ(n,k)=>if (k==NameKind.free&&env.scope.kind== .function&&env.kindOf n==some .cell)then(n,NameKind.cell)else(n,k)).lookup x=some .cell\/
  (l.map λ(n,k)=>if (k==NameKind.free&&env.scope.kind== .function&&env.kindOf n==some .cell)then(n,NameKind.cell)else(n,k)).lookup x=some .free)->(x,NameKind.free)∈l:=by
  intro l
  induction l with
  |nil=>intro _ h;simp at h
  |cons y l ih=>
   obtain⟨n,k⟩:=y
   intro hc h
   have hc':∀y∈l,y.2≠ .cell:=λy hy=>hc y (b0 _ hy)
   have hk:k≠ .cell:=hc (n,k) K1
   rw[Z1] at h
   by_cases hx:x=n
   ·subst hx
    by_cases hf:k= .free
    ·subst hf;exact K1
    ·exfalso
     have hb:(k==NameKind.free)=false:=by simpa using hf
     simp only[hb,Bool.false_and,B3,if_false,List.lookup_cons,beq_self_eq_true] at h
     rcases h with h|h
     ·exact hk (U1 h)
     ·exact hf (U1 h)
   ·refine b0 _ (ih hc' ?_)
    have hb:(x==n)=false:=by simpa using hx
    by_cases hq:(k==NameKind.free&&env.scope.kind== .function&&env.kindOf n==some .cell)=true
    ·simp only[hq,if_true,List.lookup_cons,hb] at h
     exact h
    ·simp only[hq,B3,if_false,List.lookup_cons,hb] at h
     exact h
 exact key _ hc h
theorem zin(h:scope.names.lookup x=some .free):(relabel scope env).names.lookup x=some .cell\/(relabel scope env).names.lookup x=some .free:=by
 have key:∀(l:List (Str×NameKind)),l.lookup x=some .free->((l.map λ(n,k)=>if (k==NameKind.free&&env.scope.kind== .function&&env.kindOf n==some .cell)then(n,NameKind.cell)else(n,k)).lookup x=some .cell\/
  (l.map λ(n,k)=>if (k==NameKind.free&&env.scope.kind== .function&&env.kindOf n==some .cell)then(n,NameKind.cell)else(n,k)).lookup x=some .free):=by
  intro l
  induction l with
  |nil=>intro h;simp at h
  |cons y l ih=>
   obtain⟨n,k⟩:=y
   intro h
   rw[Z1]
   rw[List.lookup_cons] at h
   cases hx:x==n with
   |true=>
    rw[hx] at h
    have hk:k= .free:=U1 h
    subst hk
    by_cases hq:(NameKind.free==NameKind.free&&env.scope.kind== .function&&env.kindOf n==some .cell)=true
    ·simp only[hq,if_true,List.lookup_cons,hx];exact .inl trivial
    ·simp only[hq,B3,if_false,List.lookup_cons,hx];exact .inr trivial
   |false=>
    rw[hx] at h
    by_cases hq:(k==NameKind.free&&env.scope.kind== .function&&env.kindOf n==some .cell)=true
    ·simp only[hq,if_true,List.lookup_cons,hx];exact ih h
    ·simp only[hq,B3,if_false,List.lookup_cons,hx];exact ih h
 exact key _ h
noncomputable def zep(src:List (Option Nat))(σ:St):St:=src.map λo=>o.bind λj=>(σ[j]?).join
section
variable{src:List (Option Nat)}{cl:List (Str×Addr)}
theorem zd2{h₁:Heap}{tk:Nat}(I:Inv X pins σ H s)(hf:∀b∈fp,zec X pins H b)(hlt:∀b∈fp,b<s.heap.objs.size)(ok:CompOk X.N osc N' src scope)(hsc:X.env.scope=osc)
 (c1:∀x c,cl.lookup x=some c->X.env.cells.lookup x=some c) (c2:∀y∈scope.names,y.2= .free->∃c,cl.lookup y.1=some c)
 (hn:h₁.Ns s.heap.objs.size λ_=>none) (hk:∀b o,s.heap.get? b=some o->h₁.get? b=some o):
 Inv (zw X N' scope cl s.heap.objs.size s H fp) [] (zep src σ) H {s with heap:=h₁,toks:=tk}:=by
 have hkind:(relabel scope X.env).kind= .function:=ok.kind
 refine⟨⟨I.ok.mod,hkind,I.ok.glob,I.ok.blt,P0 _,λx y c h1 h2=>I.ok.inj x y c (c1 x c h1) (c1 y c h2),λx hx=>?_,λx c z _=>(by cases z),I.ok.hd,I.ok.frames, .inl rfl,λb hb=>?_,I.bs,V1 I.ok.bsz I.sz,λb o e hb=>?_,λb hb z=>?_,I.stack,I.stkFree⟩,
  rfl,I.bare,Un.kept hk,⟨_,hn,λi x v h1 h2 h3=>?_⟩,λx c e=>?_,I.hok.fresh (P0 _),λx c e=>I.freeC x c (c1 x c e),λp hp=>absurd (show p∈([]:List (Addr×Obj))from hp) `Z3,I.hok.kept hk,?_⟩
 ·exact c2 _ (zib (env:=X.env) (scope:=scope) (x:=x) hx ok.nocell) rfl
 ·obtain ⟨f0,f1,f2,f3,f4,f5⟩:=hf b hb
  exact⟨λz=>absurd (hlt b hb) (by rw[z];exact Nat.lt_irrefl _),λx c e=>f4 x c (c1 x c e)⟩
 ·obtain ⟨f0,f1,f2,f3,f4,f5⟩:=hf b hb
  rcases f3 with z|z
  ·exact I.ok.noex b o e z
  ·exact absurd (O1 (V0 e) (V1 I.ok.bsz z)) (Nat.lt_irrefl _)
 ·obtain ⟨f0,f1,f2,f3,f4,f5⟩:=hf b hb
  rcases X0.mp (I.stkSub b z)with q|q
  ·exact f1 q
  ·exact f2 q
 ·
  have hi:∃j,src[i]?=some (some j)/\σ[j]?=some (some v):=by
   unfold zep at h2
   rw[U0] at h2
   cases e:src[i]? with
   |none=>rw[e] at h2;cases h2
   |some o=>
    rw[e] at h2
    cases o with
    |none=>cases h2
    |some j=>
     refine⟨j,rfl,?_⟩
     have h2':(σ[j]?).join=some v:=U1 h2
     cases e2:σ[j]? with
     |none=>rw[e2] at h2';cases h2'
     |some w=>rw[e2] at h2';exact Z2 some h2'
  obtain⟨j,e1,e2⟩:=hi
  have hz:(some j,x)∈src.zip N':=by
   refine List.mem_iff_getElem?.mpr ⟨i,?_⟩
   rw[List.getElem?_zip_eq_some]
   exact⟨e1,h1⟩
  obtain⟨q1,q2⟩:=ok.src _ hz j `Z3
  have hfr:=PySem.mem_of_lookup q2
  have hk0:=ok.frees _ hfr rfl
  rw[←hsc] at hk0
  obtain⟨m,hns,hl⟩:=I.loc
  obtain⟨u,r,l⟩:=hl j x v q1 e2 (hk0.elim (λz=> .inr (.inl z)) λz=> .inr (.inr z))
  refine⟨u,r,?_⟩
  rcases l with⟨l1,_⟩|⟨_,c,l2,l3⟩
  ·exfalso
   have l1':X.env.scope.names.lookup x=some .local:=l1
   rcases hk0 with z|z
   ·rw[l1'] at z;cases z
   ·rw[l1'] at z;cases z
  ·obtain ⟨d,hd⟩:=c2 _ hfr rfl
   have:d=c:=by
    have:=(c1 _ _ hd).symm.trans l2
    exact U1 this
   subst this
   obtain⟨o,ho,hod⟩:=l3
   exact .inr ⟨zin q2,d,hd,o,hk _ _ ho,hod⟩
 ·obtain ⟨v,o,ho,hod⟩:=I.cell x c (c1 x c e)
  exact⟨v,o,hk _ _ ho,hod⟩
 ·show (zep src σ).length=N'.length
  unfold zep
  rw[D0]
  exact ok.len
theorem zei{σ':St}(I:Inv X pins σ H s)(hf:∀b∈fp,zec X pins H b)(hC:s.heap.objs.size<=C)(J:Inv (zw X N' scope cl C s H fp) [] σ' H' s')(hs:Heap.SameBut C s'.heap h'):
 Inv X pins σ H' {s' with heap:=h'}:=by
 have nC:∀b o,s.heap.get? b=some o->b≠C:=λb o e z=>absurd (O1 (V0 e) (by rw[z];exact hC)) (Nat.lt_irrefl _)
 have B:Un (frs X.stack) fp H H' s.heap s'.heap:=J.base
 refine I.call' (ch:=fp) J.os ⟨λb o e n hb hx=>(hs.2 b (nC b o e)).trans (B.keep b o e n hb hx),λb o e n hb hx=>?_,B.free,λb o e hx=>?_,B.tups,B.frzs,B.tbls⟩ (λb ob e=>?_) J.bare λb hb=>?_
 ·obtain ⟨sl,e1⟩:=B.slot b o e n hb hx
  exact⟨sl,(hs.2 b (nC b o e)).trans e1⟩
 ·obtain ⟨o',e1⟩:=B.there b o e hx
  exact⟨o',(hs.2 b (nC b o e)).trans e1⟩
 ·refine (J.hok b ob e).stay (λc w' hc q=>(hs.2 c ?_).trans q) (λ_ q=>q) λ_ _ q=>q
  have hfree:H' C=none:=J.free
  rintro rfl
  rcases hc with rfl|hc
  ·rw[hfree] at e;cases e
  ·rw[hfree] at hc;cases hc
 ·obtain ⟨f0,f1,f2,f3,f4,f5⟩:=hf b hb
  exact⟨f3,f1,f4,f5⟩
end
noncomputable def ziz(ifs:List Expr)(env:Env):Sem Bool:=forIn ifs true λc r=>if r=true then do let ok ←isTrue c env (eval c env);pure (ForInStep.yield ok)else pure (ForInStep.yield r)
def PIf(X:Cx)(ifs:List Expr)(t:TT):Prop:=
 ∀(pins:List (Addr×Obj)) (s:Shared) (σ:St) (H:Hp) (Q:Bool->Hp->Prop),Inv X pins σ H s->t σ H Q->wpAny (model X.prog X.w) X.A (ziz ifs X.env) (TP X pins σ Q) X.xe s
noncomputable def zoZ:TT:=λ_ H Q=>Q true H
theorem zqG:PIf X [] zoZ:=λpins s σ H Q I h=>wpAny_tests_nil ⟨H,I,h⟩
theorem zqq{c:Expr}{t:TT}(h:PT X c t):PIf X [c] t:=λpins s σ H Q I hq=>wpAny_tests_one (h pins s σ H Q I hq)
theorem zey{R:Result->Shared->Prop}{it:Value}(I:Nat->Shared->Prop)
 (turn:∀n s,I n s->wpAny `V3 A (pyNext it) (λr s1=>match r with
   |none=>R (.ok .next) s1
   |some v=>wpAny `V3 A (letOwnedTupleGo target it v) (λ_ s1'=>wpAny `V3 A (assign target env v) (λ_ s2=>wpAny `V3 A (ziz ifs env) (λok s3=>
     if ok=true then wpAny `V3 A (eval elt env) (λx s4=>wpAny `V3 A (call (.builtin "list.append") [acc,x]) (λ_ s5=>∃m,m<n/\I m s5) (λ_ _=>False) s4) (λ_ _=>False) s3
     else∃m,m<n/\I m s3) (λ_ _=>False) s2) (λ_ _=>False) s1') (λ_ _=>False) s1) (λ_ _=>False) s)
 (n:Nat) (h:I n s):codeAny `V3 A (.compLoop (.ListComp elt [⟨target,iter,ifs,0⟩] scope pos) 0 it acc env) R s:=by
 have no:∀{E:Value->Shared->Prop} (e:Value) (s:Shared),(λ(_:Value) (_:Shared)=>False) e s->E e s:=λ_ _ z=>False.elim z
 refine codeAny_loop rfl I (λn s hI=>?_) n h
 show wpAny _ A ((compTurn (.ListComp elt [⟨target,iter,ifs,0⟩] scope pos) 0 it acc env).onRaise (λx=>do noteFrame x env;theTreesLotGoes x)) _ _ s
 refine wpAny_noted ?_
 rw[compTurn_list]
 refine C0 (wpAny_standAt (C0 (W2 (turn n s hI) (λr s₁ h₁=>?_) no)))
 cases r with
 |none=>exact K0 h₁
 |some v=>
  refine C0 (W2 h₁ (λ_ s1' h1'=>?_) no)
  refine C0 (W2 h1' (λ_ s₂ h₂=>C0 (W2 h₂ (λok s₃ h₃=>?_) no)) no)
  cases ok with
  |false=>exact K0 ⟨rfl,h₃⟩
  |true=>
   exact C0 (C0 (W2 h₃ (λx s₄ h₄=>C0 (W2 h₄ (λ_ s₅ h₅=>K0 (K0 ⟨rfl,h₅⟩)) no)) no))
def zdZ(g:TG)(tc:TT)(te:TE)(src:List (Option Nat))(σ:St)(Q:VK)(J:It)(H1:Hp):Prop:=∀l,H1 l=none->
 ∃W:Nat->Nat->List V->St->Hp->Prop,(∃m,W 0 m [] (zep src σ) (upd H1 l (.lst [])))/\∀i m ys σ' H',W i m ys σ' H'->H' l=some (.lst ys)->
  (J.stop i H'/\Q (.ref l) H')\/(J.go i H'/\∃N:List V->St->Hp->Prop,(∀zs σ2 H2,N zs σ2 H2->∃m',m'<m/\W (i+1) m' zs σ2 H2)/\∀x H2,J.yld i H' x H2->g x σ' H2 λσ2 H3=>tc σ2 H3 λb H4=>
    if b=true then te σ2 H4 λy H5=>H5 l=some (.lst ys)/\ys.length<sizeLine/\N (ys ++ [y]) σ2 (upd H5 l (.lst (ys ++ [y])))
    else H4 l=some (.lst ys)/\N ys σ2 H4)
noncomputable def zlO(wi:TI)(g:TG)(tc:TT)(te:TE)(src:List (Option Nat)):TE:=λσ H Q=>wi σ H (zdZ g tc te src σ Q)
def zqV(g:TG)(tb:TS)(D:Ends)(σ:St)(J:It)(H1:Hp):Prop:=∃W:Nat->Nat->St->Hp->Prop,(∃m,W 0 m σ H1)/\∀i m σ H,W i m σ H->
 (J.stop i H/\D.nx σ H)\/(J.go i H/\∃N:St->Hp->Prop,(∀σ' H',N σ' H'->∃m',m'<m/\W (i+1) m' σ' H')/\∀x H',J.yld i H x H'->g x σ H' λσ2 H2=>tb {D with nx:=N,ct:=N,bk:=D.nx} σ2 H2)
noncomputable def zqT(wi:TI)(g:TG)(tb:TS):TS:=λD σ H=>wi σ H (zqV g tb D σ)
theorem zpc{g:TG}(hp:PassesOwn (model X.prog X.w) X.A X.env X.xe)(hc:X.calm=true)(hi:PI X tg iter wi)(hg:PG X tg g)(hb:PSs X body tb)
 (hs:autoParam (∀x,foldedSetIterable iter X.env x=pure x) u5):PS X (.For tg iter body [] pos) (zqT wi g tb):=zrH hp hc hi hg hb hs
section
variable{src:List (Option Nat)}{g:TG}
theorem zpe(ok:CompOk X.N osc N' src scope)(hsc:X.env.scope=osc)(hc:X.calm=true)(hi:PI X tg iter wi)
 (hg:∀cl C s₀ H₀ fp,PG (zw X N' scope cl C s₀ H₀ fp) tg g) (ht:∀cl C s₀ H₀ fp,PIf (zw X N' scope cl C s₀ H₀ fp) ifs tc) (he:∀cl C s₀ H₀ fp,PE (zw X N' scope cl C s₀ H₀ fp) elt te)
 (hs:autoParam (∀x,foldedSetIterable iter X.env x=pure x) u5):PE X (.ListComp elt [⟨tg,iter,ifs,0⟩] scope pos) (zlO wi g tc te src):=by
 intro pins s σ H Q I h
 obtain⟨cl,hcl,c1,c2⟩:=zdY (scope:=scope) (env:=X.env) λy hy hyf=>I.ok.has y.1 (by
  have z:=ok.frees y hy hyf
  rw[←hsc] at z
  exact z)
 rw[eval_ListComp]
 refine wpAny_comprehension_free (use:=none) rfl hs hcl ok.kind ok.loc (thn (hi pins s σ H _ I h) λv s1 h1=>thn h1 λitv s2 h2=>?_)
 obtain⟨it,fp,tn,J,H2,e,I2,T,st2,f2,q2⟩:=h2
 subst e
 have hlt2:∀b∈fp,b<s2.heap.objs.size:=λb hb=>by
  obtain⟨o,e,_⟩:=T.obj _ _ st2 b hb
  exact V0 e
 refine D2 ?_
 have hl:H2 s2.heap.objs.size=none:=I2.hok.fresh (P0 _)
 have I3:Inv X pins σ (upd H2 s2.heap.objs.size (.lst [])) {s2 with heap:=s2.heap.push {cls:= .type "list",dict:=none,data:= .seq ([]:List Value).toArray}}:=
  I2.laid (t':=s2.toks) (λb u e=>G0 _ e) (P0 _) ⟨W1 _,[],0, .nil,O0 _ rfl⟩
 obtain⟨W,⟨m0,w0⟩,turn⟩:=q2 _ hl
 generalize hl2:s2.heap.objs.size=l at *
 generalize hs3:({s2 with heap:=s2.heap.push {cls:= .type "list",dict:=none,data:= .seq ([]:List Value).toArray}}:Shared)=s3 at *
 have f3:∀b∈fp,zec X pins (upd H2 l (.lst [])) b:=λb hb=>⟨by rw[zd (P1 (hlt2 b hb))];exact(f2 b hb).1,(f2 b hb).2⟩
 have k3:∀b o,s2.heap.get? b=some o->s3.heap.get? b=some o:=λb o e=>by rw[←hs3];exact G0 _ e
 have hlt3:∀b∈fp,b<s3.heap.objs.size:=λb hb=>by
  obtain⟨o,e,_⟩:=T.obj _ _ st2 b hb
  exact V0 (k3 b o e)
 refine wpAny_newFunctionEnv ok.nocell (by intro y hy;simp at hy) (λh₁ hns₁ hsb₁=>?_) ok.kind
 have k4:∀b o,s3.heap.get? b=some o->h₁.get? b=some o:=λb o e=>(hsb₁.2 b (P1 (V0 e))).trans (G0 _ e)
 have J0:=zd2 (tk:=s3.toks+([]:List (Str×Value)).length) I3 f3 hlt3 ok hsc c1 c2 hns₁ k4
 have st4:tn 0 h₁:=T.keep _ _ _ st2 λb hb o e=>k4 b o (k3 b o e)
 generalize hC:s3.heap.objs.size=C at *
 have stat:∀{H':Hp},(∀b∈fp,H' b=none)->∀b∈fp,zec (zw X N' scope cl C s3 (upd H2 l (.lst [])) fp) [] H' b:=λ{H'} hn b hb=>
  ⟨hn b hb,(J0.ok.exf b hb).1,J0.ok.exfs b hb, .inl hb,(J0.ok.exf b hb).2,λp hp=>absurd (show p∈([]:List (Addr×Obj))from hp) `Z3⟩
 have loop:codeAny (model X.prog X.w) X.A (.compLoop (.ListComp elt [⟨tg,iter,ifs,0⟩] scope pos) 0 (.ref it) (.ref l) (compEnvC scope cl C X.env))
  (compPost (model X.prog X.w) X.A X.xe none (EP X pins σ Q) (.ref l) C) {s3 with heap:=h₁,toks:=s3.toks+([]:List (Str×Value)).length}:=by
  refine zey (λn s'=>∃i ys σ' H',Inv (zw X N' scope cl C s3 (upd H2 l (.lst [])) fp) [] σ' H' s'/\tn i s'.heap/\(∀b∈fp,H' b=none)/\H' l=some (.lst ys)/\W i n ys σ' H') ?_ m0
   ⟨0,[],_,_,J0,st4,λb hb=>(f3 b hb).1,zb,w0⟩
  rintro n s5 ⟨i,ys,σ5,H5,I5,st5,fr5,hl5,w5⟩
  rcases turn i n ys σ5 H5 w5 hl5 with⟨stop,qn⟩|⟨go,N,hN,step⟩
  ·refine thn (T.done (zw X N' scope cl C s3 (upd H2 l (.lst [])) fp) rfl rfl rfl hc i [] s5 σ5 H5 (λ_ _=>False) I5 (stat fr5) st5 stop) λr s6 ⟨hr,I6⟩=>?_
   subst hr
   obtain⟨m,hn,_⟩:=I6.loc
   exact⟨m,hn,λh' hsb=>⟨.ref l,H5,zei I3 f3 (by rw[←hC];exact P0 _) I6 hsb,rfl,qn⟩⟩
  ·refine thn (T.item (zw X N' scope cl C s3 (upd H2 l (.lst [])) fp) rfl rfl rfl hc i [] s5 σ5 H5 (λ_ _=>False) I5 (stat fr5) st5 go) λr s6 ⟨u,hr,h6⟩=>?_
   subst hr
   refine thn h6 λ_ s7 zq=>?_
   obtain⟨x,H7,I7,r7,y7,st7,fr7⟩:=zq
   have I7':=I7.pinned (stat fr7) (T.obj _ _ st7)
   refine thn (hg cl C s3 _ fp _ s7 σ5 H7 x u _ I7' r7 (step x H7 y7)) λ_ s8 zq=>?_
   obtain⟨σ8,H8,I8,q8⟩:=zq
   refine thn (ht cl C s3 _ fp _ s8 σ8 H8 _ I8 q8) λb s9 zq=>?_
   obtain⟨H9,I9,q9⟩:=zq
   have back:∀{s':Shared} {H':Hp},Inv (zw X N' scope cl C s3 (upd H2 l (.lst [])) fp) ([]++zd9 fp s7.heap) σ8 H' s'->tn (i+1) s'.heap/\∀b∈fp,H' b=none:=λ{s' H'} I'=>by
    refine⟨T.keep _ _ _ st7 λb hb o e=>(I'.pin (b,o) (N1 _ (N1 _ (zal hb e)))).1,λb hb=>?_⟩
    obtain⟨o,e,d⟩:=T.obj _ _ st7 b hb
    exact(I'.pin (b,o) (N1 _ (N1 _ (zal hb e)))).2.1
   cases b with
   |false=>
    obtain⟨hl9,n9⟩:=q9
    obtain⟨m',hm,w9⟩:=hN _ _ _ n9
    obtain⟨t9,fr9⟩:=back I9
    exact⟨m',hm,i+1,ys,σ8,H9,I9.unpinned,t9,fr9,hl9,w9⟩
   |true=>
    refine thn (he cl C s3 _ fp _ s9 σ8 H9 _ I9 q9) λxv s10 zq=>?_
    obtain⟨y,H10,I10,r10,hl10,hz,n10⟩:=zq
    obtain⟨m',hm,w10⟩:=hN _ _ _ n10
    refine thn (zba (X:=zw X N' scope cl C s3 (upd H2 l (.lst [])) fp) _ s10 σ8 H10 (.ref l) [y] (.ref l) [xv] (λv H'=>H'=upd H10 l (.lst (ys ++ [y]))) I10 rfl (.cons r10 .nil) ⟨l,ys,y,rfl,rfl,hl10,hz,rfl⟩) λ_ s11 ⟨_,H11,I11,_,e11⟩=>?_
    subst e11
    obtain⟨t11,fr11⟩:=back I11
    exact⟨m',hm,i+1,ys ++ [y],σ8,_,I11.unpinned,t11,fr11,zb,w10⟩
 exact codeAny_compStart_list loop (T.self _ 0 _ _ _ st4 loop)
end
section
variable[DecidableEq κ]
noncomputable def zaA(kvs:List (κ×V))(k:κ):Option V:=(kvs.find? λkv=>decide (kv.1=k)).map (·.2)
noncomputable def zah(kvs:List (κ×V))(k:κ)(v:V):List (κ×V):=
 if(kvs.any λkv=>decide (kv.1=k))=true then kvs.map (λkv=>if kv.1=k then(kv.1,v)else kv)else kvs ++ [(k,v)]
theorem zdd{p:κ×V}{r:List (κ×V)}{k:κ}(e:p.1=k):zaA (p::r) k=some p.2:=by simp[zaA,List.find?_cons,e]
theorem zbk{p:κ×V}{r:List (κ×V)}{k:κ}(e:¬p.1=k):zaA (p::r) k=zaA r k:=by simp[zaA,List.find?_cons,e]
theorem zeJ(k:κ):∀kvs:List (κ×V),(kvs.any λkv=>decide (kv.1=k))=(zaA kvs k).isSome
 |[]=>rfl
 |p::r=>by
  rw[List.any_cons]
  by_cases e:p.1=k
  ·simp only[zdd e,Y0 e,Bool.true_or,Option.isSome_some]
  ·rw[zbk e,E1 e,Bool.false_or];exact zeJ k r
theorem zdk(kvs:List (κ×V))(k:κ)(v:V):(zah kvs k v).length<=kvs.length+1:=by
 unfold zah
 split
 ·rw[D0];lia
 ·rw[F1,J1,List.length_nil];lia
theorem zes{kvs:List (κ×V)}{k:κ}(v:V)(h:zaA kvs k=none):zah kvs k v=kvs ++ [(k,v)]:=by
 unfold zah
 rw[zeJ,h]
 exact N0 ⋯
theorem RelO.isSome_eq{o:Option V}{u:Option Value}(r:RelO o u):o.isSome=u.isSome:=by
 cases o with
 |none=>cases u with
  |none=>rfl
  |some _=>exact (show False from r).elim
 |some _=>cases u with
  |none=>exact (show False from r).elim
  |some _=>rfl
theorem RelO.getD{o:Option V}{u:Option Value}{d:V}{d':Value}(r:RelO o u)(rd:RelV d d'):RelV (o.getD d) (u.getD d'):=by
 cases o with
 |none=>cases u with
  |none=>exact rd
  |some _=>exact (show False from r).elim
 |some _=>cases u with
  |none=>exact (show False from r).elim
  |some _=>exact r
theorem KV.val{kvs:List (κ×V)}{vs:List (κ×Value)}(r:KV kvs vs)(k:κ):RelO (zaA kvs k) (valueAt vs k):=by
 unfold KV at r
 induction r with
 |nil=>exact True.intro
 | @cons p q ps qs h t ih=>
   obtain⟨h1,h2⟩:=h
   by_cases e:p.1=k
   ·have e':q.1=k:=h1.symm.trans e
    have b:valueAt (q::qs) k=some q.2:=by simp[valueAt,List.find?_cons,e']
    rw[zdd e,b];exact h2
   ·have e':¬q.1=k:=λz=>e (h1.trans z)
    have b:valueAt (q::qs) k=valueAt qs k:=by simp[valueAt,List.find?_cons,e']
    rw[zbk e,b];exact ih
theorem KV.any{kvs:List (κ×V)}{vs:List (κ×Value)}(r:KV kvs vs)(k:κ):(kvs.any λkv=>decide (kv.1=k))=vs.any λkv=>decide (kv.1=k):=by
 unfold KV at r
 induction r with
 |nil=>rfl
 |cons h t ih=>rw[List.any_cons,List.any_cons,ih,h.1]
theorem KV.repl{kvs:List (κ×V)}{vs:List (κ×Value)}(r:KV kvs vs)(k:κ){y:V}(ry:RelV y u):
 KV (kvs.map λkv=>if kv.1=k then(kv.1,y)else kv) (vs.map λkv=>if kv.1=k then(kv.1,u)else kv):=by
 unfold KV at r⊢
 induction r with
 |nil=>exact .nil
 | @cons p q ps qs h t ih=>
   rw[Z1,Z1]
   refine .cons ?_ ih
   obtain⟨h1,h2⟩:=h
   by_cases e:p.1=k
   ·rw[R0 e,R0 (h1.symm.trans e)];exact⟨h1,ry⟩
   ·rw[N0 e,N0 (λz=>e (h1.trans z))];exact⟨h1,h2⟩
theorem KV.put{kvs:List (κ×V)}{vs:List (κ×Value)}(r:KV kvs vs)(k:κ){y:V}(ry:RelV y u):KV (zah kvs k y) (stored vs k u):=by
 unfold zah stored
 rw[r.any k]
 by_cases e:(vs.any λkv=>decide (kv.1=k))=true
 ·rw[R0 e,R0 e];exact r.repl k ry
 ·rw[N0 e,N0 e];exact Paired.snoc r ⟨rfl,ry⟩
theorem KV.length{kvs:List (κ×V)}{vs:List (κ×Value)}(r:KV kvs vs):kvs.length=vs.length:=Paired.length r
end
theorem zjV{k:Key}(r:RelV (kV k) u):(zS P w).is k u=true:=by
 cases k with
 |inl i=>obtain ⟨t,e⟩:=(show∃t,u=Value.int i t from r);subst e;exact zjF P w i t
 |inr x=>obtain ⟨t,e⟩:=(show∃t,u=Value.str x t from r);subst e;exact zjW P w x t
theorem zhy{P:Program}{w:World}:∀{ks:List Key} {us:List Value},Vals (ks.map kV) us->ItemsAre (zS P w) ks us
 |[],_,r=>by rw[List.map_nil] at r;cases r;exact .nil
 |k::ks,_,r=>by
  rw[Z1] at r
  cases r with
  |cons h t=>exact .cons (zjV h) (zhy t)
abbrev KT(H:Hp):List (List Key×V)->List (List Key×Addr×Value)->Prop:=Paired λp q=>p.1=q.1/\H q.2.1=some (.tup (p.1.map kV))/\RelV p.2 q.2.2
theorem KT.val{kvs:List (List Key×V)}{xs:List (List Key×Addr×Value)}(r:KT H kvs xs)(k:List Key):RelO (zaA kvs k) ((atKey xs k).map (·.2)):=by
 induction r with
 |nil=>exact True.intro
 | @cons p q ps qs h t ih=>
   obtain⟨h1,_,h2⟩:=h
   by_cases e:p.1=k
   ·have e':q.1=k:=h1.symm.trans e
    have b:atKey (q::qs) k=some q.2:=by simp[atKey,List.find?_cons,e']
    rw[zdd e,b];exact h2
   ·have e':¬q.1=k:=λz=>e (h1.trans z)
    have b:atKey (q::qs) k=atKey qs k:=by simp[atKey,List.find?_cons,e']
    rw[zbk e,b];exact ih
theorem KT.repl{kvs:List (List Key×V)}{xs:List (List Key×Addr×Value)}(r:KT H kvs xs)(k:List Key){y:V}(ry:RelV y u):
 KT H (kvs.map λkv=>if kv.1=k then(kv.1,y)else kv) (xs.map (putAt k u)):=by
 induction r with
 |nil=>exact .nil
 | @cons p q ps qs h t ih=>
   rw[Z1,Z1]
   refine .cons ?_ ih
   obtain⟨h1,h2,h3⟩:=h
   unfold putAt
   by_cases e:p.1=k
   ·rw[R0 e,R0 (h1.symm.trans e)];exact⟨h1,h2,ry⟩
   ·rw[N0 e,N0 (λz=>e (h1.trans z))];exact⟨h1,h2,h3⟩
theorem KT.put{kvs:List (List Key×V)}{xs:List (List Key×Addr×Value)}(r:KT H kvs xs)(k:List Key){b:Addr}{y:V}(hb:H b=some (.tup (k.map kV)))(ry:RelV y u):
 KT H (zah kvs k y) (storedH xs k b u):=by
 have e:(kvs.any λkv=>decide (kv.1=k))=(atKey xs k).isSome:=by
  rw[zeJ,(r.val k).isSome_eq,Option.isSome_map]
 unfold zah storedH
 rw[e]
 by_cases q:(atKey xs k).isSome=true
 ·rw[R0 q,R0 q];exact r.repl k ry
 ·rw[N0 q,N0 q];exact Paired.snoc r ⟨rfl,hb,ry⟩
theorem KT.keeps{kvs:List (List Key×V)}{xs:List (List Key×Addr×Value)}(r:KT H kvs xs)(ht:∀b ys,H b=some (.tup ys)->H' b=some (.tup ys)):KT H' kvs xs:=
 Paired.mapP r λ_ _ z=>⟨z.1,ht _ _ z.2.1,z.2.2⟩
section
variable{h:Heap}
theorem zqM{u:HO}(ok:HOk P w H h)(e:Rd H a u):ObjOk P w H h a u:=e.ok ok
theorem zjj(ok:HOk P w H h)(e:Rd H a (.dK kvs)):kvs.length<=sizeLine/\(a==sysModules)=false/\∃vs,KV kvs vs/\h.DictOf (zS P w) a vs:=
 show ObjOk P w H h a (.dK kvs)from zqM ok e
theorem zht(ok:HOk P w H h)(e:H a=some (.dK kvs)):kvs.length<=sizeLine/\(a==sysModules)=false/\∃vs,KV kvs vs/\h.DictOf (zS P w) a vs:=zjj ok (.inl e)
theorem zh0{ks:List Key}(ok:HOk P w H h)(e:H a=some (.tup (ks.map kV))):(tupleKind (zS P w)).is h ks a:=by
 obtain⟨_,its,r,⟨o,h1,h2,n,h3⟩,_⟩:=(show ObjOk P w H h a (.tup (ks.map kV))from ok a _ e)
 exact⟨o,its.toArray,n,h1,h2,h3,by simpa using zhy r⟩
theorem zjA{kvs:List (List Key×V)}(ok:HOk P w H h)(e:Rd H a (.dT kvs)):kvs.length<=sizeLine/\(a==sysModules)=false/\
 ∃xs,KT H kvs xs/\h.DictOfH (tupleKind (zS P w)) a xs:=by
 obtain⟨z,y,xs,r,o,es,ep,h1,h2,h3,h4,h5⟩:=(show ObjOk P w H h a (.dT kvs)from zqM ok e)
 refine⟨z,y,xs,r,o,es,ep,h1,h2,h3,h4,λx hx=>?_,h5⟩
 have all:∀{l:List (List Key×V)} {m:List (List Key×Addr×Value)},KT H l m->∀x∈m,(tupleKind (zS P w)).is h x.1 x.2.1:=by
  intro l m q
  induction q with
  |nil=>intro x hx;exact nomatch hx
  | @cons p q ps qs hq t ih=>
    intro x hx
    rcases X0.mp hx with e|hx
    ·subst e
     exact zh0 ok (by rw[←hq.1];exact hq.2.1)
    ·exact ih x hx
 exact all r x hx
theorem zsr{kvs:List (List Key×V)}(ok:HOk P w H h)(e:H a=some (.dT kvs)):kvs.length<=sizeLine/\(a==sysModules)=false/\
 ∃xs,KT H kvs xs/\h.DictOfH (tupleKind (zS P w)) a xs:=zjA ok (.inl e)
end
def DGet(H:Hp)(a:Addr)(y:V)(r:Option V):Prop:=
 (∃kvs k,Rd H a (.dK kvs)/\y=kV k/\r=zaA kvs k)\/∃kvs k b,Rd H a (.dT kvs)/\y= .ref b/\H b=some (.tup (k.map kV))/\r=zaA kvs k
def DPut(H:Hp)(a:Addr)(y v:V)(H':Hp):Prop:=
 (∃kvs k,H a=some (.dK kvs)/\y=kV k/\kvs.length<sizeLine/\H'=upd H a (.dK (zah kvs k v)))\/
 ∃kvs k b,H a=some (.dT kvs)/\y= .ref b/\H b=some (.tup (k.map kV))/\kvs.length<sizeLine/\H'=upd H a (.dT (zah kvs k v))
theorem DGet.k{H:Hp}{a:Addr}{kvs:List (Key×V)}{k:Key}(e:H a=some (.dK kvs)):DGet H a (kV k) (zaA kvs k):= .inl ⟨kvs,k, .inl e,rfl,rfl⟩
theorem DPut.t{b:Addr}{kvs:List (List Key×V)}{k:List Key}(e:H a=some (.dT kvs))(eb:H b=some (.tup (k.map kV)))(hl:kvs.length<sizeLine):
 DPut H a (.ref b) v (upd H a (.dT (zah kvs k v))):= .inr ⟨kvs,k,b,e,rfl,eb,hl,rfl⟩
variable{t:List Str}
section
variable{y:V}{r:Value}{o:Option V}
theorem Inv.big(I:Inv X pins σ H s):sysModules<s.heap.objs.size:=by
 have h:mainGlobals<s.heap.objs.size:=(I.mod.glob.keeps I.bk).lt
 exact Nat.lt_trans ⋯ h
theorem zmi(hu:A.units+1<cLine)(I:Inv X pins σ H s)(g:DGet H a y (some v))(ry:RelV y u)(h:∀w' s',Inv X pins σ H s'->RelV v w'->Q w' s'):
 wpAny (model X.prog X.w) A (getItem (.ref a) u) Q E s:=by
 rcases g with⟨kvs,k,e,ey,l⟩|⟨kvs,k,b,e,ey,eb,l⟩
 ·subst ey
  obtain⟨z,hd,vs,rel,dd⟩:=zjj I.hok e
  obtain⟨w',hw,rw'⟩:=RelO.some_of (v:=v) (o:=valueAt vs k) (by rw[l];exact rel.val k)
  exact wpAny_getItem_of (zjV ry) dd.mapOf hw (h w' _ (I.tok _) rw')
 ·subst ey
  cases(show u=Value.ref b from ry)
  obtain⟨z,hd,xs,rel,dd⟩:=zjA I.hok e
  obtain⟨w',hw,rw'⟩:=RelO.some_of (v:=v) (o:=(atKey xs k).map (·.2)) (by rw[l];exact rel.val k)
  obtain⟨p,hp,hp2⟩:=Option.map_eq_some_iff.mp hw
  refine wpAny_getItem_heap (tupleKind_room_in1 hu) (zh0 I.hok eb) dd hp ?_
  rw[hp2]
  exact h w' _ (I.tok _) rw'
theorem ziL{ob:HO}(I:Inv X pins σ H s)(mu:Mut (H a))(hs:Heap.SameBut a s.heap h')(he:∃q,h'.get? a=some q)(new:ObjOk X.prog X.w (upd H a ob) h' a ob):
 Inv X pins σ (upd H a ob) {s with heap:=h',toks:=t'}:=
 I.write (x:=a) (e:=a) mu (.inl rfl) (λb q hb z=>(hs.2 b hb).trans z) he new
theorem zof{vs:List (Key×Value)}(z:kvs.length<=sizeLine)(hd:(a==sysModules)=false)(rel:KV kvs vs)(dd:h'.DictOf (zS P w) a vs):
 ObjOk P w H' h' a (.dK kvs):=⟨z,hd,vs,rel,dd⟩
theorem zmQ{Q:Unit->Shared->Prop}(hu:A.units+1<cLine)(I:Inv X pins σ H s)(g:DPut H a y v H')(ry:RelV y u)(rv:RelV v r)(h:∀s',Inv X pins σ H' s'->Q Unit.unit s'):
 wpAny (model X.prog X.w) A (setItem (.ref a) u r) Q E s:=by
 rcases g with⟨kvs,k,e,ey,l,eH⟩|⟨kvs,k,b,e,ey,eb,l,eH⟩
 ·subst ey eH
  obtain⟨z,hd,vs,rel,dd⟩:=zht I.hok e
  have hz:vs.length<=sizeLine:=by rw[←rel.length];exact z
  have hl:(zah kvs k v).length<=sizeLine:=by have:=zdk kvs k v;lia
  refine wpAny_setItem_pairs (hsz:=hz) (zjV ry) dd λh' dd' hs=>h _ ?_
  have he:∃q,h'.get? a=some q:=let⟨q,_,_,hq,_⟩:=dd';⟨q,hq⟩
  exact ziL I (by rw[e];exact True.intro) hs he (zof hl hd (rel.put k rv) dd')
 ·subst ey eH
  cases(show u=Value.ref b from ry)
  obtain⟨z,hd,xs,rel,dd⟩:=zsr I.hok e
  have hz:xs.length<=sizeLine:=by rw[←Paired.length rel];exact z
  have hl:(zah kvs k v).length<=sizeLine:=by have:=zdk kvs k v;lia
  refine wpAny_setItem_heap (hsz:=hz) (tupleKind_room_in1 hu) (zh0 I.hok eb) dd λh' dd' hs=>h _ ?_
  obtain⟨q,es,ep,hq,h2,h3,h4,_,h5⟩:=dd'
  refine ziL I (by rw[e];exact True.intro) hs ⟨q,hq⟩ ⟨hl,hd,_,(rel.put k eb rv).keeps λc ys ec=>?_,q,es,ep,hq,h2,h3,h4,h5⟩
  rw[zd (zy ec e (λz=>nomatch z))]
  exact ec
end
section
variable{k:Key}
end
def zrp(i:Expr):Prop:=∀ov iv,subscripted i false ov iv=operate [ov,iv] (getItem ov iv)
theorem zpn{slice:Expr}{T id:String}
 (hl:typeLookup (.type T) "__getitem__"=pure (some (.builtin id))) (hs:zrp slice)
 (h:wpAny `V3 A (eval value env) (λo s₁=>wpAny `V3 A (eval slice env) (λi s₂=>s₂.TypeIs o T/\wpAny `V3 A (getItem o i) Q E s₂) E s₁) E s):
 wpAny `V3 A (eval (.Subscript value slice pos) env) Q E s:=by
 refine Subscript_ (W2 h (λo s₁ h₁=>W2 h₁ (λi s₂ h₂=>?_) λ_ _ x=>x) λ_ _ x=>x)
 obtain⟨hT,h₂⟩:=h₂
 unfold subscriptTail
 refine C0 ?_
 rw[getitemInPython_of_ne hT.not_modules]
 refine C0 (wpAny_specialOf hT hl ?_)
 have fin:wpAny `V3 A (subscripted slice false o i) (λr s₃=>wpAny `V3 A (letTemporaryGo value o r>>=λ_=>pure r) Q E s₃) E s₂:=by
  rw[hs o i]
  exact wpAny_operating (W2 h₂ (λr s₃ h₃=>C0 (wpAny_letTemporaryGo (K0 h₃))) λ_ _ x=>x)
 first
  |exact K0 (C0 fin)
  |exact C0 (K0 (C0 fin))
  |exact C0 fin
theorem zjU{y:V}{o:Option V}(I:Inv X pins σ H s)(g:DGet H a y o):s.TypeIs (.ref a) "dict":=by
 rcases g with⟨kvs,k,e,_,_⟩|⟨kvs,k,b,e,_,_,_⟩
 ·obtain ⟨_,_,vs,_,dd⟩:=zjj I.hok e
  exact dd.typeIs
 ·obtain ⟨_,_,xs,_,dd⟩:=zjA I.hok e
  exact dd.typeIs
noncomputable def zq8(td ty:TE):TE:=λσ H Q=>td σ H λx H1=>ty σ H1 λy H2=>∃a v,x= .ref a/\DGet H2 a y (some v)/\Q v H2
noncomputable def zqQ(td ty tv:TE):TS:=λD σ H=>tv σ H λv H1=>td σ H1 λx H2=>ty σ H2 λy H3=>∃a H4,x= .ref a/\DPut H3 a y v H4/\D.nx σ H4
section
variable{o i e:Expr}{td ty:TE}
theorem zpd(hu:X.A.units+1<cLine)(ho:PE X o td)(hi:PE X i ty)(hs:zrp i):PE X (.Subscript o i pos) (zq8 td ty):=by
 intro pins s σ H Q I h
 refine zpn F.slot_dict_getitem.lookup hs (thn (ho pins s σ H _ I h) λu s1 zq=>?_)
 obtain⟨x,H1,I1,rx,q1⟩:=zq
 refine thn (hi pins s1 σ H1 _ I1 q1) λiv s2 zq1=>?_
 obtain⟨y,H2,I2,ry,a,v,ex,g,q2⟩:=zq1
 subst ex
 obtain rfl:u=Value.ref a:=rx
 exact⟨zjU I2 g,zmi hu I2 g ry λw' s3 I3 rw'=>⟨v,H2,I3,rw',q2⟩⟩
theorem zqi(hu:X.A.units+1<cLine)(ho:PE X o td)(hi:PE X i ty)(hv:PE X value tv)(hs:swapsWith value (some (.Subscript o i pos')) pos.line X.env=pure false):
 PS X (.Assign [.Subscript o i pos'] value pos) (zqQ td ty tv):=by
 intro pins s σ H D I h
 refine wpAny_Assign_Subscript (thn (hv pins s σ H _ I h) λr s1 zq=>?_) hs
 obtain⟨v,H1,I1,rv,q1⟩:=zq
 refine thn (ho pins s1 σ H1 _ I1 q1) λu s2 zq1=>?_
 obtain⟨x,H2,I2,rx,q2⟩:=zq1
 refine thn (hi pins s2 σ H2 _ I2 q2) λiv s3 zq2=>?_
 obtain⟨y,H3,I3,ry,a,H4,ex,g,q3⟩:=zq2
 subst ex
 obtain rfl:u=Value.ref a:=rx
 exact zmQ hu I3 g ry rv λs4 I4=>⟨σ,H4,I4,q3⟩
end
theorem ziQ(h:Heap)(hb:sysModules<h.objs.size):ObjOk P w H (h.push {cls:= .type "dict",data:= .dict #[]}) h.objs.size (.dK []):=
 ⟨W1 _,beq_eq_false_iff_ne.mpr (Ne.symm (P1 hb)),[], .nil,Heap.DictOf.new h⟩
theorem znS(h:Heap)(hb:sysModules<h.objs.size):ObjOk P w H (h.push {cls:= .type "dict",data:= .dict #[]}) h.objs.size (.dT []):=
 ⟨W1 _,beq_eq_false_iff_ne.mpr (Ne.symm (P1 hb)),[], .nil,_, #[],0,O0 _ rfl,⟨rfl,rfl,rfl⟩,rfl,rfl,List.nodup_nil⟩
noncomputable def zoe:TE:=λ_ H Q=>∀p,H p=none->Q (.ref p) (upd H p (.dK []))
noncomputable def zob:TE:=λ_ H Q=>∀p,H p=none->Q (.ref p) (upd H p (.dT []))
theorem zni:PE X (.Dict [] [] pos) zoe:=λpins s σ H Q I h=>
 wpAny_Dict_empty ⟨.ref s.heap.objs.size,_,I.laid (a:=s.heap.objs.size) (o:= .dK []) (t':=s.toks) (λ_ _ q=>G0 _ q) (P0 _) (ziQ s.heap I.big),rfl,h _ (I.hok.fresh (P0 _))⟩
theorem zoh:PE X (.Dict [] [] pos) zob:=λpins s σ H Q I h=>
 wpAny_Dict_empty ⟨.ref s.heap.objs.size,_,I.laid (a:=s.heap.objs.size) (o:= .dT []) (t':=s.toks) (λ_ _ q=>G0 _ q) (P0 _) (znS s.heap I.big),rfl,h _ (I.hok.fresh (P0 _))⟩
def zm4:List (TE×TE)->St->Hp->(List (V×V)->Hp->Prop)->Prop
 |[],_,H,Q=>Q [] H
 |(tk,tv)::r,σ,H,Q=>tk σ H λx H1=>tv σ H1 λy H2=>zm4 r σ H2 λps H3=>Q ((x,y)::ps) H3
abbrev VV:List (V×V)->List (Value×Value)->Prop:=Paired λp q=>RelV p.1 q.1/\RelV p.2 q.2
def PPs(X:Cx)(pos:Pos)(keys:List (Option Expr))(values:List Expr)(trs:List (TE×TE)):Prop:=
 ∀(pins:List (Addr×Obj)) (s:Shared) (σ:St) (H:Hp) (Q:List (V×V)->Hp->Prop),Inv X pins σ H s->zm4 trs σ H Q->
  wpAny (model X.prog X.w) X.A (evalPairs (pairTrees keys values X.env pos)) (λvs s'=>∃ps H',Inv X pins σ H' s'/\VV ps vs/\Q ps H') X.xe s
structure M1(X:Cx)(o:Expr)(m:Str)(apos:Pos)(e:Expr)(cpos:Pos):Prop where
 base:attributeBase o m X.env (eval o X.env)=eval o X.env
 few:((backTo cpos (starEach [e] X.env)).all (λx=>!x.1)&&(backToKw cpos (keywordEach [] X.env)).all (λx=>x.1.isSome)
  &&decide (([e]:List Expr).length+([]:List Keyword).length+(if([]:List Keyword).isEmpty then 0 else 1)<30))=true
 line:(apos.endLine==cpos.line)=true
 trees:backTo cpos (starEach [e] X.env)=[(false,eval e X.env)]
structure M2(X:Cx)(o:Expr)(m:Str)(apos:Pos)(e f:Expr)(cpos:Pos):Prop where
 base:attributeBase o m X.env (eval o X.env)=eval o X.env
 few:((backTo cpos (starEach [e,f] X.env)).all (λx=>!x.1)&&(backToKw cpos (keywordEach [] X.env)).all (λx=>x.1.isSome)
  &&decide (([e,f]:List Expr).length+([]:List Keyword).length+(if([]:List Keyword).isEmpty then 0 else 1)<30))=true
 line:(apos.endLine==cpos.line)=true
 trees:backTo cpos (starEach [e,f] X.env)=[(false,eval e X.env),(false,eval f X.env)]
variable{base:Heap}
def IsD(H:Hp)(a:Addr):Prop:=(∃kvs,Rd H a (.dK kvs))\/∃kvs,Rd H a (.dT kvs)
theorem zsa(I:Inv X pins σ H s)(d:IsD H a):
 s.TypeIs (.ref a) "dict"/\(∀b,Value.ref a= .ref b->∃ob,s.heap.get? b=some ob/\ob.dict=none)/\(a==sysModules)=false:=by
 rcases d with⟨kvs,e⟩|⟨kvs,e⟩
 ·obtain ⟨_,hd,vs,_,dd⟩:=zjj I.hok e
  refine⟨dd.typeIs,λb q=>?_,hd⟩
  cases q
  obtain⟨ob,_,_,h1,h2,_⟩:=dd
  exact⟨ob,h1,h2.2.1⟩
 ·obtain ⟨_,hd,xs,_,dd⟩:=zjA I.hok e
  refine⟨dd.typeIs,λb q=>?_,hd⟩
  cases q
  obtain⟨ob,_,_,h1,h2,_⟩:=dd
  exact⟨ob,h1,h2.2.1⟩
section
variable{y d:V}{r:Value}{o:Option V}
theorem zrB(hu:A.units+1<cLine)(I:Inv X pins σ H s)(g:DGet H a y o)(ry:RelV y u)(rd:RelV d r)(h:∀w' s',Inv X pins σ H s'->RelV (o.getD d) w'->Q w' s'):
 wpAny (model X.prog X.w) A (call (.builtin "dict.get") [.ref a,u,r]) Q E s:=by
 rcases g with⟨kvs,k,e,ey,l⟩|⟨kvs,k,b,e,ey,eb,l⟩
 ·subst ey
  obtain⟨z,hd,vs,rel,dd⟩:=zjj I.hok e
  refine call_meetsIn F.slot_dict_get dd.typeIs F.entry_dict_get (F.args_dict_get_3 _ _ _) (meets_dict_get_default (zS X.prog X.w) a (zjV ry) hd r) ⟨_,dd.mapOf,h _ _ (I.tok _) ?_⟩
  rw[l]
  exact(rel.val k).getD rd
 ·subst ey
  cases(show u=Value.ref b from ry)
  obtain⟨z,hd,xs,rel,dd⟩:=zjA I.hok e
  refine call_meetsIn F.slot_dict_get dd.typeIs F.entry_dict_get (F.args_dict_get_3 _ _ _) (meetsH_dict_get_default (tupleKind (zS X.prog X.w)) a b hd r) ⟨tupleKind_room_in1 hu,k,xs,zh0 I.hok eb,dd,h _ _ (I.tok _) ?_⟩
  rw[l]
  exact(rel.val k).getD rd
end
noncomputable def znT(td ty tx:TE):TE:=λσ H Q=>td σ H λx H1=>∃a,x= .ref a/\IsD H1 a/\ty σ H1 λy H2=>tx σ H2 λz H3=>∃o,DGet H3 a y o/\Q (o.getD z) H3
section
variable{o e f:Expr}{td ty:TE}
theorem zo7(hu:X.A.units+1<cLine)(ho:PE X o td)(he:PE X e ty)(hf:PE X f tx)(m:M2 X o "get" apos e f cpos):PE X (.Call (.Attribute o "get" apos) [e,f] [] cpos) (znT td ty tx):=by
 intro pins s σ H Q I h
 refine wpAny_Call_method m.base m.few m.line F.plainAttrs_dict F.slot_dict_get F.type_dict_get (thn (ho pins s σ H _ I h) λu s1 zq=>?_)
 obtain⟨x,H1,I1,rx,a,ex,d,q1⟩:=zq
 subst ex
 obtain rfl:u=Value.ref a:=rx
 obtain⟨t1,t2,_⟩:=zsa I1 d
 refine⟨t1,t2,?_⟩
 rw[m.trees]
 refine Calls.callWith_builtin rfl (Calls.evalArgs_plain (Calls.spliced_cons (thn (he pins s1 σ H1 _ I1 q1) λiv s2 ⟨y,H2,I2,ry,q2⟩=>
  Calls.spliced_cons (thn (hf pins s2 σ H2 _ I2 q2) λfv s3 ⟨z,H3,I3,rz,ov,g,q3⟩=>Calls.spliced_nil ?_))))
 exact zrB hu I3 g ry rz λw' s4 I4 rw'=>⟨_,H3,I4,rw',q3⟩
end
section
variable{y:V}
end
theorem zlk:∀{bs:List Bool} {us:List Value} {i:Nat} {v:Value},Vals (bs.map V.bl) us->us[i]?=some v->∃b,bs[i]?=some b/\v= .bool b
 |[],_,_,_, .nil,e=>by simp at e
 |b::bs,_,0,v, .cons r _,e=>by
  simp at e
  subst e
  exact⟨b,rfl,r⟩
 |b::bs,_,i+1,v, .cons _ t,e=>by
  obtain⟨c,h1,h2⟩:=zlk (i:=i) t (by simpa using e)
  exact⟨c,by simpa using h1,h2⟩
noncomputable def atB(bs:List Bool)(j:Nat):Bool:=match bs[j]? with|some b=>b|none=>true
theorem ziy(bs:List Bool):(List.range bs.length).all (atB bs)=bs.all id:=by
 refine Eq.trans ?_ (PyProof.Rows.all_rangeD bs (id:Bool->Bool))
 congr 1
 funext j
 unfold atB
 cases bs[j]?<;>rfl
theorem zmg(hc:X.calm=true):CallR X (.builtin "all") (λxs H Q=>∃(p:Addr) (bs:List Bool),xs=[.ref p]/\SqL X.K H p (bs.map V.bl)/\Q (.bl (bs.all id)) H):=by
 intro pins s σ H xs us Q I r h
 obtain⟨p,bs,rfl,hq,q⟩:=h
 obtain⟨u,rfl,ru⟩:=zc5 r
 cases ru
 obtain⟨its,rv,pl,hz⟩:=I.list hq
 have hp:p≠s.heap.objs.size:=P1 pl.lt
 refine call_all_walk (wpAny_pyIter_list pl.isList ?_)
 refine⟨s.heap.objs.size,_,_,_,_,_,atB bs,rfl,Walks.list (A:=X.A.in1) (show X.A.in1.handled=none from I.ok.hd hc) _ p hp its.toArray,⟨⟨_,O0 _ rfl,rfl,rfl⟩,?_⟩,?_,λh' tk hk=>?_⟩
 ·obtain ⟨o,n,e,c,_,d⟩:=pl
  exact⟨o,G0 _ e,c,n,d⟩
 ·intro i v s' Q' E' hP hQ
  obtain⟨b,h1,rfl⟩:=zlk (i:=i) (v:=v) rv (by simpa using hP)
  refine wpAny_truthy_bool ?_
  have e:atB bs i=b:=by unfold atB;rw[h1]
  rw[e] at hQ
  exact hQ
 ·have hl:its.toArray.size=bs.length:=by
   have:=rv.length
   simp at this
   simp[this]
  rw[hl,ziy]
  refine⟨.bl (bs.all id),H,I.kept λb o e=>hk b o ?_ (G0 _ e),rfl,q⟩
  intro z
  have:b=s.heap.objs.size:=by simpa using z
  exact absurd (V0 e) (by rw[this];exact Nat.lt_irrefl _)
theorem za9:∀{ys:List Str} {us:List Value},Vals (ys.map V.str) us->StrsAre us ys
 |[],_, .nil=>by first|exact .nil|trivial
 |y::ys,_, .cons r t=>by
  obtain⟨k,rfl⟩:=r
  first
   |exact .cons _ _ (za9 t)
   |exact .cons (za9 t)
   |exact⟨⟨k,rfl⟩,za9 t⟩
noncomputable def zgi(z:Str)(n:Nat):Str:=⟨(List.replicate n z.cps).foldl (·++·) #[]⟩
theorem zjY:OpR X (binaryOp .Mult) (λx y H Q=>∃z n,x= .str z/\y= .int n/\1<n/\n<=1000/\0<z.length/\z.length<=1000/\Q (.str (zgi z n.toNat)) H):=by
 intro pins s σ H x y v u Q I rx ry h
 obtain⟨z,n,rfl,rfl,h1,h2,h3,h4,q⟩:=h
 obtain⟨t,rfl⟩:=rx
 obtain⟨t',rfl⟩:=ry
 have e1:¬n<1:=()
 have e2:(n==1||z.length==0)=false:=by
  have a:(n==1)=false:=beq_eq_false_iff_ne.mpr ()
  have b:(z.length==0)=false:=beq_eq_false_iff_ne.mpr ()
  rw[a,b];rfl
 have hz:z.length*n.toNat<=1000*1000:=Nat.mul_le_mul h4 ()
 refine P.mul_str ?_ (λ_ _=>?_) (λ_ _=>?_) ?_
 ·have a:decide (n< -(2^63:Int))=false:=E1 ()
  have b:decide (n≥2^63)=false:=E1 ()
  rw[a,b];rfl
 ·have hd:(1000:Int)<=(2^63 -1)/n:=by
   apply Int.le_ediv_of_mul_le ()
   lia
  lia
 ·have hb:z.length*n.toNat<=sizeLine:=V1 hz ⋯
  unfold Builtin.Str.tooLong
  exact E1 ()
 ·rw[N0 e1,e2]
  simp only[B3,if_false]
  refine⟨?_,⟨.str _,H,I.tok _,⟨_,rfl⟩,q⟩⟩
  have key:∀(k:Nat) (acc:Array Nat),((List.replicate k z.cps).foldl (·++·) acc).size=acc.size+k*z.cps.size:=by
   intro k
   induction k with
   |zero=>intro acc;simp
   |succ k ih=>intro acc;rw[List.replicate_succ,List.foldl_cons,ih,Array.size_append,Nat.succ_mul];lia
  have hk:=key n.toNat #[]
  have hz':n.toNat *z.cps.size<=1000*1000:=Nat.mul_le_mul () h4
  have hsl:1000*1000<=sizeLine:=⋯
  show((List.replicate n.toNat z.cps).foldl (·++·) #[]).size<=sizeLine
  rw[hk]
  simp only[Array.size_empty]
  lia
theorem zel:CallR X (.builtin "isinstance") (λxs H Q=>∃x T t b,xs=[x, .ty T]/\TyOf X.K H x t/\W.kitOne X.K t (.type T)=some b/\Q (.bl b) H):=by
 intro pins s σ H xs us Q I r h
 obtain⟨x,T,t,b,rfl,ht,hk,q⟩:=h
 obtain⟨u,w',rfl,ru,rw'⟩:=zhw r
 cases rw'
 exact zmn I ru ht hk λtk=>⟨.bl b,H,I.tok _,rfl,q⟩
theorem zbw:bootBuiltins "len"=some (.builtin "len"):=`Y3
theorem zsb:bootBuiltins "all"=some (.builtin "all"):=`Y3
theorem zac:bootBuiltins "isinstance"=some (.builtin "isinstance"):=`Y3
theorem zoL:bootBuiltins "max"=some (.builtin "max"):=`Y3
theorem ze8:bootBuiltins "min"=some (.builtin "min"):=`Y3
theorem zdJ:bootBuiltins "sorted"=some (.builtin "sorted"):=`Y3
theorem zeT:bootBuiltins "int"=some (.type "int"):=`Y3
theorem zbn:bootBuiltins "tuple"=some (.type "tuple"):=`Y3
theorem zpk:bootBuiltins "list"=some (.type "list"):=`Y3
theorem zk3:bootBuiltins "bool"=some (.type "bool"):=`Y3
theorem few{xs:List α}(h:Nat.ble xs.length 1000=true):xs.length<=sizeLine:=Nat.le_of_lt (zo (Nat.le_of_ble_eq_true h))
noncomputable def zeU:Expr->Option V
 | .Constant (.str x) _ _=>some (.str x)
 | .Constant (.int i) _ _=>some (.int i)
 | .Constant (.bool b) _ _=>some (.bl b)
 | .Constant .none _ _=>some .non
 |_=>none
theorem zn1{e:Expr}(h:zeU e=some v):PE X e (tC v)/\∀es,starEach (e::es) X.env=(false,eval e X.env)::starEach es X.env:=by
 cases e with
 |Constant c j pos=>
  cases c with
  |str x=>cases h;exact⟨zna,λ_=>rfl⟩
  |int x=>cases h;exact⟨zox,λ_=>rfl⟩
  |bool x=>cases h;exact⟨zqL,λ_=>rfl⟩
  |none=>cases h;exact⟨zor,λ_=>rfl⟩
  |_=>cases h
 |_=>cases h
noncomputable def ztr(vs:List V):TA:=λ_ H Q=>Q vs H
theorem zeF:∀{es:List Expr} {vs:List V},es.mapM zeU=some vs->PA X es (ztr vs)
 |[],vs,h=>by
  have e:vs=[]:=by simpa using h.symm
  subst e
  exact zoa
 |e::es,vs,h=>by
  rw[List.mapM_cons] at h
  cases h1:zeU e with
  |none=>rw[h1] at h;cases h
  |some v=>
   rw[h1] at h
   cases h2:es.mapM zeU with
   |none=>rw[h2] at h;cases h
   |some us=>
    rw[h2] at h
    have e1:v::us=vs:=U1 h
    subst e1
    obtain⟨p,st⟩:=zn1 (X:=X) h1
    have q:=zlf p (zeF (es:=es) h2) (st es)
    exact q
noncomputable def zra(vs:List V):TE:=λ_ H Q=>vs.length<=sizeLine/\∀p,H p=none->Q (.ref p) (upd H p (.lst vs))
theorem zpH(vs:List V)(h:es.mapM zeU=some vs):PE X (.List es pos) (zra vs):=znY (zeF h)
structure Wk(J:It)(n:Nat)(P:Nat->V->Prop)(ok:Hp->Prop):Prop where
 stop:∀i H,ok H->n<=i->J.stop i H
 go:∀i H,ok H->i<n->J.go i H
 yld:∀i H x H',ok H->i<n->J.yld i H x H'->H'=H/\P i x
theorem zhS:Wk (Itl K a) xs.length (λi x=>xs[i]?=some x) (λH=>SqL K H a xs) where
 stop:=λi H h l=>⟨xs,h,l⟩
 go:=λi H h l=>⟨xs,xs[i],h,by simp[l]⟩
 yld:=λi H x H' h l y=>⟨y.1,y.2 xs h⟩
theorem zcv:Wk (Itt K a) xs.length (λi x=>xs[i]?=some x) (λH=>SqT K H a xs) where
 stop:=λi H h l=>⟨xs,h,l⟩
 go:=λi H h l=>⟨xs,xs[i],h,by simp[l]⟩
 yld:=λi H x H' h l y=>⟨y.1,y.2 xs h⟩
theorem zcp{lo:Int}{n:Nat}:Wk (Itr lo n) n (λi x=>x= .int (lo+i)) (λ_=>True) where
 stop:=λi H h l=>l
 go:=λi H h l=>l
 yld:=λi H x H' h l y=>y
theorem zcY{n:Nat}{P:Nat->V->Prop}{ok:Hp->Prop}{g:TG}{src:List (Option Nat)}{Q:VK}(wk:Wk J n P ok)(Pv:Addr->Nat->List V->St->Hp->Prop)
 (h0:∀l,H1 l=none->Pv l 0 [] (zep src σ) (upd H1 l (.lst []))) (hok:∀l i ys σ H,H1 l=none->Pv l i ys σ H->ok H)
 (hs:∀l i x ys σ H,H1 l=none->i<n->P i x->Pv l i ys σ H->H l=some (.lst ys)->g x σ H λσ2 H3=>tc σ2 H3 λb H4=>
   if b=true then te σ2 H4 λy H5=>H5 l=some (.lst ys)/\ys.length<sizeLine/\Pv l (i+1) (ys ++ [y]) σ2 (upd H5 l (.lst (ys ++ [y])))else H4 l=some (.lst ys)/\Pv l (i+1) ys σ2 H4)
 (hd:∀l ys σ H,H1 l=none->Pv l n ys σ H->H l=some (.lst ys)->Q (.ref l) H):
 zdZ g tc te src σ Q J H1:=by
 intro l hl
 refine⟨λi m ys σ H=>m=n -i/\i<=n/\Pv l i ys σ H,⟨n,`Z3,W1 _,h0 l hl⟩,?_⟩
 rintro i m ys σ' H' ⟨rfl,hi,p⟩ hl'
 by_cases hlt:i<n
 ·refine .inr ⟨wk.go i H' (hok l i ys σ' H' hl p) hlt,Pv l (i+1),λzs σ2 H2 q=>⟨n -(i+1),(),rfl,hlt,q⟩,λx H2 y=>?_⟩
  obtain⟨rfl,px⟩:=wk.yld i H' x H2 (hok l i ys σ' H' hl p) hlt y
  exact hs l i x ys σ' _ hl hlt px p hl'
 ·have e:i=n:=()
  subst e
  exact .inl ⟨wk.stop _ _ (hok l _ ys σ' H' hl p) (P0 _),hd l ys σ' H' hl p hl'⟩
theorem zaZ{n:Nat}{P:Nat->V->Prop}{ok:Hp->Prop}{g:TG}{D:Ends}(wk:Wk J n P ok)(Pv:Nat->St->Hp->Prop)(h0:Pv 0 σ H)(hok:∀i σ H,Pv i σ H->ok H)
 (hs:∀i x σ H,i<n->P i x->Pv i σ H->g x σ H λσ2 H2=>tb {D with nx:=Pv (i+1),ct:=Pv (i+1),bk:=D.nx} σ2 H2) (hd:∀σ H,Pv n σ H->D.nx σ H):
 zqV g tb D σ J H:=by
 refine⟨λi m σ H=>m=n -i/\i<=n/\Pv i σ H,⟨n,`Z3,W1 _,h0⟩,?_⟩
 rintro i m σ H ⟨rfl,hi,p⟩
 by_cases hlt:i<n
 ·refine .inr ⟨wk.go i H (hok i σ H p) hlt,Pv (i+1),λσ' H' q=>⟨n -(i+1),(),rfl,hlt,q⟩,λx H' y=>?_⟩
  obtain⟨rfl,px⟩:=wk.yld i H x H' (hok i σ H p) hlt y
  exact hs i x σ _ hlt px p
 ·have e:i=n:=()
  subst e
  exact .inl ⟨wk.stop _ _ (hok _ σ H p) (P0 _),hd σ H p⟩
structure QE(X:Cx)(e:Expr)(t:TE):Prop where o:PE X e t
structure QT(X:Cx)(e:Expr)(t:TT):Prop where o:PT X e t
structure QW(X:Cx)(e:Expr)(t:TT):Prop where o:PW X e t
structure QA(X:Cx)(es:List Expr)(t:TA):Prop where o:PA X es t
structure QS(X:Cx)(s:Stmt)(t:TS):Prop where o:PS X s t
structure QB(X:Cx)(s:List Stmt)(t:TS):Prop where o:PSs X s t
structure QI(X:Cx)(tg iter:Expr)(t:TI):Prop where o:PI X tg iter t
structure QG(X:Cx)(tg:Expr)(t:TG):Prop where o:PG X tg t
structure QGs(X:Cx)(tg:List Expr)(t:TGs):Prop where o:PGs X tg t
structure QF(X:Cx)(ifs:List Expr)(t:TT):Prop where o:PIf X ifs t
structure QO(X:Cx)(e:Option Expr)(t:TO):Prop where o:PO X e t
structure QPs(X:Cx)(pos:Pos)(keys:List (Option Expr))(values:List Expr)(trs:List (TE×TE)):Prop where o:PPs X pos keys values trs
section
variable{a b c e o i:Expr}{ta tb tc to:TE}{t u:TA}{p:Pos}{q q':TT}
theorem qv(i:Nat)(hN:autoParam (X.N[i]?=some x) v3)(hv:Vis X.env.scope x:=by exact Or.inl rfl)(hd:autoParam ((x==("__debug__":Str))=false) v4)
 (hcd:autoParam ((x==("__classdict__":Str))=false) v4):QE X (.Name x pos) (zqb i):=⟨zm8 hN hv hd hcd⟩
theorem qc(i:Nat)(hN:autoParam (X.N[i]?=some x) v3)(hv:autoParam (X.env.scope.names.lookup x=some .cell) v3)(hd:autoParam ((x==("__debug__":Str))=false) v4)
 (hcd:autoParam ((x==("__classdict__":Str))=false) v4):QE X (.Name x pos) (zqb i):=⟨zm8 hN (.inr (.inl hv)) hd hcd⟩
theorem zh{k:Int}:QE X (.Constant (.int k) j pos) (tC (.int k)):=⟨zox⟩
theorem zai{k:Str}:QE X (.Constant (.str k) j pos) (tC (.str k)):=⟨zna⟩
theorem zfz{k:Bool}:QE X (.Constant (.bool k) j pos) (tC (.bl k)):=⟨zqL⟩
theorem zc6:QE X (.Constant .none j pos) (tC .non):=⟨zor⟩
theorem zcn{u:Value}(hm:X.mg x=some u)(r:RelV v u)(hg:autoParam (Gl X x) v3)(hd:autoParam ((x==("__debug__":Str))=false) v4):QE X (.Name x pos) (tC v):=⟨zpo hg hm r hd⟩
theorem zoi{T:String}(hm:X.mg x=none)(hv:bootBuiltins x=some (.type T))(hg:autoParam (Gl X x) v3)(hn:autoParam (x≠"__name__") v4)(hd:autoParam ((x==("__debug__":Str))=false) v4):QE X (.Name x pos) (tC (.ty T)):=⟨zpN hg hm hv rfl hn hd⟩
theorem zB{op:Operator}{r:R2}(ho:OpR X (binaryOp op) r)(ha:QE X a ta)(hb:QE X b tb):QE X (.BinOp a op b pos) (tOp r ta tb):=⟨zsG ho ha.o hb.o⟩
theorem zlW{op:UnaryOp}{r:V->Hp->VK->Prop}(ho:UnR X (unaryOp op) r)(ha:QE X a ta):QE X (.UnaryOp op a pos) (tUn r ta):=⟨zso ho ha.o⟩
theorem zdR{r:R2}(ho:OpR X (compareOp op) r)(ha:QE X a ta)(hb:QE X b tb)(hm:autoParam (behindInMarks op b=false) v3):QE X (.Compare a [op] [b] pos) (tOp r ta tb):=⟨zpj ho ha.o hb.o hm⟩
theorem zL{r:R2}(ho:OpR X (compareOp op) r)(ha:QE X a ta)(hb:QE X b tb)(hm:autoParam (behindInMarks op b=false) v3):QT X (.Compare a [op] [b] pos) (zq7 (tOp r ta tb)):=⟨zqA ho ha.o hb.o hm⟩
theorem zlU{r:R2}(ho:OpR X (compareOp op) r)(ho':OpR X (compareOp op') r')(ha:QE X a ta)(hb:QE X b tb)(hc:QE X c tc)
 (hm:autoParam (lastMarks [op,op'] [b,c]=false) v6):QE X (.Compare a [op,op'] [b,c] pos) (zn5 r r' ta tb tc):=⟨znP ho ho' ha.o hb.o hc.o hm⟩
theorem zjf{op:BoolOp}(h:QE X a ta):QE X (.BoolOp op [a] pos) ta:=⟨zr4 h.o⟩
theorem ziY(ha:QE X a ta)(hb:QE X (.BoolOp .And (b::rest) pos) tb):QE X (.BoolOp .And (a::b::rest) pos) (zqN ta tb):=⟨zrm ha.o hb.o⟩
theorem zlz(ha:QE X a ta):QE X (.UnaryOp .Not a pos) (zqX ta):=⟨zru ha.o⟩
theorem zsS(hc:QT X c q)(ha:QE X a ta)(hb:QE X b tb):QE X (.IfExp c a b pos) (tIf q ta tb):=⟨zoI hc.o ha.o hb.o⟩
theorem zlb(ha:QT X a q):QW X (.BoolOp .Or [a] pos) q:=⟨zre ha.o⟩
theorem zqr(ha:QT X a q)(hb:QW X (.BoolOp .Or (b::rest) pos) q'):QW X (.BoolOp .Or (a::b::rest) pos) (tOr q q'):=⟨zs8 ha.o hb.o⟩
theorem t_w(h:QW X a q):QT X a q:=⟨h.o.pt⟩
theorem zeB(ha:QT X a q):QT X (.UnaryOp .Not a pos) (zsY q):=⟨zrt ha.o⟩
theorem zeD(h:QE X e te)(he:autoParam (∀whole,isTrue e X.env whole=(do let v ←whole;standAt e.pos;holding [v] (truthy v))) u5):QT X e (tB te):=⟨zrK h.o he⟩
theorem zqa(h:QE X e te)(he:autoParam (∀whole,isTrue e X.env whole=(do let v ←whole;standAt e.pos;holding [v] (truthy v))) u5):QT X e (λσ H Q=>te σ H λx H'=>∃k,zsi X.K x H' k/\Q k H'):=⟨zom h.o he⟩
theorem zc:QA X [] znh:=⟨zoa⟩
theorem za(ha:QE X e te)(hr:QA X es t)(hs:autoParam (starEach (e::es) X.env=(false,eval e X.env)::starEach es X.env) v3):QA X (e::es) (zlM te t):=⟨zlf ha.o hr.o hs⟩
theorem zG{k:Nat}(h:QA X es t):QE X (.Tuple es k pos) (zsM t):=⟨zrC h.o⟩
theorem zcj(h:QA X es t):QE X (.List es pos) (zrZ t):=⟨znY h.o⟩
theorem zf1(vs:List V)(h:es.mapM zeU=some vs):QE X (.List es pos) (zra vs):=⟨zpH vs h⟩
theorem zk{k:Nat}{ps:List Str}{ds:List Value}{E:XK}(F:FnOk X.prog X.w X.K X.mg X.base CX k f fd ps sp)(hr:Room k X.A)(hm:X.mg x=some (.ref f))(hk:W.keepIn X.K (.ref f)=true)(hb:Binds X.K fd ps ds)(hd:Vals dvs ds)(hx:za4 CX X E)
 (ha:QA X (e::es) t) (hg:autoParam (Gl X x) v3) (hdb:autoParam ((x==("__debug__":Str))=false) v4) (he:autoParam (starEach (e::es) X.env=(false,eval e X.env)::starEach es X.env) v3) (hpl:autoParam ((backTo pos (starEach es X.env)).any (·.1)=false) v3):
 QE X (.Call (.Name x p) (e::es) [] pos) (zq9 sp dvs E t):=⟨zpP F hr hg hm hk hb hd hx ha.o hdb he hpl⟩
theorem zv{id:String}{r:List V->Hp->VK->Prop}(hc:CallR X (.builtin id) r)(hm:X.mg x=none)(hv:bootBuiltins x=some (.builtin id))(ha:QA X (e::es) t)(hg:autoParam (Gl X x) v3)(hn:autoParam (x≠"__name__") v4)(hdb:autoParam ((x==("__debug__":Str))=false) v4)
 (he:autoParam (starEach (e::es) X.env=(false,eval e X.env)::starEach es X.env) v3) (hpl:autoParam ((backTo pos (starEach es X.env)).any (·.1)=false) v3):QE X (.Call (.Name x p) (e::es) [] pos) (tCB r t):=⟨znB hc hg hm hv ha.o hn hdb he hpl⟩
theorem zaf{T:String}{r:List V->Hp->VK->Prop}(hc:CallR X (.type T) r)(hm:X.mg x=none)(hv:bootBuiltins x=some (.type T))(ha:QA X (e::es) t)(hg:autoParam (Gl X x) v3)(hn:autoParam (x≠"__name__") v4)(hdb:autoParam ((x==("__debug__":Str))=false) v4)
 (he:autoParam (starEach (e::es) X.env=(false,eval e X.env)::starEach es X.env) v3) (hpl:autoParam ((backTo pos (starEach es X.env)).any (·.1)=false) v3):QE X (.Call (.Name x p) (e::es) [] pos) (tCB r t):=⟨zmM hc hg hm hv ha.o hn hdb he hpl⟩
theorem zaa{r:R2}(hr:IxR X r)(ha:QE X a ta)(hb:QE X b tb)(hs:autoParam (zlq b) x6):QE X (.Subscript a b pos) (tOp r ta tb):=⟨zsW hr ha.o hb.o hs⟩
theorem zkG:QO X none zlT:=⟨zqH⟩
theorem zkR(h:QE X e te):QO X (some e) (zq6 te):=⟨zqm h.o⟩
theorem zrM{r:V->Option Int->Option Int->Hp->VK->Prop}{lo hi:Option Expr}{tl th:TO}(hr:SlR X r)(he:QE X e te)(hl:QO X lo tl)(hu:QO X hi th):QE X (.Subscript e (.Slice lo hi none p) pos) (tSl r te tl th):=⟨zon hr he.o hl.o hu.o⟩
theorem zg4{T id:String}{r:V->List V->Hp->VK->Prop}(pa:PlainAttrs T)(slot:Slot T name id)(hty:typeOf (.builtin id)=pure (.type "method_descriptor"))(hm:MtR X id r)(ho:QE X o to)(ha:QA X (e::es) t)
 (hbase:autoParam (attributeBase o name X.env (eval o X.env)=eval o X.env) v3)
 (hfew:autoParam (((backTo cpos (starEach (e::es) X.env)).all (λx=>!x.1)&&(backToKw cpos (keywordEach [] X.env)).all (λx=>x.1.isSome)
   &&decide ((e::es).length+([]:List Keyword).length+(if([]:List Keyword).isEmpty then 0 else 1)<30))=true) v3)
 (hline:autoParam ((apos.endLine==cpos.line)=true) v3) (hs:autoParam (starEach (e::es) X.env=(false,eval e X.env)::starEach es X.env) v3) (hplain:autoParam ((backTo cpos (starEach es X.env)).any (·.1)=false) v3):
 QE X (.Call (.Attribute o name apos) (e::es) [] cpos) (tBM X.K T r to t):=⟨zsy pa slot hty hm ho.o ha.o hbase hfew hline hs hplain⟩
theorem zkp(h:QE X e te):QI X tg e (zq3 X.K te):=⟨zqC h.o⟩
theorem zdP(h:QE X e te):QI X tg e (zss X.K te):=⟨zrT h.o⟩
theorem zda(hm:X.mg "range"=none)(ha:QA X [a] t)(hg:autoParam (Gl X "range") v3)(hs:autoParam (starEach [a] X.env=[(false,eval a X.env)]) v3):QI X tg (.Call (.Name "range" p) [a] [] pos) (zrc t):=⟨zl1 hg hm ha.o hs⟩
theorem zop(hm:X.mg "range"=none)(ha:QA X [a,b] t)(hg:autoParam (Gl X "range") v3)(hs:autoParam (starEach [a,b] X.env=[(false,eval a X.env),(false,eval b X.env)]) v3)(hs2:autoParam (starEach [b] X.env=[(false,eval b X.env)]) v3):QI X tg (.Call (.Name "range" p) [a,b] [] pos) (zq4 t):=⟨zmy hg hm ha.o hs hs2⟩
theorem zn(k:Nat)(hN:X.N.Nodup)(hi:autoParam (X.N[k]?=some x) v3)(hx:autoParam (X.env.scope.names.lookup x=some .local) v3):QG X (.Name x pos) (zce k):=⟨zls hN hi (.inl hx) (.inr hx)⟩
theorem zay:QGs X [] zsK:=⟨zpw⟩
theorem zr{tg:TG}(h1:QG X e tg)(h2:QGs X es tgs)(hs:autoParam ((assignEach (e::es) X.env).map (·.2)=assign e X.env::(assignEach es X.env).map (·.2)) v3):QGs X (e::es) (zqS tg tgs):=⟨znO h1.o h2.o hs⟩
theorem zc4(n:Nat){k:Nat}(hc:X.calm=true)(h:QGs X es tgs)(hn:autoParam ((assignEach es X.env).length=n) v3)(hst:autoParam ((assignEach es X.env).findIdx? (·.1)=none) v3):QG X (.Tuple es k pos) (zrx X.K n tgs):=⟨zr2 hc h.o hn hst⟩
theorem zek:QF X [] zoZ:=⟨zqG⟩
theorem zns(h:QT X c q):QF X [c] q:=⟨zqq h.o⟩
theorem zX:QB X [] zqU:=⟨zps⟩
theorem zf{st:Stmt}(h1:QS X st sa)(h2:QB X sts sb):QB X (st::sts) (zrf sa sb):=⟨ziR h1.o h2.o⟩
theorem zi{st:Stmt}(h1:QS X st sa):QB X [st] sa:=⟨zpY h1.o⟩
theorem zap{A B:List Stmt}(hc:QT X c q)(ha:QB X A sa)(hb:QB X B sb):QS X (.If c A B pos) (zsL q sa sb):=⟨zsm hc.o ha.o hb.o⟩
theorem zt(h:QE X e te):QS X (.Return (some e) pos) (zsp te):=⟨zrA h.o⟩
theorem zaK(he:QE X e te)(hs:autoParam (swapsWith e none pos.line X.env=pure false) v3):QS X (.Expr e pos) (zrb te):=⟨zqh he.o hs⟩
theorem zoK:QS X (.Continue pos) zqP:=⟨zja⟩
theorem zu(k:Nat)(hN:X.N.Nodup)(he:QE X e te)(hi:autoParam (X.N[k]?=some x) v3)(hx:autoParam (X.env.scope.names.lookup x=some .local) v3)(hs:autoParam (swapsWith e (some (.Name x pos')) pos.line X.env=pure false) v3):
 QS X (.Assign [.Name x pos'] e pos) (zkD te (zce k)):=⟨zoM hN hi (.inl hx) he.o hs (.inr hx)⟩
theorem zie(k:Nat)(hN:X.N.Nodup)(he:QE X e te)(hi:autoParam (X.N[k]?=some x) v3)(hx:autoParam (X.env.scope.names.lookup x=some .cell) v3)(hf:autoParam (X.fn x=true) v3)(hs:autoParam (swapsWith e (some (.Name x pos')) pos.line X.env=pure false) v3):
 QS X (.Assign [.Name x pos'] e pos) (zkD te (zce k)):=⟨zoM hN hi (.inr hx) he.o hs (.inl hf)⟩
theorem zci{g:TG}(hp:PassesOwn (model X.prog X.w) X.A X.env X.xe)(hc:X.calm=true)(hi:QI X tg iter wi)(hg:QG X tg g)(hb:QB X body sa)
 (hs:autoParam (∀x,foldedSetIterable iter X.env x=pure x) u5):QS X (.For tg iter body [] pos) (zqT wi g sa):=⟨zpc hp hc hi.o hg.o hb.o hs⟩
end
section
variable{src:List (Option Nat)}{g:TG}
theorem zeX(ok:CompOk X.N osc N' src scope)(hsc:X.env.scope=osc)(hc:X.calm=true)(hi:QI X tg iter wi)
 (hg:∀cl C s₀ H₀ fp,QG (zw X N' scope cl C s₀ H₀ fp) tg g) (ht:∀cl C s₀ H₀ fp,QF (zw X N' scope cl C s₀ H₀ fp) ifs tc) (he:∀cl C s₀ H₀ fp,QE (zw X N' scope cl C s₀ H₀ fp) elt te)
 (hs:autoParam (∀x,foldedSetIterable iter X.env x=pure x) u5):QE X (.ListComp elt [⟨tg,iter,ifs,0⟩] scope pos) (zlO wi g tc te src):=
 ⟨zpe ok hsc hc hi.o (λcl C s₀ H₀ fp=>(hg cl C s₀ H₀ fp).o) (λcl C s₀ H₀ fp=>(ht cl C s₀ H₀ fp).o) (λcl C s₀ H₀ fp=>(he cl C s₀ H₀ fp).o) hs⟩
end
theorem Fun.okQ{mg:Str->Option Value}{st:Stmt}{ps:List Str}{k:Nat}(F:Fun K x qual st f fd)(S:FnScope N ps (ze st))(len:∀vs H Q E,sp vs H Q E->vs.length=ps.length)
 (hbody:∀(cdv:Value) (A:Around) (outer:List Env) (s:Shared) (H:Hp) (vs:List V) (Q:VK) (E:XK),Room k (A.deeper (envOfC qual (ze st) s.heap.objs.size f cdv))->sp vs H Q E->
   ∃t,QB (zgT CX0 P w K mg base N qual (ze st) f cdv A outer s H E).nox (zK st) t/\t {nx:=λ_ H'=>Q .non H',rt:=Q} (zdz N vs) H):FnOk P w K mg base CX0 (k+1) f fd ps sp:=
 F.ok S len λcdv A outer s H vs Q E hr h=>let ⟨t,a,b⟩:=hbody cdv A outer s H vs Q E hr h;⟨t,a.o,b⟩
theorem zrO{h:Heap}{m:Str->Option Value}(hn:h.Ns a m):∃o,h.get? a=some o/\∀v,o.data≠ .cell v:=
 let⟨o,es,ep,e,d,_⟩:=hn;⟨o,e,λv z=>by rw[d] at z;cases z⟩
theorem zpW{h:Heap}{m:Str->Option Value}{o:Obj}(hn:h.Ns a m)(e:h.get? a=some o)(e':h'.get? a=some o):h'.Ns a m:=by
 obtain⟨o',es,ep,e1,r⟩:=hn
 rw[e] at e1
 cases e1
 exact⟨o,es,ep,e',r⟩
section
variable{src:List (Option Nat)}{g:TG}{k:Nat}
theorem zkQ(ok:CompOk X.N osc N' src scope)(hsc:X.env.scope=osc)(hc:X.calm=true)(hi:PI X tg iter wi)
 (hg:∀cl C s₀ H₀ fp,PG (zw X N' scope cl C s₀ H₀ fp) tg g) (ht:∀cl C s₀ H₀ fp,PIf (zw X N' scope cl C s₀ H₀ fp) ifs tc) (he:∀cl C s₀ H₀ fp,PE (zw X N' scope cl C s₀ H₀ fp) elt te)
 (hN:X.N.Nodup) (hk:X.N[k]?=some y) (hx:X.env.scope.names.lookup y=some .local) (hsw:swapsWith (.ListComp elt [⟨tg,iter,ifs,0⟩] scope pos) (some (.Name y py)) spos.line X.env=pure true)
 (hs:autoParam (∀x,foldedSetIterable iter X.env x=pure x) u5):PS X (.Assign [.Name y py] (.ListComp elt [⟨tg,iter,ifs,0⟩] scope pos) spos) (zkD (zlO wi g tc te src) (zce k)):=by
 intro pins s σ H D I h
 obtain⟨cl,hcl,c1,c2⟩:=zdY (scope:=scope) (env:=X.env) λy hy hyf=>I.ok.has y.1 (by
  have z:=ok.frees y hy hyf
  rw[←hsc] at z
  exact z)
 rw[exec_Assign_Name_used _ _ _ _ hsw]
 refine C0 (wpAny_standAt (C0 ?_))
 show wpAny _ X.A (do let _ ←comprehension (.ListComp elt [⟨tg,iter,ifs,0⟩] scope pos) scope X.env _ (newList []) false (eval iter X.env) (some (assign (.Name y py) X.env))) _ _ s
 refine C0 (W2 (wpAny_comprehension_free (use:=some (assign (.Name y py) X.env)) (Q:=λ_ s'=>∃σ' H',Inv X pins σ' H' s'/\D.nx σ' H') rfl hs hcl ok.kind ok.loc
  (thn (hi pins s σ H _ I h) λv s1 h1=>thn h1 λitv s2 h2=>?_)) (λ_ s' hq=>K0 (K0 hq)) λ_ _ e=>e)
 obtain⟨it,fp,tn,J,H2,e,I2,T,st2,f2,q2⟩:=h2
 subst e
 have hlt2:∀b∈fp,b<s2.heap.objs.size:=λb hb=>by
  obtain⟨o,e,_⟩:=T.obj _ _ st2 b hb
  exact V0 e
 refine D2 ?_
 have hl:H2 s2.heap.objs.size=none:=I2.hok.fresh (P0 _)
 have I3:Inv X pins σ (upd H2 s2.heap.objs.size (.lst [])) {s2 with heap:=s2.heap.push {cls:= .type "list",dict:=none,data:= .seq ([]:List Value).toArray}}:=
  I2.laid (t':=s2.toks) (λb u e=>G0 _ e) (P0 _) ⟨W1 _,[],0, .nil,O0 _ rfl⟩
 obtain⟨W,⟨m0,w0⟩,turn⟩:=q2 _ hl
 generalize hl2:s2.heap.objs.size=l at *
 generalize hs3:({s2 with heap:=s2.heap.push {cls:= .type "list",dict:=none,data:= .seq ([]:List Value).toArray}}:Shared)=s3 at *
 have f3:∀b∈fp,zec X pins (upd H2 l (.lst [])) b:=λb hb=>⟨by rw[zd (P1 (hlt2 b hb))];exact(f2 b hb).1,(f2 b hb).2⟩
 have k3:∀b o,s2.heap.get? b=some o->s3.heap.get? b=some o:=λb o e=>by rw[←hs3];exact G0 _ e
 have hlt3:∀b∈fp,b<s3.heap.objs.size:=λb hb=>by
  obtain⟨o,e,_⟩:=T.obj _ _ st2 b hb
  exact V0 (k3 b o e)
 refine wpAny_newFunctionEnv ok.nocell (by intro y hy;simp at hy) (λh₁ hns₁ hsb₁=>?_) ok.kind
 have k4:∀b o,s3.heap.get? b=some o->h₁.get? b=some o:=λb o e=>(hsb₁.2 b (P1 (V0 e))).trans (G0 _ e)
 have J0:=zd2 (tk:=s3.toks+([]:List (Str×Value)).length) I3 f3 hlt3 ok hsc c1 c2 hns₁ k4
 have st4:tn 0 h₁:=T.keep _ _ _ st2 λb hb o e=>k4 b o (k3 b o e)
 generalize hC:s3.heap.objs.size=C at *
 have stat:∀{H':Hp},(∀b∈fp,H' b=none)->∀b∈fp,zec (zw X N' scope cl C s3 (upd H2 l (.lst [])) fp) [] H' b:=λ{H'} hn b hb=>
  ⟨hn b hb,(J0.ok.exf b hb).1,J0.ok.exfs b hb, .inl hb,(J0.ok.exf b hb).2,λp hp=>absurd (show p∈([]:List (Addr×Obj))from hp) `Z3⟩
 have loop:codeAny (model X.prog X.w) X.A (.compLoop (.ListComp elt [⟨tg,iter,ifs,0⟩] scope pos) 0 (.ref it) (.ref l) (compEnvC scope cl C X.env))
  (compPost (model X.prog X.w) X.A X.xe (some (assign (.Name y py) X.env)) (λ_ s'=>∃σ' H',Inv X pins σ' H' s'/\D.nx σ' H') (.ref l) C) {s3 with heap:=h₁,toks:=s3.toks+([]:List (Str×Value)).length}:=by
  refine zey (λn s'=>∃i ys σ' H',Inv (zw X N' scope cl C s3 (upd H2 l (.lst [])) fp) [] σ' H' s'/\tn i s'.heap/\(∀b∈fp,H' b=none)/\H' l=some (.lst ys)/\W i n ys σ' H') ?_ m0
   ⟨0,[],_,_,J0,st4,λb hb=>(f3 b hb).1,zb,w0⟩
  rintro n s5 ⟨i,ys,σ5,H5,I5,st5,fr5,hl5,w5⟩
  rcases turn i n ys σ5 H5 w5 hl5 with⟨stop,qn⟩|⟨go,N,hN,step⟩
  ·refine thn (T.done (zw X N' scope cl C s3 (upd H2 l (.lst [])) fp) rfl rfl rfl hc i [] s5 σ5 H5 (λ_ _=>False) I5 (stat fr5) st5 stop) λr s6 ⟨hr,I6⟩=>?_
   subst hr
   obtain⟨m,hn,_⟩:=I6.loc
   have hCs:s3.heap.objs.size<=C:=by rw[←hC];exact P0 _
   have I7:Inv X pins σ H5 s6:=zei (h':=s6.heap) I3 f3 hCs I6 ⟨rfl,λ_ _=>rfl⟩
   have fC:zec X pins H5 C:=I3.fpOk hCs I6.free
   obtain⟨oC,eC,dC⟩:∃o,s6.heap.get? C=some o/\∀v,o.data≠ .cell v:=by
    obtain⟨o,e,d⟩:=zrO hn
    exact⟨o,e,d⟩
   have I8:=I7.pinned (fp:=[C]) (λb hb=>by rw[C2.mp hb];exact fC) (λb hb=>by rw[C2.mp hb];exact⟨oC,eC,dC⟩)
   refine wpAny_assign_Name (zb7 (v:= .ref l) I8 hN hk (.inl hx) rfl (λs9 I9=>?_) (.inr hx))
   have p9:=(I9.pin (C,oC) (N1 _ (N1 _ (zal (C2.mpr rfl) eC)))).1
   refine⟨m,zpW hn eC p9,λh' hsb=>⟨_,H5,?_,qn⟩⟩
   obtain⟨f0,f1,f2,f3',f4,f5⟩:=fC
   exact I9.unpinned.turned (t':=s9.toks) (λb o hb e=>(hsb.2 b hb).trans e) f0 f1 f3' f4 f5
  ·refine thn (T.item (zw X N' scope cl C s3 (upd H2 l (.lst [])) fp) rfl rfl rfl hc i [] s5 σ5 H5 (λ_ _=>False) I5 (stat fr5) st5 go) λr s6 ⟨u,hr,h6⟩=>?_
   subst hr
   refine thn h6 λ_ s7 zq=>?_
   obtain⟨x,H7,I7,r7,y7,st7,fr7⟩:=zq
   have I7':=I7.pinned (stat fr7) (T.obj _ _ st7)
   refine thn (hg cl C s3 _ fp _ s7 σ5 H7 x u _ I7' r7 (step x H7 y7)) λ_ s8 zq=>?_
   obtain⟨σ8,H8,I8,q8⟩:=zq
   refine thn (ht cl C s3 _ fp _ s8 σ8 H8 _ I8 q8) λb s9 zq=>?_
   obtain⟨H9,I9,q9⟩:=zq
   have back:∀{s':Shared} {H':Hp},Inv (zw X N' scope cl C s3 (upd H2 l (.lst [])) fp) ([]++zd9 fp s7.heap) σ8 H' s'->tn (i+1) s'.heap/\∀b∈fp,H' b=none:=λ{s' H'} I'=>by
    refine⟨T.keep _ _ _ st7 λb hb o e=>(I'.pin (b,o) (N1 _ (N1 _ (zal hb e)))).1,λb hb=>?_⟩
    obtain⟨o,e,d⟩:=T.obj _ _ st7 b hb
    exact(I'.pin (b,o) (N1 _ (N1 _ (zal hb e)))).2.1
   cases b with
   |false=>
    obtain⟨hl9,n9⟩:=q9
    obtain⟨m',hm,w9⟩:=hN _ _ _ n9
    obtain⟨t9,fr9⟩:=back I9
    exact⟨m',hm,i+1,ys,σ8,H9,I9.unpinned,t9,fr9,hl9,w9⟩
   |true=>
    refine thn (he cl C s3 _ fp _ s9 σ8 H9 _ I9 q9) λxv s10 zq=>?_
    obtain⟨y,H10,I10,r10,hl10,hz,n10⟩:=zq
    obtain⟨m',hm,w10⟩:=hN _ _ _ n10
    refine thn (zba (X:=zw X N' scope cl C s3 (upd H2 l (.lst [])) fp) _ s10 σ8 H10 (.ref l) [y] (.ref l) [xv] (λv H'=>H'=upd H10 l (.lst (ys ++ [y]))) I10 rfl (.cons r10 .nil) ⟨l,ys,y,rfl,rfl,hl10,hz,rfl⟩) λ_ s11 ⟨_,H11,I11,_,e11⟩=>?_
    subst e11
    obtain⟨t11,fr11⟩:=back I11
    exact⟨m',hm,i+1,ys ++ [y],σ8,_,I11.unpinned,t11,fr11,zb,w10⟩
 exact codeAny_compStart_list loop (T.self _ 0 _ _ _ st4 loop)
theorem ze1(k:Nat)(ok:CompOk X.N osc N' src scope)(hsc:X.env.scope=osc)(hc:X.calm=true)(hN:X.N.Nodup)(hi:QI X tg iter wi)
 (hg:∀cl C s₀ H₀ fp,QG (zw X N' scope cl C s₀ H₀ fp) tg g) (ht:∀cl C s₀ H₀ fp,QF (zw X N' scope cl C s₀ H₀ fp) ifs tc) (he:∀cl C s₀ H₀ fp,QE (zw X N' scope cl C s₀ H₀ fp) elt te)
 (hk:autoParam (X.N[k]?=some y) v3) (hx:autoParam (X.env.scope.names.lookup y=some .local) v3) (hsw:autoParam (swapsWith (.ListComp elt [⟨tg,iter,ifs,0⟩] scope pos) (some (.Name y py)) spos.line X.env=pure true) v3)
 (hs:autoParam (∀x,foldedSetIterable iter X.env x=pure x) u5):QS X (.Assign [.Name y py] (.ListComp elt [⟨tg,iter,ifs,0⟩] scope pos) spos) (zkD (zlO wi g tc te src) (zce k)):=
 ⟨zkQ ok hsc hc hi.o (λcl C s₀ H₀ fp=>(hg cl C s₀ H₀ fp).o) (λcl C s₀ H₀ fp=>(ht cl C s₀ H₀ fp).o) (λcl C s₀ H₀ fp=>(he cl C s₀ H₀ fp).o) hN hk hx hsw hs⟩
end
section
variable{e o i:Expr}{to:TE}{g:TG}{t:zqE}
theorem zcD(he:QE X e te)(hg:QG X tg g)(hs:autoParam (swapsWithSole [tg] e pos.line X.env=pure false) v3)(hw:autoParam (swappedStores [tg] e X.env=pure none) v3)
 (h1:autoParam ((assignEach [tg] X.env).map (·.2)=[assign tg X.env]) v3):QS X (.Assign [tg] e pos) (zkD te g):=⟨zsf he.o hg.o hs hw h1⟩
theorem zjc(ho:QE X o to)(hi:QE X i ti)(hs:zro X t)(ha:autoParam (∀v,assign (.Subscript o i pos) X.env v=(do
 let ov ←holding [v] (eval o X.env)
 let iv ←holding [v,ov] (eval i X.env)
 standAt pos
 holding [v,ov,iv] (setItem ov iv v)
 release [v,ov,iv] [])) u5):QG X (.Subscript o i pos) (zsv to ti t):=⟨zrv ho.o hi.o hs ha⟩
theorem zlL(k:Nat)(hN:X.N.Nodup)(hi:autoParam (X.N[k]?=some x) v3)(hx:autoParam (X.env.scope.names.lookup x=some .cell) v3)(hf:autoParam (X.fn x=true) v3):QG X (.Name x pos) (zce k):=⟨zls hN hi (.inr hx) (.inl hf)⟩
end
noncomputable def ztu(t u:TS):TS:=λD σ H=>∃R:St->Hp->Prop,t {D with nx:=R} σ H/\∀σ' H',R σ' H'->u D σ' H'
theorem zgm{st:Stmt}(h1:QS X st sa)(h2:QB X sts sb):QB X (st::sts) (ztu sa sb):=by
 refine⟨λpins s σ H D I h=>?_⟩
 obtain⟨R,ha,hb⟩:=h
 have h3:PSs X sts (λD' σ' H'=>D'=D/\R σ' H'):=λpins s σ' H' D' I h=>by
  obtain⟨rfl,hR⟩:=h
  exact h2.o pins s σ' H' D' I (hb σ' H' hR)
 have e:(λσ' H'=>D=D/\R σ' H')=R:=by
  funext σ' H'
  simp
 refine ziR h1.o h3 pins s σ H D I ?_
 show sa {D with nx:=λσ' H'=>D=D/\R σ' H'} σ H
 rw[e]
 exact ha
theorem znM(z:Str):zgi z 1=z:=by
 unfold zgi
 simp
theorem zjT:OpR X (binaryOp .Mult) (λx y H Q=>∃z n,x= .str z/\y= .int n/\1<=n/\n<=1000/\0<z.length/\z.length<=1000/\Q (.str (zgi z n.toNat)) H):=by
 intro pins s σ H x y v u Q I rx ry h
 obtain⟨z,n,rfl,rfl,h1,h2,h3,h4,q⟩:=h
 by_cases h:1<n
 ·exact zjY pins s σ H _ _ v u Q I rx ry ⟨z,n,rfl,rfl,h,h2,h3,h4,q⟩
 ·have e:n=1:=()
  subst e
  obtain⟨t,rfl⟩:=rx
  obtain⟨t',rfl⟩:=ry
  refine P.mul_str ⋯ (λ_ z=>by simp at z) (λ_ z=>by simp at z) ?_
  simp only[show¬(1:Int)<1 by decide,if_false,beq_self_eq_true,Bool.true_or,if_true]
  refine⟨.str _,H,I,⟨_,rfl⟩,?_⟩
  have e:zgi z (1:Int).toNat=z:=znM z
  rw[e] at q
  exact q
theorem z8:CallR X (.builtin "len") (λxs H Q=>(∃p ys,xs=[.ref p]/\(SqL X.K H p ys\/SqT X.K H p ys)/\Q (.int ys.length) H)\/∃z,xs=[.str z]/\z.length<=sizeLine/\Q (.int z.length) H):=zii.or zig
theorem zfR(n:Nat){k:Nat}(hK:X.K=K)(hc:X.calm=true)(h:QGs X es tgs)(hn:autoParam ((assignEach es X.env).length=n) v3)(hst:autoParam ((assignEach es X.env).findIdx? (·.1)=none) v3):QG X (.Tuple es k pos) (zrx K n tgs):=by subst hK;exact zc4 n hc h hn hst
noncomputable def zlQ(c:Nat):Bool:=decide (97<=c)&&decide (c<=122)
noncomputable def zr7:List Str:=["if","and","not","never"]
noncomputable def zj(x:Str):Bool:=decide (1<=x.length)&&decide (x.length<=8)&&x.cps.toList.all zlQ&&!(zr7.any λy=>decide (y=x))
def Hand(H:Hp)(a:Addr)(n:Int):Prop:=∃x m t:Int,H a=some (.lst [.int x, .int m, .int t])/\0<=m/\m<2^63/\0<=t/\t<=n
def Keep(a:Addr)(H H':Hp):Prop:=∀b o,b≠a->H b=some o->H' b=some o
theorem Keep.refl(a:Addr)(H:Hp):Keep a H H:=λ_ _ _ h=>h
theorem Keep.trans(x:Keep a H H1)(y:Keep a H1 H2):Keep a H H2:=λb o n h=>y b o n (x b o n h)
theorem Keep.upd(a:Addr)(H:Hp)(o:HO):Keep a H (L2.upd H a o):=λb u n h=>by rw[zd n];exact h
theorem Keep.new{p:Addr}{o:HO}(h:H p=none):Keep a H (L2.upd H p o):=λb u n e=>by rw[zd (zg e h)];exact e
theorem Keep.of(h:Same H H'):Keep a H H':=λb o _ e=>h b o e
theorem Hand.ne{p:Addr}{n:Int}(h:Hand H a n)(e:H p=none):p≠a:=by
 obtain⟨x,m,t,h,_⟩:=h
 exact λz=>by rw[z,h] at e;cases e
theorem Hand.new{p:Addr}{n:Int}{o:HO}(h:Hand H a n)(e:H p=none):Hand (upd H p o) a n:=by
 have ne:=h.ne e
 obtain⟨x,m,t,h,r⟩:=h
 exact⟨x,m,t,by rw[zd (Ne.symm ne)];exact h,r⟩
theorem Hand.same{n:Int}(h:Hand H a n)(s:Same H H'):Hand H' a n:=by
 obtain⟨x,m,t,h,r⟩:=h
 exact⟨x,m,t,s _ _ h,r⟩
theorem Hand.mono{n:Int}(h:Hand H a n)(l:n<=n'):Hand H a n':=by
 obtain⟨x,m,t,h,h1,h2,h3,h4⟩:=h
 exact⟨x,m,t,h,h1,h2,h3,()⟩
theorem Keep.sqL{b:Addr}(k:Keep a H H')(n:b≠a)(h:SqL K H b xs):SqL K H' b xs:=by
 rcases h with(h|⟨o,h⟩)|h
 ·exact .inl (.inl (k _ _ n h))
 ·exact .inl (.inr ⟨o,k _ _ n h⟩)
 ·exact .inr h
theorem Hand.updNe{p:Addr}{n:Int}{o:HO}(h:Hand H a n)(e:p≠a):Hand (upd H p o) a n:=by
 obtain⟨x,m,t,h,r⟩:=h
 exact⟨x,m,t,by rw[zd (Ne.symm e)];exact h,r⟩
theorem Keep.updNew{p:Addr}{o:HO}(k:Keep a H H')(e:H p=none):Keep a H (L2.upd H' p o):=λb u n h=>by
 rw[zd (zg h e)]
 exact k b u n h
noncomputable def zbp:Str:="abcdefghijklmnopqrstuvwxyz"
noncomputable def one(c:Nat):Str:=⟨#[c]⟩
theorem Same.new{p:Addr}{o:HO}(h:H p=none):Same H (upd H p o):=λb u e=>by rw[zd (zg e h)];exact e
structure At(K:W.Frag)(mg:Str->Option Value)(x:Str)(st:Stmt)(ps:List Str)(f:Addr)(fd:FuncData):Prop where
 fn:Fun K x x st f fd
 b:Binds K fd ps []
 mg:mg x=some (.ref f)
 kp:W.keepIn K (.ref f)=true
theorem zfD{xs:List α}{d:Int}(h0:0<=d)(h1:d<xs.length):∃v,atI xs d=some v/\v∈xs:=by
 obtain⟨k,rfl⟩:∃k:Nat,d=(k:Int):=⟨d.toNat,()⟩
 have hk:k<xs.length:=()
 exact⟨xs[k],zT (by simp[hk]),List.getElem_mem hk⟩
theorem at0{x:α}{xs:List α}:atI (x::xs) 0=some x:=zT (j:=0) rfl
theorem at1{x y:α}{xs:List α}:atI (x::y::xs) 1=some y:=zT (j:=1) rfl
inductive D where
 |non|bl (b:Bool)|int (i:Int)|str (x:Str)|tup (ds:List D)|oth
variable{d:D}{ds lks hds cs rs:List D}{Pd:Nat->D->Prop}
inductive Rep(H:Hp):V->D->Prop where
 |non:Rep H .non .non
 |bl (b:Bool):Rep H (.bl b) (.bl b)
 |int (i:Int):Rep H (.int i) (.int i)
 |str (x:Str) (h:x.length<=1000):Rep H (.str x) (.str x)
 |tup {p:Addr} {vs:List V} {ds:List D} (h:H p=some (.tup vs)) (l:vs.length=ds.length) (b:ds.length<=1000) (r:∀(i:Nat) (v:V) (d:D),vs[i]?=some v->ds[i]?=some d->Rep H v d):Rep H (.ref p) (.tup ds)
 |lst {p:Addr} {vs:List V} (h:H p=some (.lst vs)):Rep H (.ref p) .oth
 |dK {p:Addr} {kvs:List (Key×V)} (h:H p=some (.dK kvs)):Rep H (.ref p) .oth
structure Mono(H H':Hp):Prop where
 tup:∀p xs,H p=some (.tup xs)->H' p=some (.tup xs)
 lst:∀p xs,H p=some (.lst xs)->∃ys,H' p=some (.lst ys)
 dK:∀p xs,H p=some (.dK xs)->∃ys,H' p=some (.dK ys)
theorem Mono.trans(a:Mono H H1)(b:Mono H1 H2):Mono H H2:=⟨λp xs h=>b.tup p xs (a.tup p xs h),λp xs h=>let ⟨ys,e⟩:=a.lst p xs h;b.lst p ys e,λp xs h=>let ⟨ys,e⟩:=a.dK p xs h;b.dK p ys e⟩
theorem Mono.of(s:Same H H'):Mono H H':=⟨λp xs h=>s _ _ h,λp xs h=>⟨xs,s _ _ h⟩,λp xs h=>⟨xs,s _ _ h⟩⟩
theorem Mono.new{p:Addr}{o:HO}(h:H p=none):Mono H (upd H p o):= .of (Same.new h)
theorem Mono.lset{p:Addr}(h:H p=some (.lst xs)):Mono H (upd H p (.lst ys)):=by
 refine⟨λq zs e=>?_,λq zs e=>?_,λq zs e=>?_⟩
 ·by_cases hq:q=p
  ·subst hq;rw[h] at e;cases e
  ·rw[zd hq];exact e
 ·by_cases hq:q=p
  ·subst hq;exact⟨ys,zb⟩
  ·rw[zd hq];exact⟨zs,e⟩
 ·by_cases hq:q=p
  ·subst hq;rw[h] at e;cases e
  ·rw[zd hq];exact⟨zs,e⟩
theorem Mono.keep{n m:Int}(k:Keep a H H')(h:Hand H a n)(h':Hand H' a m):Mono H H':=by
 obtain⟨x,y,z,h,_⟩:=h
 obtain⟨x',y',z',h',_⟩:=h'
 refine⟨λq zs e=>?_,λq zs e=>?_,λq zs e=>?_⟩
 ·exact k q _ (λhq=>by subst hq;rw[h] at e;cases e) e
 ·by_cases hq:q=a
  ·subst hq;exact⟨_,h'⟩
  ·exact ⟨zs,k q _ hq e⟩
 ·exact ⟨zs,k q _ (λhq=>by subst hq;rw[h] at e;cases e) e⟩
theorem Rep.mono(h:Rep H v d)(m:Mono H H'):Rep H' v d:=by
 induction h with
 |non=>exact .non
 |bl b=>exact .bl b
 |int i=>exact .int i
 |str x h=>exact .str x h
 |tup h l b _ ih=>exact .tup (m.tup _ _ h) l b ih
 |lst h=>obtain ⟨ys,e⟩:=m.lst _ _ h;exact .lst e
 |dK h=>obtain ⟨ys,e⟩:=m.dK _ _ h;exact .dK e
theorem Rep.same(h:Rep H v d)(s:Same H H'):Rep H' v d:=h.mono (.of s)
def RepL(H:Hp)(vs:List V)(ds:List D):Prop:=vs.length=ds.length/\∀(i:Nat) (v:V) (d:D),vs[i]?=some v->ds[i]?=some d->Rep H v d
theorem RepL.nil:RepL H [] []:=⟨rfl,λi v d e=>by simp at e⟩
theorem RepL.cons{H:Hp}{v:V}{d:D}{vs:List V}{ds:List D}(h:Rep H v d)(r:RepL H vs ds):RepL H (v::vs) (d::ds):=by
 refine⟨by simp[r.1],λi w e h1 h2=>?_⟩
 cases i with
 |zero=>simp at h1 h2;subst h1;subst h2;exact h
 |succ i=>exact r.2 i w e (by simpa using h1) (by simpa using h2)
theorem RepL.head(r:RepL H (v::vs) (d::ds)):Rep H v d/\RepL H vs ds:=
 ⟨r.2 0 v d rfl rfl,by have:=r.1;simp at this;exact this,λi w e h1 h2=>r.2 (i+1) w e (by simpa using h1) (by simpa using h2)⟩
theorem RepL.mono(r:RepL H vs ds)(m:Mono H H'):RepL H' vs ds:=⟨r.1,λi v d h1 h2=>(r.2 i v d h1 h2).mono m⟩
theorem RepL.append{es:List D}(r:RepL H vs ds)(q:RepL H us es):RepL H (vs ++us) (ds ++es):=by
 refine⟨by rw[F1,F1,r.1,q.1],λi v d h1 h2=>?_⟩
 by_cases hi:i<vs.length
 ·rw[V2 hi] at h1
  rw[V2 (by rw[←r.1];exact hi)] at h2
  exact r.2 i v d h1 h2
 ·rw[P2 ()] at h1
  rw[P2 (by rw[←r.1];lia),←r.1] at h2
  exact q.2 _ v d h1 h2
theorem RepL.get(r:RepL H vs ds)(h:vs[i]?=some v):∃d,ds[i]?=some d/\Rep H v d:=by
 have hi:i<vs.length:=by
  rcases Y1 i vs.length with q|q
  ·exact q
  ·rw[Q0 q] at h;cases h
 have hd:i<ds.length:=by rw[←r.1];exact hi
 exact⟨ds[i],by simp[hd],r.2 i v _ h (by simp[hd])⟩
theorem Rep.mkL{p:Addr}(h:H p=some (.tup vs))(b:ds.length<=1000)(r:RepL H vs ds):Rep H (.ref p) (.tup ds):= .tup h r.1 b r.2
theorem Rep.ofT(h:Rep H v (.tup ds)):∃p vs,v= .ref p/\H p=some (.tup vs)/\RepL H vs ds/\ds.length<=1000:=by
 cases h with
 |tup h l b r=>exact ⟨_,_,rfl,h,⟨l,r⟩,b⟩
theorem Rep.of2{e:D}(h:Rep H v (.tup [d,e])):∃p x y,v= .ref p/\H p=some (.tup [x,y])/\Rep H x d/\Rep H y e:=by
 obtain⟨p,vs,rfl,hp,r,_⟩:=h.ofT
 match vs,r with
 |[x,y],r=>exact ⟨p,x,y,rfl,hp,r.head.1,r.head.2.head.1⟩
 |[],r=>exact absurd r.1 `Z3
 |[_],r=>exact absurd r.1 `Z3
 |_::_::_::_,r=>exact absurd r.1 `Z3
theorem Rep.mk1{p:Addr}{x:V}(h:H p=some (.tup [x]))(a:Rep H x d):Rep H (.ref p) (.tup [d]):= .mkL h `Z3 (.cons a .nil)
theorem Rep.mk2{p:Addr}{x y:V}{e:D}(h:H p=some (.tup [x,y]))(a:Rep H x d)(b:Rep H y e):Rep H (.ref p) (.tup [d,e]):= .mkL h `Z3 (.cons a (.cons b .nil))
noncomputable def zry:D->Bool| .tup _=>true|_=>false
noncomputable def zrs:D->Bool| .int _=>true| .bl _=>true|_=>false
noncomputable def zsx:D->Bool| .bl _=>true|_=>false
noncomputable def zri:D->Bool| .str _=>true|_=>false
theorem Rep.isi(h:Rep H v d):∃t,TyOf K H v t/\W.kitOne K t (.type "tuple")=some (zry d)/\W.kitOne K t (.type "int")=some (zrs d)/\W.kitOne K t (.type "bool")=some (zsx d)/\W.kitOne K t (.type "str")=some (zri d):=by
 cases h with
 |non=>exact ⟨_, .non,rfl,rfl,rfl,rfl⟩
 |bl b=>exact ⟨_, .bl b,rfl,rfl,rfl,rfl⟩
 |int i=>exact ⟨_, .int i,rfl,rfl,rfl,rfl⟩
 |str x _=>exact ⟨_, .str x,rfl,rfl,rfl,rfl⟩
 |tup h _ _ _=>exact ⟨_, .tup h,rfl,rfl,rfl,rfl⟩
 |lst h=>exact ⟨_, .lst h,rfl,rfl,rfl,rfl⟩
 |dK h=>exact ⟨_, .dK h,rfl,rfl,rfl,rfl⟩
noncomputable def zoT:D->Bool| .int _=>true|_=>false
noncomputable def zf6(d:D)(lo hi:Int):Bool:=match d with| .int i=>decide (lo<=i)&&decide (i<=hi)|_=>false
noncomputable def headStrB:D->Bool| .tup (.str _::_)=>true|_=>false
noncomputable def zdD:D->Bool| .str x=>zj x|_=>false
noncomputable def zbC:List Str:=["by","from","to","mark"]
noncomputable def zD:D->Bool
 | .tup [.str w,x]=>if w="long"then zf6 x 0 99 else(zbC.any λy=>decide (y=w))&&zdD x
 |_=>false
noncomputable def zC(d:D):Bool:=match d with
 | .tup [.str w,x]=>if w="not"then zD x else zD d
 |_=>false
noncomputable def zan:D->Bool| .tup ds=>decide (ds.length<=4)&&ds.all zC|_=>false
noncomputable def zfm:D->Bool| .tup [.str w,_]=>decide (w="to")|_=>false
noncomputable def zer:D->Bool| .tup [.str w,x]=>if w="not"then zfm x else decide (w="to")|_=>false
noncomputable def zbl:D->Bool| .non=>true|d=>zf6 d (-999) 999
noncomputable def zeq:D->Bool| .tup ds=>ds.any zer|_=>false
noncomputable def zI:D->Bool| .tup [c,x]=>zan c&&zbl x&&!zeq c|_=>false
noncomputable def zbT:D->Bool
 | .tup [.str w]=>decide (w="keep")
 | .tup [.str w,x]=>(decide (w="put")||decide (w="strike"))&&zdD x
 |_=>false
noncomputable def zbd:D->Bool| .tup [c,x]=>zan c&&zbT x|_=>false
theorem zem{w:Str}{x:D}:zD (.tup [.str w,x])=if w="long"then zf6 x 0 99 else(zbC.any λy=>decide (y=w))&&zdD x:=rfl
theorem zeO{w:Str}{x:D}:zC (.tup [.str w,x])=if w="not"then zD x else zD (.tup [.str w,x]):=rfl
theorem zi9:zan (.tup ds)=(decide (ds.length<=4)&&ds.all zC):=rfl
theorem zl9{c x:D}:zI (.tup [c,x])=(zan c&&zbl x&&!zeq c):=rfl
theorem zqk{c x:D}:zbd (.tup [c,x])=(zan c&&zbT x):=rfl
theorem zr5{w:Str}{x:D}:zbT (.tup [.str w,x])=((decide (w="put")||decide (w="strike"))&&zdD x):=rfl
theorem zjK:zdD (.str x)=zj x:=rfl
theorem zcC:decide (V.str x=V.str y)=decide (x=y):=by
 by_cases h:x=y
 ·subst h;rw[Y0 rfl,Y0 rfl]
 ·rw[E1 h,E1 λz=>h (V.str.inj z)]
theorem zb6(d:D)(h:zD d=true):∃x e,d= .tup [.str x,e]:=by
 unfold zD at h
 split at h
 ·exact ⟨_,_,rfl⟩
 ·cases h
theorem zhC(d:D)(h:zC d=true):∃x e,d= .tup [.str x,e]:=by
 unfold zC at h
 split at h
 ·exact ⟨_,_,rfl⟩
 ·cases h
theorem zdE{e:D}:zD (.tup [.str "not",e])=false:=by
 have h1:¬("not":Str)="long":=`Y3
 have h2:(zbC.any λy=>decide (y=("not":Str)))=false:=`Y3
 rw[zem,N0 h1,h2];rfl
noncomputable def zqR(g:D->Bool):Sp:=λvs H Q _=>∃v d,vs=[v]/\Rep H v d/\∀H',Same H H'->Q (.bl (g d)) H'
theorem zm3{n:Nat}:zcs xs none (some (n:Int))=xs.take n:=by
 unfold zcs
 have e1:sIx xs.length 0 none=0:=rfl
 have e2:sIx xs.length xs.length (some (n:Int))=min n xs.length:=by
  unfold sIx
  have h:¬(n:Int)<0:=()
  simp only[N0 h,Int.toNat_natCast]
 rw[e1,e2,List.drop_zero,Nat.sub_zero,List.take_eq_take_iff]
 lia
theorem zkj{N:Nat}{m c:Int}{src:List (Option Nat)}{Q:VK}(hs:zep src σ=none::σr)(hH:Hand H a m)(hN:N<=900)(hc:0<=c)
 (he:∀(i:Nat) (H1:Hp) (Q1:VK),i<N->Hand H1 a (m+c*i)->Keep a H H1->(∀v d H2,Rep H2 v d->Pd i d->Hand H2 a (m+c*i+c)->Keep a H1 H2->Q1 v H2)->te (some (.int (i:Int))::σr) H1 Q1)
 (q:∀l vs ds H',H l=none->H' l=some (.lst vs)->RepL H' vs ds->ds.length=N->(∀i d,ds[i]?=some d->Pd i d)->Hand H' a (m+c*N)->Keep a H H'->Q (.ref l) H'):zdZ (zce 0) zoZ te src σ Q (Itr 0 N) H:=by
 refine zcY zcp (λl i ys σ' H'=>(∃o,σ'=o::σr)/\(∃ds:List D,RepL H' ys ds/\ds.length=i/\∀j d,ds[j]?=some d->Pd j d)/\Hand H' a (m+c*i)/\Keep a H H') ?_ (λ_ _ _ _ _ _ _=>trivial) ?_ ?_
 ·exact λl hl=>⟨⟨_,hs⟩,⟨[],RepL.nil,rfl,λj d z=>by simp at z⟩,(hH.new hl).mono `Z3,Keep.new hl⟩
 ·rintro l i y ys σ' H1 hl hi rfl ⟨⟨o,rfl⟩,⟨ds,hr,hl2,hp⟩,hH1,k1⟩ hl'
  have nl:=hH.ne hl
  rw[Int.zero_add]
  refine he i H1 _ hi hH1 k1 λv d H2 rv pd hH2 k2=>?_
  have hl2':H2 l=some (.lst ys):=k2 _ _ nl hl'
  have m2:Mono H1 H2:=Mono.keep k2 hH1 hH2
  have m3:Mono H2 (upd H2 l (.lst (ys ++ [v]))):=Mono.lset hl2'
  refine⟨hl2',?_,⟨_,rfl⟩,⟨ds ++ [d],((hr.mono m2).append (.cons rv .nil)).mono m3,?_,?_⟩,(hH2.updNe nl).mono ?_,(k1.trans k2).updNew hl⟩
  ·have:=hr.1
   exact zo ()
  ·rw[F1,hl2];rfl
  ·intro j e he
   by_cases hj:j<ds.length
   ·rw[V2 hj] at he
    exact hp j e he
   ·rw[P2 ()] at he
    have hj2:j=ds.length:=by
     rcases Y1 ds.length j with z|z
     ·rw[Q0 (by simp;lia)] at he;cases he
     ·lia
    subst hj2
    simp at he
    subst he
    rw[hl2];exact pd
  ·rw[show((i+1:Nat):Int)=(i:Int)+1 by lia,Int.mul_add,Int.mul_one]
   lia
 ·rintro l ys σ' H1 hl ⟨⟨o,rfl⟩,⟨ds,hr,hl2,hp⟩,hH1,k1⟩ hl'
  exact q l ys ds H1 hl hl' hr hl2 hp hH1 k1
section
open Sem (wp)
open MeetsSeq MeetsSeq2 MeetsSeq3 Builtin
end
theorem zj3:QE X (.Dict [] [] pos) zoe:=⟨zni⟩
def Dsp(te:TE)(σ:St)(H:Hp)(d:D):Prop:=∀(H1:Hp) (Q:VK),Same H H1->(∀v H2,Same H1 H2->Rep H2 v d->Q v H2)->te σ H1 Q
def zpJ(ta:TA)(σ:St)(H:Hp)(ds:List D):Prop:=∀(H1:Hp) (Q:List V->Hp->Prop),Same H H1->(∀vs H2,Same H1 H2->RepL H2 vs ds->Q vs H2)->ta σ H1 Q
def zsQ(te:TE)(σ:St)(H:Hp)(ds:List D):Prop:=∀(H1:Hp) (Q:VK),Same H H1->(∀l vs H2,Same H1 H2->H2 l=some (.lst vs)->RepL H2 vs ds->Q (.ref l) H2)->te σ H1 Q
section
variable{es:List D}
theorem zpL{i:Int}:Dsp (tC (.int i)) σ H (.int i):=λH1 Q s q=>q _ H1 (Same.refl _) (.int i)
theorem zqw:Dsp (tC .non) σ H .non:=λH1 Q s q=>q _ H1 (Same.refl _) .non
theorem zpU{i:Int}:Dsp (tUn (rU λi=> .int (-i)) (tC (.int i))) σ H (.int (-i)):=λH1 Q s q=>⟨i,rfl,q _ H1 (Same.refl _) (.int (-i))⟩
theorem zpX(h:σ[i]?=some (some v))(r:Rep H v d):Dsp (zqb i) σ H d:=λH1 Q s q=>⟨v,h,q v H1 (Same.refl _) (r.same s)⟩
theorem znC:zpJ znh σ H []:=λH1 Q s q=>q [] H1 (Same.refl _) RepL.nil
theorem zmL(h:Dsp te σ H d)(r:zpJ ta σ H ds):zpJ (zlM te ta) σ H (d::ds):=λH1 Q s q=>
 h H1 _ s λv H2 s2 rv=>r H2 _ (s.trans s2) λvs H3 s3 rs=>q (v::vs) H3 (s2.trans s3) (.cons (rv.same s3) rs)
theorem zn0(h:zpJ ta σ H ds)(hl:ds.length<=1000):zsQ (zrZ ta) σ H ds:=λH1 Q s q=>
 h H1 _ s λvs H2 s2 rs=>⟨Nat.le_of_lt (zo (by rw[rs.1];exact hl)),λp hp=>q p vs _ (s2.trans (Same.new hp)) zb (rs.mono (.new hp))⟩
end
section
variable{tr:TA}{k:Nat}
theorem zrz{Q:List V->Hp->Prop}(h:zsQ te σ H ds)(q:∀l vs H2,Same H H2->H2 l=some (.lst vs)->RepL H2 vs ds->tr σ H2 λxs H3=>Q (.ref l::xs) H3):zlM te tr σ H Q:=h H _ (Same.refl H) q
end
theorem zkY{p:α->Prop}:∀d∈([]:List α),p d:=λ_ z=>nomatch z
theorem zkN{n:Int}(h:Hand H a n)(e:H l=some (.lst vs))(r:RepL H vs ds)(h3:ds.length≠3):l≠a:=λz=>by
 obtain⟨x,m,t,hh,_⟩:=h
 rw[z,hh] at e
 cases e
 exact h3 r.1.symm
section
open PySem.W
section
variable{N:Nat}{lt:Nat->Nat->Bool}
def OkT(N:Nat)(lt:Nat->Nat->Bool){α:Type}:KasT α->(α->Prop)->Prop
 | .ret a,P=>P a
 | .ask i j k,P=>i<N/\j<N/\OkT N lt (k (lt i j)) P
theorem OkT.mono{P Q:α->Prop}(h:∀a,P a->Q a):∀{t:KasT α},OkT N lt t P->OkT N lt t Q
 | .ret a,q=>h a q
 | .ask i j k,⟨h1,h2,q⟩=>⟨h1,h2,OkT.mono h q⟩
theorem OkT.bind{f:α->KasT β}{P:β->Prop}:∀{t:KasT α},OkT N lt t (λa=>OkT N lt (f a) P)->OkT N lt (t.bind f) P
 | .ret a,q=>q
 | .ask i j k,⟨h1,h2,q⟩=>⟨h1,h2,OkT.bind q⟩
theorem OkT.wp{cmp:Nat->Nat->(Bool->Shared->Prop)->Shared->Prop}{I:Shared->Prop}(hc:∀i j (C:Bool->Shared->Prop) s,i<N->j<N->I s->(∀s',I s'->C (lt i j) s')->cmp i j C s){P:α->Prop}{Q:α->Shared->Prop}(hq:∀a s,P a->I s->Q a s):
 ∀{t:KasT α} {s:Shared},I s->OkT N lt t P->t.kasWp cmp Q s
 | .ret a,s,hs,q=>hq a s q hs
 | .ask i j k,s,hs,⟨h1,h2,q⟩=>hc i j _ s h1 h2 hs λs' hs'=>OkT.wp hc hq hs' q
noncomputable abbrev gd(p:Array Nat)(i:Nat):Nat:=p.getD i 0
structure Strict(N:Nat)(lt:Nat->Nat->Bool):Prop where
 tot:∀i j,i<N->j<N->i≠j->lt i j=false->lt j i=true
 tr:∀i j k,i<N->j<N->k<N->lt i j=true->lt j k=true->lt i k=true
 asy:∀i j,i<N->j<N->lt i j=true->lt j i=false
def PermN(N:Nat)(p:Array Nat):Prop:=p.toList.Perm (List.range N)
theorem PermN.size{p:Array Nat}(h:PermN N p):p.size=N:=by
 have:=h.length_eq
 simpa using this
theorem gd_get{p:Array Nat}(h:i<p.size):gd p i=p[i]:=by simp[gd,Array.getD,h]
theorem zis{p q:Array Nat}(h:p[i]?=q[j]?):gd p i=gd q j:=by
 simp only[gd,Array.getD_eq_getD_getElem?,h]
theorem PermN.bd{p:Array Nat}(h:PermN N p)(hi:i<N):gd p i<N:=by
 have hs:=h.size
 rw[gd_get ()]
 have:p[i]∈p.toList:=`Z3
 exact List.mem_range.mp (h.mem_iff.mp this)
theorem PermN.inj{p:Array Nat}(h:PermN N p)(hi:i<N)(hj:j<N)(hij:i≠j):gd p i≠gd p j:=by
 have hs:=h.size
 have nd:p.toList.Nodup:=h.nodup_iff.mpr List.nodup_range
 rw[gd_get (),gd_get ()]
 intro z
 exact hij ((List.getElem_inj (i:=i) (j:=j) (h₀:=by simp;lia) (h₁:=by simp;lia) nd).mp (by simpa using z))
def Sor(lt:Nat->Nat->Bool)(p:Array Nat)(m:Nat):Prop:=∀i j,i<j->j<m->lt (gd p i) (gd p j)=true
def Des(lt:Nat->Nat->Bool)(p:Array Nat)(m:Nat):Prop:=∀i j,i<j->j<m->lt (gd p j) (gd p i)=true
theorem Sor.snoc{p:Array Nat}{n:Nat}(S:Strict N lt)(hp:PermN N p)(h:Sor lt p n)(h1:1<=n)(hn:n<N)(e:lt (gd p (n -1)) (gd p n)=true):Sor lt p (n+1):=by
 intro i j hij hj
 by_cases hjn:j<n
 ·exact h i j hij hjn
 ·have ej:j=n:=()
  subst ej
  by_cases hi:i=j -1
  ·subst hi;exact e
  ·exact S.tr _ _ _ (hp.bd ()) (hp.bd ()) (hp.bd hn) (h i (j -1) () ()) e
theorem Des.snoc{p:Array Nat}{n:Nat}(S:Strict N lt)(hp:PermN N p)(h:Des lt p n)(h1:1<=n)(hn:n<N)(e:lt (gd p n) (gd p (n -1))=true):Des lt p (n+1):=by
 intro i j hij hj
 by_cases hjn:j<n
 ·exact h i j hij hjn
 ·have ej:j=n:=()
  subst ej
  by_cases hi:i=j -1
  ·subst hi;exact e
  ·exact S.tr _ _ _ (hp.bd hn) (hp.bd ()) (hp.bd ()) e (h i (j -1) () ())
theorem zj9{p:Array Nat}(S:Strict N lt)(hp:PermN N p):∀f n,1<=n->n+f<=N->Sor lt p n->OkT N lt (kas_asc p f n) (λm=>n<=m/\m<=n+f/\Sor lt p m/\(m<n+f->lt (gd p m) (gd p (m -1))=true))
 |0,n,_,_,hs=>⟨P0 _,P0 _,hs,λh=>()⟩
 |f+1,n,h1,hn,hs=>by
  refine⟨hp.bd (),hp.bd (),?_⟩
  cases hc:lt (gd p n) (gd p (n -1))with
  |true=>
   show OkT N lt (if true=true then _ else _) _
   rw[R0 rfl]
   exact⟨P0 _,(),hs,λ_=>hc⟩
  |false=>
   show OkT N lt (if false=true then _ else _) _
   rw[N0 ⋯]
   refine OkT.mono (λm hm=>⟨(),(),hm.2.2.1,λh=>hm.2.2.2 ()⟩) (zj9 S hp f (n+1) () () (hs.snoc S hp h1 () (S.tot _ _ (hp.bd ()) (hp.bd ()) (hp.inj () () ()) hc)))
theorem zlp{p:Array Nat}(S:Strict N lt)(hp:PermN N p):∀f n,1<=n->n+f<=N->Des lt p n->OkT N lt (kas_desc f p n 0) (λr=>r.1=p/\n<=r.2.1/\r.2.1<=n+f/\Des lt p r.2.1/\r.2.2=0)
 |0,n,_,_,hs=>⟨rfl,P0 _,P0 _,hs,rfl⟩
 |f+1,n,h1,hn,hs=>by
  refine⟨hp.bd (),hp.bd (),?_⟩
  cases hc:lt (gd p n) (gd p (n -1))with
  |true=>
   show OkT N lt (if true=true then(if 0>0 then _ else _)else _) _
   rw[R0 rfl,N0 ⋯]
   exact OkT.mono (λm hm=>⟨hm.1,(),(),hm.2.2.2⟩) (zlp S hp f (n+1) () () (hs.snoc S hp h1 () hc))
  |false=>
   show OkT N lt (if false=true then _ else _) _
   rw[N0 ⋯]
   refine⟨hp.bd (),hp.bd (),?_⟩
   have hd:lt (gd p (n -1)) (gd p n)=true:=S.tot _ _ (hp.bd ()) (hp.bd ()) (hp.inj () () ()) hc
   show OkT N lt (if lt (gd p (n -1)) (gd p n)=true then _ else _) _
   rw[R0 hd]
   exact⟨rfl,P0 _,by show n<=n+(f+1);lia,hs,rfl⟩
theorem ziT{p:Array Nat}(hp:PermN N p)(n:Nat):PermN N (kas_rev p 0 n):=(Array.perm_iff_toList_perm.mp (mirror_perm p 0 n _)).trans hp
theorem zpF{p:Array Nat}{n:Nat}(hp:PermN N p)(hn:n<=N)(h:Des lt p n):Sor lt (kas_rev p 0 n) n:=by
 have hs:=hp.size
 have e:∀k,k<n->gd (kas_rev p 0 n) k=gd p (n -1 -k):=λk hk=>by
  refine zis ?_
  show(mirror p 0 n ((n -0)/2))[k]?=_
  rw[getElem?_mirror_all (),R0 ⟨W1 _,hk⟩,Nat.zero_add]
 intro i j hij hj
 rw[e i (),e j hj]
 exact h (n -1 -j) (n -1 -i) () ()
def zoV(N:Nat)(lt:Nat->Nat->Bool)(r:Nat×Array Nat):Prop:=PermN N r.2/\Sor lt r.2 r.1/\1<=r.1/\r.1<=N
theorem zoS{p:Array Nat}{n:Nat}(S:Strict N lt)(hp:PermN N p)(h1:1<=n)(hn:n<=N)(h:Des lt p n):OkT N lt (kas_tail3 n N p) (zoV N lt):=by
 refine OkT.bind (OkT.mono (λm hm=>?_) (zj9 S (ziT hp n) (N -n) n h1 () (zpF hp hn h)))
 exact⟨ziT hp n,hm.2.2.1,by have:=hm.1;lia,by have:=hm.2.1;lia⟩
theorem zo3{p:Array Nat}(S:Strict N lt)(hp:PermN N p)(h1:1<=N):OkT N lt (kas_count N p) (zoV N lt):=by
 refine OkT.bind (OkT.mono (λn hn=>?_) (zj9 S hp (N -1) 1 (P0 _) () (λi j hij hj=>())))
 obtain⟨n1,n2,hs,hl⟩:=hn
 by_cases hN:(n==N)=true
 ·rw[R0 hN]
  exact⟨hp,hs,n1,()⟩
 ·have hne:n≠N:=by simpa using hN
  rw[N0 hN]
  by_cases h2:n>1
  ·rw[R0 h2]
   refine⟨hp.bd (),hp.bd (),?_⟩
   show OkT N lt (if lt (gd p 0) (gd p (n -1))=true then _ else _) _
   rw[R0 (hs 0 (n -1) () ())]
   exact⟨hp,hs,n1,()⟩
  ·rw[N0 h2]
   have e1:n=1:=()
   subst e1
   have hd:Des lt p 2:=λi j hij hj=>by
    have ei:i=0:=()
    have ej:j=1:=()
    subst ei ej
    exact hl ()
   refine OkT.bind (OkT.mono (λr hr=>?_) (zlp S hp (N -(1+1)) (1+1) () () hd))
   obtain⟨e1,r1,r2,r3,r4⟩:=hr
   rw[N0 (),e1]
   exact zoS S hp () () r3
theorem zgo{p:Array Nat}{k:Nat}(S:Strict N lt)(hp:PermN N p)(hs:Sor lt p k)(hk:k<N):∀f l r,l<=r->r<=k->r -l<=f->(∀i,i<l->lt (gd p i) (gd p k)=true)->(∀i,r<=i->i<k->lt (gd p k) (gd p i)=true)->
 OkT N lt (kas_place p k f l r) (λm=>m<=k/\(∀i,i<m->lt (gd p i) (gd p k)=true)/\∀i,m<=i->i<k->lt (gd p k) (gd p i)=true)
 |0,l,r,h1,h2,h3,ha,hb=>⟨(),ha,λi hi=>hb i ()⟩
 |f+1,l,r,h1,h2,h3,ha,hb=>by
  by_cases hlr:l≥r
  ·show OkT N lt (if l≥r then _ else _) _
   rw[R0 hlr]
   exact⟨(),ha,λi hi=>hb i ()⟩
  ·show OkT N lt (if l≥r then _ else _) _
   rw[N0 hlr]
   refine⟨hp.bd hk,hp.bd (),?_⟩
   cases hc:lt (gd p k) (gd p ((l+r)/2))with
   |true=>
    show OkT N lt (if true=true then _ else _) _
    rw[R0 rfl]
    refine zgo S hp hs hk f l ((l+r)/2) () () () ha λi hi hik=>?_
    by_cases e:i=(l+r)/2
    ·subst e;exact hc
    ·exact S.tr _ _ _ (hp.bd hk) (hp.bd ()) (hp.bd ()) hc (hs ((l+r)/2) i () hik)
   |false=>
    show OkT N lt (if false=true then _ else _) _
    rw[N0 ⋯]
    have hm:lt (gd p ((l+r)/2)) (gd p k)=true:=S.tot _ _ (hp.bd hk) (hp.bd ()) (hp.inj hk () ()) hc
    refine zgo S hp hs hk f ((l+r)/2+1) r () h2 () (λi hi=>?_) hb
    by_cases e:i=(l+r)/2
    ·subst e;exact hm
    ·exact S.tr _ _ _ (hp.bd ()) (hp.bd ()) (hp.bd hk) (hs i ((l+r)/2) () ()) hm
theorem zkU{p:Array Nat}{k l:Nat}(hp:PermN N p)(hk:k<N)(hl:l<=k)(hs:Sor lt p k)(ha:∀i,i<l->lt (gd p i) (gd p k)=true)(hb:∀i,l<=i->i<k->lt (gd p k) (gd p i)=true):Sor lt (bubble p k (k -l)) (k+1):=by
 have hz:=hp.size
 have g:∀i,(bubble p k (k -l))[i]?=if i=l then p[k]? else if l<i/\i<=k then p[i -1]? else p[i]?:=λi=>by
  rw[getElem?_bubble () (k -l) (),show k -(k -l)=l by lia]
 have g1:gd (bubble p k (k -l)) l=gd p k:=zis (by rw[g,R0 rfl])
 have g2:∀i,l<i->i<=k->gd (bubble p k (k -l)) i=gd p (i -1):=λi h1 h2=>zis (by rw[g,N0 (),R0 ⟨h1,h2⟩])
 have g3:∀i,i<l->gd (bubble p k (k -l)) i=gd p i:=λi h1=>zis (by rw[g,N0 (),N0 ()])
 intro i j hij hj
 rcases Nat.lt_trichotomy i l with hi|hi|hi
 ·rw[g3 i hi]
  rcases Nat.lt_trichotomy j l with h|h|h
  ·rw[g3 j h];exact hs i j hij ()
  ·subst h;rw[g1];exact ha i hi
  ·rw[g2 j h ()];exact hs i (j -1) () ()
 ·subst hi
  rw[g1,g2 j hij ()]
  exact hb (j -1) () ()
 ·rw[g2 i hi (),g2 j () ()]
  exact hs (i -1) (j -1) () ()
theorem zoU(S:Strict N lt):∀f (p:Array Nat) k,PermN N p->Sor lt p k->k+f=N->OkT N lt (kas_bin f p k) (λp'=>PermN N p'/\Sor lt p' N)
 |0,p,k,hp,hs,hk=>⟨hp,by have:k=N:=()
                         rw[←this];exact hs⟩
 |f+1,p,k,hp,hs,hk=>by
  refine OkT.bind (OkT.mono (λl hl=>?_) (zgo S hp hs () k 0 k (W1 _) (P0 _) () (λi hi=>()) (λi hi hik=>())))
  exact zoU S f _ (k+1) ((Array.perm_iff_toList_perm.mp (bubble_perm p k _)).trans hp) (zkU hp () hl.1 hs hl.2.1 hl.2.2) ()
theorem sort_ok(S:Strict N lt)(h1:1<=N):OkT N lt (kas_sort N) (λp=>PermN N p/\Sor lt p N):=by
 have h0:PermN N (List.toArray (List.range N)):=by show(List.range N).Perm _;exact List.Perm.refl _
 refine OkT.bind (OkT.mono (λr hr=>?_) (zo3 S h0 h1))
 obtain⟨c1,c2,c3,c4⟩:=hr
 by_cases h:r.1<N
 ·rw[R0 h]
  have e:max r.1 1=r.1:=()
  rw[e]
  exact zoU S _ _ _ c1 c2 ()
 ·rw[N0 h]
  have e:r.1=N:=()
  rw[e] at c2
  exact⟨c1,c2⟩
end
def RawD(h:Heap)(d:Addr)(ks:List Value)(ep:Nat):Prop:=∃o es,h.get? d=some o/\o.ExactDict/\o.data= .dict es ep/\es.toList.map (·.key)=ks
theorem RawD.at{h:Heap}{d:Addr}(x:RawD h d ks ep)(e:∀o,h.get? d=some o->h'.get? d=some o):RawD h' d ks ep:=let⟨o,es,ho,r⟩:=x;⟨o,es,e _ ho,r⟩
theorem RawD.ty{d:Addr}(x:RawD s.heap d ks ep):s.TypeIs (.ref d) "dict":=let⟨o,_,ho,hc,_⟩:=x;⟨o,ho,hc.1⟩
theorem RawD.lt{h:Heap}{d:Addr}(x:RawD h d ks ep):d<h.objs.size:=let⟨_,_,ho,_⟩:=x;V0 ho
section
variable{d:Addr}
theorem znV{R:Value->Shared->Prop}(nsys:(d==sysModules)=false)(x:RawD s.heap d ks ep)(q:R (.ref s.heap.objs.size) {s with heap:=s.heap.push {cls:= .type "dict_keyiterator",data:= .fields #[.ref d, .int 0 0, .int ks.length 0, .int ep 0]}}):
 wpAny `V3 A (pyIter (.ref d)) R E s:=by
 have ty:=x.ty
 obtain⟨o,es,ho,_,hdat,hks⟩:=x
 refine wpAny_pyIter_slot ty F.slot_dict_iter (Y2 F.slot_dict_iter ty F.entry_dict_iter ?_ (F.args_dict_iter_1 _))
 unfold Builtin.«dict.__iter__»
 refine C0 (by unfold Builtin.Dict.dictSlotNone;refine C0 (wpAny_notOrdered_dict ty ?_);show wpAny _ _ (pure (Value.ref d)) _ _ s;exact K0 (by
  show wpAny _ _ (Builtin.Dict.showsAll d>>=_) _ _ s
  unfold Builtin.Dict.showsAll
  rw[N0 (λz=>by rw[nsys] at z;cases z)]
  refine C0 (K0 (C0 (wpAny_dictEntries ho hdat (C0 (wpAny_dictEpoch ho hdat ?_)))))
  have sz:es.size=ks.length:=by rw[←hks];simp
  refine C0 (D2 (K0 ⟨_,rfl,"dict_keyiterator",_,⟨_,O0 _ rfl,rfl⟩,F.slot_dict_keyiterator_next.lookup,?_⟩))
  simpa[rawInt,sz] using q))
theorem znj{R:Option Value->Shared->Prop}(y:s.heap.IsKeyIter it d i ks.length ep)(x:RawD s.heap d ks ep)(hx:ks[i]?=some key)
 (q:∀h',h'.IsKeyIter it d (i+1) ks.length ep->Heap.SameBut it s.heap h'->R (some key) {s with heap:=h'}):wpAny `V3 A (pyNext (.ref it)) R E s:=by
 obtain⟨o,ho,hc,hd⟩:=id y
 obtain⟨od,es,hod,_,hdd,hks⟩:=x
 have sz:es.size=ks.length:=by rw[←hks];simp
 have li:i<ks.length:=by
  rcases Y1 i ks.length with h|h
  ·exact h
  ·rw[Q0 h] at hx;cases hx
 have li':i<es.size:=()
 have ek:es[i].key=key:=by
  have e1:ks[i]?=some es[i].key:=by rw[←hks];simp[li']
  rw[e1] at hx;exact U1 hx
 unfold pyNext
 refine C0 (wpAny_attempt (wpAny_callSpecial?_slot (name:=Str.ofString "__next__") y.typeIs F.slot_dict_keyiterator_next (Y2 F.slot_dict_keyiterator_next y.typeIs F.entry_dict_keyiterator_next ?_ (F.args_dict_keyiterator_next_1 _))))
 refine C0 (K0 (C0 (C0 ?_)))
 first|refine C0 (wpAny_typeNameOfWhole_keyiter y.typeIs (K0 ?_))|refine C0 (wpAny_typeNameOf_keyiter y.typeIs (K0 ?_))
 refine C0 (wpAny_fieldsOf ho hd ?_)
 simp only[(by decide:Builtin.Dict_items.ownsTuple "dict_keyiterator"=false),B3,if_false]
 show wpAny _ _ (if(Value.ref d==Value.none)=true then _ else _) _ _ s
 rw[N0 (λz=>nomatch z)]
 refine C0 (K0 (C0 (wpAny_dictEntries hod hdd ?_)))
 rw[N0 (λz=>by rw[sz] at z;simp at z)]
 refine C0 (K0 (C0 (wpAny_dictEpoch hod hdd ?_)))
 rw[N0 (λz=>by simp at z)]
 refine K0 ?_
 simp only[(by lia:¬((i:Int)<0)),if_false,Int.toNat_natCast,Array.getElem?_eq_getElem li']
 refine C0 ?_
 first|refine C0 (wpAny_typeNameOfWhole_keyiter y.typeIs (K0 ?_))|refine C0 (wpAny_typeNameOf_keyiter y.typeIs (K0 ?_))
 refine C0 (wpAny_isOneOf_keyiter y.typeIs ?_)
 show wpAny _ _ (setField (.ref it) 1 (rawInt ((i:Int)+1))>>=_) _ _ s
 refine C0 (wpAny_setField ho hd `Z3 ?_)
 have y':(s.heap.update it (Obj.mapFields (·.setIfInBounds 1 (rawInt ((i:Int)+1))))).IsKeyIter it d (i+1) ks.length ep:=⟨_,Heap.get?_update_self _ ho (Obj.isFreed_of_fields (Obj.data_mapFields hd _)),(Obj.cls_mapFields ..).trans hc,by rw[Obj.data_mapFields hd];simp[rawInt]⟩
 refine C0 (X2 (C0 (wpAny_isOneOf_keyiter (s:={s with heap:=s.heap.update it (Obj.mapFields (·.setIfInBounds 1 (rawInt ((i:Int)+1))))}) y'.typeIs ?_)))
 show wpAny _ _ (pure es[i].key) _ _ _
 rw[ek]
 exact K0 (K0 ⟨_,rfl,K0 (q _ y' (Heap.SameBut.update ..))⟩)
theorem zqI{R:Option Value->Shared->Prop}(hh:A.handled=none)(y:s.heap.IsKeyIter it d ks.length ks.length ep)(x:RawD s.heap d ks ep)(q:∀h',Heap.ExtBut it s.heap h'->R none {s with heap:=h'}):wpAny `V3 A (pyNext (.ref it)) R E s:=by
 obtain⟨o,ho,hc,hd⟩:=id y
 obtain⟨od,es,hod,_,hdd,hks⟩:=x
 have sz:es.size=ks.length:=by rw[←hks];simp
 unfold pyNext
 refine C0 (wpAny_attempt (wpAny_callSpecial?_slot (name:=Str.ofString "__next__") y.typeIs F.slot_dict_keyiterator_next (Y2 F.slot_dict_keyiterator_next y.typeIs F.entry_dict_keyiterator_next ?_ (F.args_dict_keyiterator_next_1 _))))
 refine C0 (K0 (C0 (C0 ?_)))
 first|refine C0 (wpAny_typeNameOfWhole_keyiter y.typeIs (K0 ?_))|refine C0 (wpAny_typeNameOf_keyiter y.typeIs (K0 ?_))
 refine C0 (wpAny_fieldsOf ho hd ?_)
 simp only[(by decide:Builtin.Dict_items.ownsTuple "dict_keyiterator"=false),B3,if_false]
 show wpAny _ _ (if(Value.ref d==Value.none)=true then _ else _) _ _ s
 rw[N0 (λz=>nomatch z)]
 refine C0 (K0 (C0 (wpAny_dictEntries hod hdd ?_)))
 rw[N0 (λz=>by rw[sz] at z;simp at z)]
 refine C0 (K0 (C0 (wpAny_dictEpoch hod hdd ?_)))
 rw[N0 (λz=>by simp at z)]
 refine K0 ?_
 simp only[(by lia:¬((ks.length:Int)<0)),if_false,Int.toNat_natCast,Array.getElem?_eq_none (show es.size<=ks.length by lia)]
 refine C0 ?_
 first|refine C0 (wpAny_typeNameOfWhole_keyiter y.typeIs (K0 ?_))|refine C0 (wpAny_typeNameOf_keyiter y.typeIs (K0 ?_))
 show wpAny _ _ (setField (.ref it) 0 .none>>=_) _ _ s
 refine C0 (wpAny_setField ho hd `Z3 ?_)
 show wpAny _ _ (newExc (.type "StopIteration") []>>=_) _ _ _
 refine C0 (by
  simp only[newExc,newTuple]
  refine C0 (D2 (C0 (m:=firstArgMember _ _) (wpAny_of_eq (a:=Value.none) (by first|rfl|(simp only[firstArgMember];rfl)) (D2 ?_ (by size_fits)))) (by size_fits))
  simp only[raiseNew]
  refine C0 (wpAny_handled ?_)
  rw[show A.in1.handled=none from hh]
  refine C0 (K0 (wpAny_throw ?_));refine C0 (wpAny_isInstance (T:="StopIteration") (b:=true) ⟨_,O0 _ rfl,rfl⟩ isSubtype_stop ?_)
  exact K0 (q _ (((Heap.SameBut.update ..).extBut.push _).push _)))
theorem zmb(hh:A.handled=none)(hne:d≠it):Walks prog w A it [it,d] [it] ks.length (λi v=>ks[i]?=some v) (λi h=>h.IsKeyIter it d i ks.length ep/\RawD h d ks ep) where
 sub:=λb hb=>by simp at hb;simp[hb]
 frame:=λ_ _ _ st hk=>⟨st.1.at λo e=>hk it `Z3 o e,st.2.at λo e=>hk d `Z3 o e⟩
 item:=λi s Q E hi st hQ=>znj st.1 st.2 (show ks[i]?=some ks[i] by simp[hi]) λh' y' hs=>hQ _ h' s.toks (by simp[hi]) ⟨y',st.2.at λo e=>hs.extBut d o hne e⟩ λb o hb e=>hs.extBut b o (λh=>hb (by simp[h])) e
 done:=λs Q E st hQ=>zqI hh st.1 st.2 λh' he=>hQ h' s.toks λb o hb e=>he b o (λh=>hb (by simp[h])) e
 self:=λ_ _ _ _ st hQ=>wpAny_pyIter_keyiter st.1 hQ
theorem zpS(nsys:(d==sysModules)=false):KdlSrc prog w "dict" d d ks.length (λi v=>ks[i]?=some v) (λh=>RawD h d ks ep) where
 type:=λ_ hm=>hm.ty
 there:=λ_ hm=>⟨hm.lt,hm.lt⟩
 keep:=λ_ _ hm hk=>hm.at λo e=>hk d (.inl rfl) o e
 notList:=⋯
 notTuple:=⋯
 hint:=λ_ _ _ _ hm hq=>kdl_hint_dict hm.ty hq
 iter:=λ_ _ hh hm=>⟨_,_,(λ_ _ hq=>znV nsys hm hq),zmb hh (P1 hm.lt),⟨⟨_,O0 _ rfl,rfl,rfl⟩,hm.at λo e=>G0 _ e⟩⟩
end
def Kp(a:Addr)(s s1:Shared):Prop:=s1={s with heap:=s1.heap}/\∀b o,b≠a->s.heap.get? b=some o->s1.heap.get? b=some o
theorem zmp{vs:List Value}{n:Nat}{R:PySem.Fin->Shared->Prop}{κ:SortKind}(ho:s.heap.get? a=some (seqObj "list" vs.toArray n))(h64:vs.length<64)
 (hk:2<=vs.length->∀s1:Shared,Kp a s s1->(∀C:SortKind->Shared->Prop,C κ s1->wpAny `V3 A (keyKind' vs.toArray) C E s1)/\(kas_sort vs.length).kasWp (kas_ask prog w A κ vs) (λp s'=>s'=s1/\G p) s1)
 (q:∀(out:List Value) (h':Heap) (c:Nat),(vs.length<2/\out=vs\/∃p:Array Nat,p.size=vs.length/\G p/\out=p.toList.map λi=>vs.getD i Value.none)->(∀b o,b≠a->s.heap.get? b=some o->h'.get? b=some o)->
   h'.get? a=some (seqObj "list" out.toArray c)->R (.done (.ret .none)) {s with heap:=h'}):wpAny `V3 A (Builtin.«list.sort» ⟨[.ref a],[]⟩) R E s:=by
 have la:a<s.heap.objs.size:=V0 ho
 have lz:vs.toArray.size=vs.length:=Z0 ..
 have u1:=Heap.SameBut.update s.heap a (Obj.mapSeq λ_=>(#[]:Array Value))
 obtain⟨e1,g1⟩:∃e1,(s.heap.update a (Obj.mapSeq λ_=>(#[]:Array Value))).get? a=some (seqObj "list" #[] e1):=⟨_,get?_update_seq ho λ_=> #[]⟩
 rw[list_sort_plain]
 refine C0 (listItems_at ho rfl (C0 (listUpdate_at ho rfl (C0 (seqEpoch_at g1 rfl (C0 (wpAny_newTuple (C0 (wpAny_newList (X2 ?_) (W1 _))) (by show vs.length<=_;rw[sizeLine_eq];lia))))) (by rw[lz,sizeLine_eq];lia) (W1 _))))
 generalize hs1:({s with heap:=((s.heap.update a (Obj.mapSeq λ_=>(#[]:Array Value))).push (seqObj "tuple" vs.toArray 0)).push (seqObj "list" #[] 0)}:Shared)=s1
 have kp:∀b o,(s.heap.update a (Obj.mapSeq λ_=>(#[]:Array Value))).get? b=some o->s1.heap.get? b=some o:=λb o e=>by rw[←hs1];exact G0 _ (G0 _ e)
 have k1:Kp a s s1:=⟨by rw[←hs1],λb o nb e=>kp b o ((u1.2 b nb).trans e)⟩
 have g2:s1.heap.get? a=some (seqObj "list" #[] e1):=kp a _ g1
 dsimp only
 have fin:∀(st:SortSt) (out:List Value),(arrOf st).map (·.2)=out.toArray->failedOf st=none->out.length<64->(vs.length<2/\out=vs\/∃p:Array Nat,p.size=vs.length/\G p/\out=p.toList.map λi=>vs.getD i Value.none)->
  wpAny `V3 A (do
   let touched:=(←seqEpoch a) !=e1
   Builtin.List.listUpdate (.ref a) λ_=>(arrOf st).map (·.2)
   if let some e:=failedOf st then rule "list.sort.comparison-raised";throw e
   if touched then rule "list.sort.modified";raiseError "ValueError" "list modified during sort"
   ret .none) R E s1:=by
  intro st out ho hf hl hc
  rw[ho]
  have u2:=Heap.SameBut.update s1.heap a (Obj.mapSeq λ_=>out.toArray)
  obtain⟨c2,g3⟩:∃c2,(s1.heap.update a (Obj.mapSeq λ_=>out.toArray)).get? a=some (seqObj "list" out.toArray c2):=⟨_,get?_update_seq g2 λ_=>out.toArray⟩
  refine C0 (seqEpoch_at g2 rfl (C0 (listUpdate_at g2 rfl ?_ (W1 _) (by show out.toArray.size<=_;rw[Z0,sizeLine_eq];lia))))
  rw[hf]
  simp only[bne_self_eq_false,B3,if_false]
  have:=q out _ c2 hc (λb o nb e=>(u2.2 b nb).trans (k1.2 b o nb e)) g3
  rw[k1.1]
  exact K0 this
 by_cases h2:vs.toArray.size<2
 ·rw[R0 h2,R0 h2]
  refine C0 (K0 ?_)
  rw[StateT.run_pure]
  refine C0 (K0 ?_)
  refine fin _ vs ?_ rfl h64 (.inl ⟨(),rfl⟩)
  apply Array.toList_inj.mp
  show((vs.toArray.zip vs.toArray).map (·.2)).toList=_
  rw[Array.toList_map,Array.toList_zip]
  exact List.map_snd_zip (P0 _)
 ·rw[N0 h2,N0 h2]
  obtain⟨hkk,hw⟩:=hk () s1 k1
  refine C0 (hkk _ ?_)
  refine C0 (W2 (kat_run (E:=E) (Q:=λst' s'=>s'=s1/\∃p:Array Nat,p.size=vs.length/\arrOf st'=p.map (kas_item (vs.toArray.zip vs.toArray))/\failedOf st'=none/\G p) rfl () h64 (λp st' s' x1 x2 x3 x4=>⟨x4.1,p,x1,x2,x3,x4.2⟩) hw) ?_ λ_ _ e=>e)
  rintro⟨⟨⟩,st'⟩ s' ⟨rfl,p,hp,har,hf,hG⟩
  refine fin st' (p.toList.map λi=>vs.getD i Value.none) (kat_snds rfl har) hf (by rw[D0,Array.length_toList,hp];exact h64) (.inr ⟨p,hp,hG,rfl⟩)
theorem zkL{r d:Addr}{T:String}{n:Nat}{Pn:Nat->Value->Prop}{R:List Value->Shared->Prop}(K:KdlSrc prog w T r d n Pn OK)(hh:A.handled=none)(hok:OK s.heap)(hn:n<=sizeLine)
 (q:∀(h':Heap) (tk:Nat) (acc:Array Value),(∀b o,s.heap.get? b=some o->h'.get? b=some o)->s.heap.objs.size<h'.objs.size->ItemsOf Pn acc n->R acc.toList {s with heap:=h',toks:=tk}):wpAny `V3 A (collect (.ref r)) R E s:=by
 have lt:=K.there _ hok
 have g0:(s.heap.push {cls:= .type "list",data:= .seq ([]:List Value).toArray}).get? s.heap.objs.size=some {cls:= .type "list",data:= .seq #[]}:=O0 _ rfl
 have key:=kdl_extend (A:=A) (s:={s with heap:=s.heap.push {cls:= .type "list",data:= .seq ([]:List Value).toArray}}) (R:=λ(f:Result) (s':Shared)=>∃(h':Heap) (tk:Nat) (acc':Array Value) (c':Nat),f= .ok (.ret (.ref s.heap.objs.size))/\s'={s with heap:=h',toks:=tk}/\(∀b o,s.heap.get? b=some o->h'.get? b=some o)/\h'.get? s.heap.objs.size=some {cls:= .type "list",dict:=none,data:= .seq acc' c',slots:= #[]}/\ItemsOf Pn acc' n)
  K hh (K.keep _ _ hok λb _ o e=>G0 _ e) s.heap.objs.size (Nat.ne_of_gt lt.1) (Nat.ne_of_gt lt.2) (.ref s.heap.objs.size) 0 g0 (λh' tk acc' c' kp gS ia=>⟨h',tk,acc',c',rfl,rfl,λb o e=>kp b o (P1 (V0 e)) (G0 _ e),gS,ia⟩) hn
 unfold collect
 refine C0 (wpAny_runValue (codeAny_builtin entry_proto_collect' (by
  rw[Around.under_plainId F.plain_proto_collect _]
  show wpAny _ A.in1 (newList []>>=λl=>again (.builtin "list.__iadd__" ⟨[l, .ref r],[]⟩)) _ _ s
  refine C0 (D2 (K0 ⟨plainId_quiet F.plain_list_iadd _,codeAny_builtin entry_list_iadd' (by
   rw[Around.under_plainId F.plain_list_iadd _]
   show wpAny _ A.in1 (Builtin.List.listExtendWith (.ref s.heap.objs.size) (.ref r) (.ref s.heap.objs.size)) _ _ _
   refine W2 key (λfin s' x=>?_) λe s' x=>?_
   ·cases fin with
    |done f=>
     obtain⟨h',tk,acc',c',e,rfl,kp,gS,ia⟩:=x;cases e
     show wpAny _ A (load s.heap.objs.size>>=_) _ _ _
     exact C0 (wpAny_load gS (K0 (q h' tk acc' kp (V0 gS) ia)))
    |again c₁=>
     refine⟨x.1,codeAny_mono x.2 λf s₂ y=>?_⟩
     obtain⟨h',tk,acc',c',rfl,rfl,kp,gS,ia⟩:=y
     show wpAny _ A (load s.heap.objs.size>>=_) _ _ _
     exact C0 (wpAny_load gS (K0 (q h' tk acc' kp (V0 gS) ia)))
   ·obtain ⟨_,_,_,_,e',_⟩:=x
    cases e')⟩)))))
theorem zkn{r d:Addr}{T:String}{R:Value->Shared->Prop}{κ:SortKind}(K:KdlSrc prog w T r d ks.length (λi v=>ks[i]?=some v) OK)(hh:A.handled=none)(hok:OK s.heap)(h64:ks.length<64)
 (hk:2<=ks.length->∀s1:Shared,(∀b o,s.heap.get? b=some o->s1.heap.get? b=some o)->(∀C:SortKind->Shared->Prop,C κ s1->wpAny `V3 A.in1.in1 (keyKind' ks.toArray) C (λ_ _=>False) s1)/\(kas_sort ks.length).kasWp (kas_ask prog w A.in1.in1 κ ks) (λp s'=>s'=s1/\G p) s1)
 (q:∀(D:Addr) (out:List Value) (h':Heap) (tk c:Nat),(ks.length<2/\out=ks\/∃p:Array Nat,p.size=ks.length/\G p/\out=p.toList.map λi=>ks.getD i Value.none)->(∀b o,s.heap.get? b=some o->h'.get? b=some o)->
   s.heap.objs.size<=D->h'.get? D=some (seqObj "list" out.toArray c)->R (.ref D) {s with heap:=h',toks:=tk}):wpAny `V3 A (call (.builtin "sorted") [.ref r]) R E s:=by
 refine Calls.call_function_entry kind_sorted plain_sorted entry_sorted (args_sorted1 _) ?_
 unfold Builtin.«sorted»
 refine C0 (m:=checkCount "sorted" 1 1 _) (K0 (C0 (zkL (A:=A.in1) K hh hok (by rw[sizeLine_eq];lia) λh1 tk acc kp gr0 hacc=>?_)))
 have ea:acc.toList=ks:=by
  apply List.ext_getElem?
  intro i
  rcases Y1 i ks.length with h|h
  ·have hi:i<acc.size:=by rw[hacc.1];exact h
   rw[Array.getElem?_toList,Array.getElem?_eq_getElem hi]
   exact(hacc.2 i acc[i] (by rw[Array.getElem?_eq_getElem hi])).symm
  ·rw[Q0 h,Q0 (by rw[Array.length_toList,hacc.1];exact h)]
 rw[ea]
 refine C0 (wpAny_newList ?_ (by rw[sizeLine_eq];lia))
 have hD:(h1.push (seqObj "list" ks.toArray 0)).get? h1.objs.size=some (seqObj "list" ks.toArray 0):=O0 _ rfl
 have k2:∀b o,s.heap.get? b=some o->(h1.push (seqObj "list" ks.toArray 0)).get? b=some o:=λb o e=>G0 _ (kp b o e)
 have gr:s.heap.objs.size<=h1.objs.size:=Nat.le_of_lt gr0
 show wpAny _ _ _ _ _ {s with heap:=h1.push (seqObj "list" ks.toArray 0),toks:=tk}
 refine C0 (X2 (Y2 slot_list_sort ⟨_,hD,rfl⟩ entry_list_sort (zmp (G:=G) (κ:=κ) (s:={s with heap:=h1.push (seqObj "list" ks.toArray 0),toks:=tk}) hD h64 (λh2 s1 k1=>?_) λout h' c hc hkp hg=>?_) (args_list_sort _)))
 ·obtain ⟨x1,x2⟩:=hk h2 s1 λb o e=>k1.2 b o (P1 (O1 (V0 e) gr)) (k2 b o e)
  exact⟨λC hC=>W2 (x1 C hC) (λ_ _ z=>z) λ_ _ z=>z.elim,x2⟩
 ·exact ⟨_,rfl,K0 ⟨_,rfl,q h1.objs.size out h' tk c hc (λb o e=>hkp b o (P1 (O1 (V0 e) gr)) (k2 b o e)) gr hg⟩⟩
noncomputable abbrev ltS(x y:Str):Bool:=decide (x.cps.toList<y.cps.toList)
noncomputable def ltP(p q:Str×Str):Bool:=if p.1=q.1 then(if p.2=q.2 then false else ltS p.2 q.2)else ltS p.1 q.1
theorem zk5:∀(a b:List Nat),a≠b->¬a<b->b<a
 |[],[],h,_=>absurd rfl h
 |[],b::bs,_,h=>absurd (List.nil_lt_cons b bs) h
 |a::as,[],_,_=>List.nil_lt_cons a as
 |a::as,b::bs,h,hn=>by
  rw[List.cons_lt_cons_iff] at hn⊢
  rcases Nat.lt_trichotomy a b with q|q|q
  ·exact absurd (.inl q) hn
  ·subst q
   exact .inr ⟨rfl,zk5 as bs (λz=>h (by rw[z])) (λz=>hn (.inr ⟨rfl,z⟩))⟩
  ·exact .inl q
theorem zjZ:∀{a b c:List Nat},a<b->b<c->a<c
 |_,[],_,h,_=>absurd h `Z3
 |_,_::_,[],_,h=>absurd h `Z3
 |[],_::_,c::cs,_,_=>List.nil_lt_cons c cs
 |a::as,b::bs,c::cs,h1,h2=>by
  rw[List.cons_lt_cons_iff] at h1 h2⊢
  rcases h1 with h1|⟨rfl,h1⟩
  ·rcases h2 with h2|⟨rfl,h2⟩
   ·exact .inl ()
   ·exact .inl h1
  ·rcases h2 with h2|⟨rfl,h2⟩
   ·exact .inl h2
   ·exact .inr ⟨rfl,zjZ h1 h2⟩
theorem zhM:∀(a:List Nat),¬a<a
 |[],h=>absurd h `Z3
 |a::as,h=>by
  rw[List.cons_lt_cons_iff] at h
  rcases h with h|⟨_,h⟩
  ·lia
  ·exact zhM as h
theorem zpZ(h:x.cps.toList=y.cps.toList):x=y:=by
 cases x;cases y
 simp only[Str.mk.injEq]
 exact Array.toList_inj.mp h
theorem zcI(h:x≠y)(e:ltS x y=false):ltS y x=true:=Y0 (zk5 _ _ (λz=>h (zpZ z)) (of_decide_eq_false e))
theorem zgn{z:Str}(h1:ltS x y=true)(h2:ltS y z=true):ltS x z=true:=Y0 (zjZ (S0 h1) (S0 h2))
theorem zfF(x:Str):ltS x x=false:=E1 (zhM _)
theorem zfA(h:ltS x y=true):ltS y x=false:=E1 λz=>zhM _ (zjZ (S0 h) z)
theorem zkM(h:ltS x y=true):x≠y:=λz=>by rw[z,zfF] at h;cases h
theorem zpl{p:Str×Str}(h:p≠q)(e:ltP p q=false):ltP q p=true:=by
 unfold ltP at e⊢
 by_cases h1:p.1=q.1
 ·rw[R0 h1] at e
  rw[R0 h1.symm]
  have h2:p.2≠q.2:=λz=>h (Prod.ext h1 z)
  rw[N0 h2] at e
  rw[N0 (Ne.symm h2)]
  exact zcI h2 e
 ·rw[N0 h1] at e
  rw[N0 (Ne.symm h1)]
  exact zcI h1 e
theorem znz{p r:Str×Str}(h1:ltP p q=true)(h2:ltP q r=true):ltP p r=true:=by
 unfold ltP at h1 h2⊢
 by_cases e1:p.1=q.1
 ·rw[R0 e1] at h1
  by_cases e2:q.1=r.1
  ·rw[R0 e2] at h2
   rw[R0 (e1.trans e2)]
   by_cases f1:p.2=q.2
   ·rw[R0 f1] at h1;cases h1
   ·by_cases f2:q.2=r.2
    ·rw[R0 f2] at h2;cases h2
    ·rw[N0 f1] at h1
     rw[N0 f2] at h2
     have:=zgn h1 h2
     rw[N0 (zkM this)];exact this
  ·rw[N0 e2] at h2
   rw[N0 (by rw[e1];exact e2),e1];exact h2
 ·rw[N0 e1] at h1
  by_cases e2:q.1=r.1
  ·rw[N0 (by rw[←e2];exact e1),←e2];exact h1
  ·rw[N0 e2] at h2
   have:=zgn h1 h2
   rw[N0 (zkM this)];exact this
theorem zh5(p:Str×Str):ltP p p=false:=by unfold ltP;rw[R0 rfl,R0 rfl]
theorem zpp{p:Str×Str}(h:ltP p q=true):ltP q p=false:=by
 cases e:ltP q p with
 |false=>rfl
 |true=>have:=znz h e;rw[zh5] at this;cases this
theorem ziJ:∀(l:List Str),sortedS l=true->l.Nodup->l.Pairwise (λa b=>ltS a b=true)
 |[],_,_=> .nil
 |[x],_,_=>`Z3
 |x::y::r,h,hn=>by
  have h':(!ltCps y.cps.toList x.cps.toList&&risingS y r)=true:=h
  rw[W0] at h'
  have hr:sortedS (y::r)=true:=h'.2
  have ih:=ziJ (y::r) hr (U2.mp hn).2
  have hxy:ltS x y=true:=by
   have h1:ltS y x=false:=by
    have:=h'.1
    rw[ltCps_eq] at this
    simpa using this
   exact zcI (λz=>(U2.mp hn).1 (by rw[z];exact K1)) h1
  refine List.pairwise_cons.mpr ⟨λz hz=>?_,ih⟩
  rcases X0.mp hz with rfl|hz
  ·exact hxy
  ·exact zgn hxy ((List.pairwise_cons.mp ih).1 z hz)
theorem ziM:CallR X (.builtin "sorted") (λxs H Q=>∃(p:Addr) (ss:List Str),xs=[.ref p]/\SqL X.K H p (ss.map V.str)/\ss.length<64/\ss.Nodup/\∀(ss':List Str) l,ss'.Perm ss->ss'.Pairwise (λa b=>ltS a b=true)->H l=none->Q (.ref l) (upd H l (.lst (ss'.map V.str)))):=by
 intro pins s σ H xs us Q I r h
 obtain⟨p,ss,rfl,hq,h64,hnd,q⟩:=h
 obtain⟨u,rfl,ru⟩:=zc5 r
 cases ru
 obtain⟨its,rv,pl,hz⟩:=I.list hq
 have hS:=za9 rv
 have hl:=rv.length
 rw[D0] at hl
 refine sorted_strs pl.isList hS () λout ss' a1 a2 a3=>?_
 have nl:H (s.heap.objs.size+1)=none:=I.hok.fresh (Nat.le_succ _)
 obtain⟨e,he⟩:=sortedAll_at s.heap its out
 have hn':ss'.Nodup:=a2.nodup_iff.mpr hnd
 refine⟨.ref _,_,I.laid (a:=s.heap.objs.size+1) (o:= .lst (ss'.map V.str)) (t':=s.toks) (λb o hb=>sortedAll_old hb) (Nat.le_succ _) ⟨?_,out.toList,e,?_,?_⟩,rfl,q ss' _ a2 (ziJ ss' a3 hn') nl⟩
 ·rw[D0,a2.length_eq];exact Nat.le_of_lt (zo ())
 ·have mk:∀{vs:List Value} {zs:List Str},StrsAre vs zs->Vals (zs.map V.str) vs:=by
   intro vs zs h
   induction h with
   |nil=>exact .nil
   |cons x t _ ih=>exact .cons ⟨t,rfl⟩ ih
  exact mk a1
 ·rw[Array.toArray_toList];exact he
def zo9(H:Hp)(vs:List V)(ps:List (Str×Str)):Prop:=vs.length=ps.length/\∀(i:Nat) (v:V) (p:Str×Str),vs[i]?=some v->ps[i]?=some p->∃b,v= .ref b/\H b=some (.tup [.str p.1, .str p.2])
noncomputable def zg1(p:Str×Str):List Key:=[.inr p.1, .inr p.2]
def TupAt(h:Heap)(u:Value)(p:Str×Str):Prop:=∃b o n t1 t2,u= .ref b/\h.get? b=some o/\o.cls= .type "tuple"/\o.data= .seq #[.str p.1 t1, .str p.2 t2] n
theorem TupAt.keeps{h:Heap}{p:Str×Str}(x:TupAt h u p)(k:∀b o,h.get? b=some o->h'.get? b=some o):TupAt h' u p:=let⟨b,o,n,t1,t2,e,g,r⟩:=x;⟨b,o,n,t1,t2,e,k _ _ g,r⟩
theorem znH{v:Value}{p:Str×Str}{C:Bool->Shared->Prop}(x:TupAt s.heap u p)(y:TupAt s.heap v q)(h:C (ltP p q) s):wpAny `V3 A (keyLt' (tuples' true) u v) C E s:=by
 obtain⟨b,o,n,t1,t2,rfl,g,_,d⟩:=x
 obtain⟨b',o',n',t3,t4,rfl,g',_,d'⟩:=y
 refine kat_lt g d g' d' ?_
 show KatLex prog w A true (decide (2<2)) C [(.str p.1 t1, .str q.1 t3),(.str p.2 t2, .str q.2 t4)] 0 s
 unfold ltP at h
 refine kat_cons (wpAny_eqBool_str ?_)
 by_cases e1:p.1=q.1
 ·rw[R0 e1] at h
  rw[Y0 e1]
  refine kat_yes (kat_cons (wpAny_eqBool_str ?_))
  by_cases e2:p.2=q.2
  ·rw[R0 e2] at h
   rw[Y0 e2]
   exact kat_yes (kat_nil h)
  ·rw[N0 e2] at h
   rw[E1 e2]
   refine kat_no ?_
   show wpAny `V3 A (oneLt' false (.str p.2 t2) (.str q.2 t4)) C _ s
   exact kat_one _ _ (lt_str h)
 ·rw[N0 e1] at h
  rw[E1 e1]
  refine kat_no ?_
  show wpAny `V3 A (oneLt' true (.str p.1 t1) (.str q.1 t3)) C _ s
  exact oneLt_str h
theorem zlF{h:Heap}:∀{us:List Value} {ps:List (Str×Str)},us.length=ps.length->(∀(i:Nat) (u:Value) (p:Str×Str),us[i]?=some u->ps[i]?=some p->TupAt h u p)->∃fs,KatTups h us fs/\fs.length=us.length/\∀f∈fs,∃x t,f=Value.str x t
 |[],[],_,_=>⟨[],trivial,rfl,λ_ z=>nomatch z⟩
 |[],_::_,z,_=>by simp at z
 |_::_,[],z,_=>by simp at z
 |u::us,p::ps,hl,hx=>by
  obtain⟨fs,h1,h2,h3⟩:=zlF (us:=us) (ps:=ps) (by simpa using hl) λi u p e1 e2=>hx (i+1) u p (by simpa using e1) (by simpa using e2)
  obtain⟨b,o,n,t1,t2,rfl,g,c,d⟩:=hx 0 u p rfl rfl
  refine⟨.str p.1 t1::fs,KatTups.cons g c d rfl h1,by simp[h2],λf hf=>?_⟩
  rcases X0.mp hf with rfl|hf
  ·exact ⟨_,_,rfl⟩
  ·exact h3 f hf
noncomputable def pAt(ps:List (Str×Str))(i:Nat):Str×Str:=ps.getD i (⟨#[]⟩,⟨#[]⟩)
theorem zhY(hn:ps.Nodup):Strict ps.length (λi j=>ltP (pAt ps i) (pAt ps j)) where
 tot:=λi j hi hj hij e=>zpl (λz=>hij ((List.getElem_inj hn (h₀:=hi) (h₁:=hj)).mp (by unfold pAt at z;simpa[hi,hj] using z))) e
 tr:=λi j k _ _ _ h1 h2=>znz h1 h2
 asy:=λi j _ _ h=>zpp h
theorem zmB{p:Array Nat}(hp:PermN ps.length p)(hs:Sor (λi j=>ltP (pAt ps i) (pAt ps j)) p ps.length):(p.toList.map (pAt ps)).Perm ps/\(p.toList.map (pAt ps)).Pairwise (λa b=>ltP a b=true):=by
 constructor
 ·have h1:=hp.map (pAt ps)
  have h2:(List.range ps.length).map (pAt ps)=ps:=by
   apply List.ext_getElem?
   intro i
   rw[U0]
   rcases Y1 i ps.length with h|h
   ·rw[List.getElem?_range h]
    show some (pAt ps i)=_
    unfold pAt
    simp[h]
   ·rw[Q0 (by simpa using h),Q0 h];rfl
  rwa[h2] at h1
 ·have hz:=hp.size
  rw[List.pairwise_iff_getElem]
  intro i j hi hj hij
  have hi':i<p.size:=by simpa using hi
  have hj':j<p.size:=by simpa using hj
  have h:=hs i j hij ()
  rw[gd_get hi',gd_get hj'] at h
  simpa using h
theorem zcM{α β:Type}{R:α->β->Prop}:∀{as:List α} {bs:List β},Paired R as bs->as.length=bs.length/\∀(i:Nat) (a:α) (b:β),as[i]?=some a->bs[i]?=some b->R a b
 |_,_, .nil=>⟨rfl,λi a b e=>by simp at e⟩
 |_,_, .cons h t=>by
  obtain⟨h1,h2⟩:=zcM t
  refine⟨by simp[h1],λi a b e1 e2=>?_⟩
  cases i with
  |zero=>simp at e1 e2;subst e1;subst e2;exact h
  |succ i=>exact h2 i a b (by simpa using e1) (by simpa using e2)
theorem ziC(hc:X.calm=true):CallR X (.builtin "sorted") (λxs H Q=>∃(d:Addr) (kvs:List (List Key×V)) (ps:List (Str×Str)),xs=[.ref d]/\H d=some (.dT kvs)/\kvs.map (·.1)=ps.map zg1/\ps.length<64/\
 ∀(ps':List (Str×Str)) (vs:List V) l,ps'.Perm ps->ps'.Pairwise (λa b=>ltP a b=true)->zo9 H vs ps'->H l=none->Q (.ref l) (upd H l (.lst vs))):=by
 intro pins s σ H xs us Q I r h
 obtain⟨d,kvs,ps,rfl,hd,hk,h64,q⟩:=h
 obtain⟨u,rfl,ru⟩:=zc5 r
 cases ru
 obtain⟨_,nsys,zs,hp,o,es,ep,g,ex,dat,hes,hnd⟩:=(show ObjOk X.prog X.w H s.heap d (.dT kvs)from I.hok d _ hd)
 obtain⟨hl,hget⟩:=zcM hp
 have hlk:kvs.length=ps.length:=by have:=Z2 List.length hk;simpa using this
 have hnp:ps.Nodup:=by
  have e:zs.map (·.1)=kvs.map (·.1):=by
   apply List.ext_getElem?
   intro i
   rw[U0,U0]
   rcases Y1 i kvs.length with h|h
   ·have h':i<zs.length:=()
    have:=(hget i kvs[i] zs[i] (by simp[h]) (by simp[h'])).1
    simp[h,h',this]
   ·rw[Q0 h,Q0 ()];rfl
  rw[e,hk] at hnd
  exact(List.pairwise_map.mp hnd).imp λh z=>h (by rw[z])
 have kz:(zs.map λq=>Value.ref q.2.1).length=ps.length:=by rw[D0];lia
 have raw:RawD s.heap d (zs.map λq=>Value.ref q.2.1) ep:=⟨o,es,g,ex,dat,by rw[hes,List.map_map];rfl⟩
 have keyA:∀i (h:i<ps.length),∃b,(zs.map λq=>Value.ref q.2.1)[i]?=some (.ref b)/\H b=some (.tup [.str ps[i].1, .str ps[i].2]):=λi h=>by
  have h1:i<kvs.length:=()
  have h2:i<zs.length:=()
  have hr:=hget i kvs[i] zs[i] (by simp[h1]) (by simp[h2])
  refine⟨zs[i].2.1,by simp[h2],?_⟩
  have ek:kvs[i].1=zg1 ps[i]:=by
   have e1:(kvs.map (·.1))[i]?=some kvs[i].1:=by simp[h1]
   rw[hk] at e1
   have e2:(ps.map zg1)[i]?=some (zg1 ps[i]):=by simp[h]
   rw[e1] at e2
   exact U1 e2
  rw[hr.2.1,ek]
  rfl
 have keyT:∀(i:Nat) (u:Value) (p:Str×Str),(zs.map λq=>Value.ref q.2.1)[i]?=some u->ps[i]?=some p->TupAt s.heap u p:=λi u p e1 e2=>by
  have hi:i<ps.length:=by
   rcases Y1 i ps.length with z|z
   ·exact z
   ·rw[Q0 z] at e2;cases e2
  obtain⟨b,f1,f2⟩:=keyA i hi
  rw[f1] at e1
  cases e1
  have ep':ps[i]=p:=by simpa[hi] using e2
  rw[ep'] at f2
  obtain⟨_,its,rv,⟨o',g',c',n',d'⟩,_⟩:=(show ObjOk X.prog X.w H s.heap b (.tup [.str p.1, .str p.2])from I.hok b _ f2)
  cases rv with
  |cons r1 rv=>cases rv with
   |cons r2 rv=>cases rv with
    |nil=>
     obtain⟨t1,rfl⟩:=r1
     obtain⟨t2,rfl⟩:=r2
     exact⟨b,o',n',t1,t2,rfl,g',c',d'⟩
 generalize hks:(zs.map λq=>Value.ref q.2.1)=ks at *
 refine zkn (A:=X.A) (G:=λp=>PermN ps.length p/\Sor (λi j=>ltP (pAt ps i) (pAt ps j)) p ps.length) (κ:=tuples' true) (zpS (ks:=ks) (ep:=ep) nsys) (I.ok.hd hc) raw () (λh2 s1 k1=>?_) (λD out h' tk c ho kp hD gD=>?_)
 ·have keyT1:∀(i:Nat) (u:Value) (p:Str×Str),ks[i]?=some u->ps[i]?=some p->TupAt s1.heap u p:=λi u p e1 e2=>(keyT i u p e1 e2).keeps k1
  obtain⟨fs,ft,fl,fa⟩:=zlF kz keyT1
  refine⟨λC hC=>kat_kind (T:= .type "str") ft () (λf hf=>?_) rfl hC,?_⟩
  ·obtain ⟨x,t,rfl⟩:=fa f hf
   exact Looks.of_pure rfl
  ·rw[kz]
   refine OkT.wp (N:=ps.length) (lt:=λi j=>ltP (pAt ps i) (pAt ps j)) (I:=λs'=>s'=s1) (λi j C s' hi hj e hC=>?_) (λp s' hp e=>⟨e,hp⟩) rfl (sort_ok (zhY hnp) ())
   subst e
   have gi:∀i,i<ps.length->TupAt s'.heap (ks.getD i Value.none) (pAt ps i):=λi hi=>by
    have hi':i<ks.length:=()
    refine keyT1 i _ _ ?_ ?_
    ·simp[hi']
    ·unfold pAt;simp[hi]
   exact znH (gi i hi) (gi j hj) (hC s' rfl)
 ·
  have nD:H D=none:=I.hok.fresh hD
  obtain⟨ps',hperm,hpw,hout⟩:∃ps':List (Str×Str),ps'.Perm ps/\ps'.Pairwise (λa b=>ltP a b=true)/\out.length=ps'.length/\∀(i:Nat) (u:Value) (p:Str×Str),out[i]?=some u->ps'[i]?=some p->∃b,u= .ref b/\H b=some (.tup [.str p.1, .str p.2]):=by
   rcases ho with⟨hlt,rfl⟩|⟨p,hp,⟨hP,hS⟩,rfl⟩
   ·refine ⟨ps, .refl _,?_,kz,λi u p e1 e2=>?_⟩
    ·match ps,(show ps.length<2 by lia)with
     |[],_=>exact .nil
     |[x],_=>exact List.pairwise_singleton _ _
    ·have hi:i<ps.length:=by
      rcases Y1 i ps.length with z|z
      ·exact z
      ·rw[Q0 z] at e2;cases e2
     obtain⟨b,f1,f2⟩:=keyA i hi
     rw[f1] at e1;cases e1
     have ep':ps[i]=p:=by simpa[hi] using e2
     rw[ep'] at f2
     exact⟨b,rfl,f2⟩
   ·obtain ⟨o1,o2⟩:=zmB hP hS
    refine⟨p.toList.map (pAt ps),o1,o2,by rw[D0,D0],λi u q e1 e2=>?_⟩
    rw[U0] at e1 e2
    cases hpi:p.toList[i]? with
    |none=>rw[hpi] at e1;cases e1
    |some j=>
     rw[hpi] at e1 e2
     have hj:j<ps.length:=List.mem_range.mp (hP.mem_iff.mp (D1 hpi))
     obtain⟨b,f1,f2⟩:=keyA j hj
     have hj':j<ks.length:=()
     have eu:ks.getD j Value.none= .ref b:=by
      rw[List.getD_eq_getElem?_getD,f1];rfl
     have e1':some (ks.getD j Value.none)=some u:=e1
     rw[eu] at e1'
     have e2':some (pAt ps j)=some q:=e2
     have eq:pAt ps j=ps[j]:=by unfold pAt;simp[hj]
     rw[eq] at e2'
     cases e1'
     cases e2'
     exact⟨b,rfl,f2⟩
  obtain⟨hol,hog⟩:=hout
  have hall:∀u∈out,∃b,u=Value.ref b:=λu hu=>by
   obtain⟨i,hi,rfl⟩:=K2 hu
   obtain⟨b,e,_⟩:=hog i out[i] (ps'[i]'()) (by simp[hi]) (by simp[show i<ps'.length by lia])
   exact⟨b,e⟩
  obtain⟨vs,rvs⟩:∃vs:List V,Vals vs out/\∀(i:Nat) (b:Addr),out[i]?=some (.ref b)->vs[i]?=some (.ref b):=by
   clear hog hol gD ho
   induction out with
   |nil=>exact ⟨[], .nil,λi b e=>by simp at e⟩
   |cons u out ih=>
    obtain⟨vs,h1,h2⟩:=ih λu hu=>hall u (b0 _ hu)
    obtain⟨b,rfl⟩:=hall u K1
    refine⟨.ref b::vs, .cons rfl h1,λi b' e=>?_⟩
    cases i with
    |zero=>simpa using e
    |succ i=>exact h2 i b' (by simpa using e)
  have lv:vs.length=out.length:=rvs.1.length
  refine⟨.ref D,_,I.laid (a:=D) (o:= .lst vs) (t':=tk) kp hD ⟨by rw[lv,hol,hperm.length_eq];exact Nat.le_of_lt (zo ()),out,c,rvs.1,gD⟩,rfl,q ps' vs D hperm hpw ⟨(),λi v p e1 e2=>?_⟩ nD⟩
  have hi:i<out.length:=by
   rcases Y1 i out.length with z|z
   ·exact z
   ·rw[Q0 ()] at e1;cases e1
  obtain⟨b,f1,f2⟩:=hog i out[i] p (by simp[hi]) e2
  have:=rvs.2 i b (by rw[←f1];simp[hi])
  rw[this] at e1
  cases e1
  exact⟨b,rfl,f2⟩
noncomputable def zi8(a c:Str)(t u:Tok)(i:Nat):Value:=if i=0 then .str a t else .str c u
theorem ziu{a c:Str}{t u:Tok}{v:Value}(h:(#[Value.str a t,Value.str c u])[i]?=some v):(i=0/\v= .str a t)\/(i=1/\v= .str c u):=by
 match i,h with
 |0,h=>exact .inl ⟨rfl,by simpa using h.symm⟩
 |1,h=>exact .inr ⟨rfl,by simpa using h.symm⟩
 |i+2,h=>simp at h
theorem zid{a c:Str}{t u:Tok}{R:Value->Shared->Prop}(hh:A.handled=none)(q:∀h' tk,(∀b o,s.heap.get? b=some o->h'.get? b=some o)->R (if ltS a c=true then .str c u else .str a t) {s with heap:=h',toks:=tk}):
 wpAny `V3 A (call (.builtin "max") [.str a t, .str c u]) R E s:=by
 have hT:(s.heap.push {cls:= .type "tuple",data:= .seq #[.str a t, .str c u]}).IsTuple s.heap.objs.size #[.str a t, .str c u]:=⟨_,O0 _ rfl,rfl,0,rfl⟩
 have z:(s.heap.push {cls:= .type "tuple",data:= .seq #[.str a t, .str c u]}).objs.size=s.heap.objs.size+1:=Heap.size_push ..
 refine call_max_two (wpAny_pyIter_tuple hT ?_)
 refine⟨_,[_,s.heap.objs.size],[_],_,_,_,λi j=>ltS (strOf (zi8 a c t u j)) (strOf (zi8 a c t u i)),rfl,Walks.tuple (A:=A.in1) hh _ s.heap.objs.size (by rw[z];exact P1 (Nat.lt_succ_self _)) #[.str a t, .str c u],⟨⟨_,O0 _ rfl,rfl,rfl⟩,hT.push _⟩,λb hb=>?_,(by decide:0<2),?_,λv h' tk hP hk=>?_⟩
 ·show b<((s.heap.push _).push _).objs.size
  rw[Heap.size_push,z]
  rcases X0.mp hb with rfl|hb
  ·rw[z];exact Nat.lt_succ_self _
  ·rcases X0.mp hb with rfl|hb
   ·exact Nat.lt_succ_of_lt (Nat.lt_succ_self _)
   ·cases hb
 ·intro i j vi vj s' R' E' hi hj hq
  rcases ziu hi with⟨rfl,rfl⟩|⟨rfl,rfl⟩<;>rcases ziu hj with⟨rfl,rfl⟩|⟨rfl,rfl⟩<;>exact (P.gt_str hq:wpAny `V3 A.in1 (compareOp .Gt _ _) R' E' s')
 ·have keep:∀b o,s.heap.get? b=some o->h'.get? b=some o:=λb o e=>hk b o (λhm=>by
   rcases X0.mp hm with e1|hm
   ·have lb:=V0 e
    rw[e1,z] at lb
    exact absurd lb (Nat.not_lt.mpr (Nat.le_succ _))
   ·cases hm) (G0 _ (G0 _ e))
  have fin:=q h' tk keep
  have eb:argBest (λi j=>ltS (strOf (zi8 a c t u j)) (strOf (zi8 a c t u i))) (2 -1)=if ltS a c=true then 1 else 0:=rfl
  have hP':(#[Value.str a t,Value.str c u])[if ltS a c=true then 1 else 0]?=some v:=hP
  by_cases hc:ltS a c=true
  ·rw[R0 hc] at hP' fin
   have ev:Value.str c u=v:=by simpa using hP'
   rw[←ev];exact fin
  ·rw[N0 hc] at hP' fin
   have ev:Value.str a t=v:=by simpa using hP'
   rw[←ev];exact fin
theorem zil{a c:Str}{t u:Tok}{R:Value->Shared->Prop}(hh:A.handled=none)(q:∀h' tk,(∀b o,s.heap.get? b=some o->h'.get? b=some o)->R (if ltS c a=true then .str c u else .str a t) {s with heap:=h',toks:=tk}):
 wpAny `V3 A (call (.builtin "min") [.str a t, .str c u]) R E s:=by
 have hT:(s.heap.push {cls:= .type "tuple",data:= .seq #[.str a t, .str c u]}).IsTuple s.heap.objs.size #[.str a t, .str c u]:=⟨_,O0 _ rfl,rfl,0,rfl⟩
 have z:(s.heap.push {cls:= .type "tuple",data:= .seq #[.str a t, .str c u]}).objs.size=s.heap.objs.size+1:=Heap.size_push ..
 refine call_min_two (wpAny_pyIter_tuple hT ?_)
 refine⟨_,[_,s.heap.objs.size],[_],_,_,_,λi j=>ltS (strOf (zi8 a c t u i)) (strOf (zi8 a c t u j)),rfl,Walks.tuple (A:=A.in1) hh _ s.heap.objs.size (by rw[z];exact P1 (Nat.lt_succ_self _)) #[.str a t, .str c u],⟨⟨_,O0 _ rfl,rfl,rfl⟩,hT.push _⟩,λb hb=>?_,(by decide:0<2),?_,λv h' tk hP hk=>?_⟩
 ·show b<((s.heap.push _).push _).objs.size
  rw[Heap.size_push,z]
  rcases X0.mp hb with rfl|hb
  ·rw[z];exact Nat.lt_succ_self _
  ·rcases X0.mp hb with rfl|hb
   ·exact Nat.lt_succ_of_lt (Nat.lt_succ_self _)
   ·cases hb
 ·intro i j vi vj s' R' E' hi hj hq
  rcases ziu hi with⟨rfl,rfl⟩|⟨rfl,rfl⟩<;>rcases ziu hj with⟨rfl,rfl⟩|⟨rfl,rfl⟩<;>exact (lt_str hq:wpAny `V3 A.in1 (compareOp .Lt _ _) R' E' s')
 ·have keep:∀b o,s.heap.get? b=some o->h'.get? b=some o:=λb o e=>hk b o (λhm=>by
   rcases X0.mp hm with e1|hm
   ·have lb:=V0 e
    rw[e1,z] at lb
    exact absurd lb (Nat.not_lt.mpr (Nat.le_succ _))
   ·cases hm) (G0 _ (G0 _ e))
  have fin:=q h' tk keep
  have eb:argBest (λi j=>ltS (strOf (zi8 a c t u i)) (strOf (zi8 a c t u j))) (2 -1)=if ltS c a=true then 1 else 0:=rfl
  have hP':(#[Value.str a t,Value.str c u])[if ltS c a=true then 1 else 0]?=some v:=hP
  by_cases hc:ltS c a=true
  ·rw[R0 hc] at hP' fin
   have ev:Value.str c u=v:=by simpa using hP'
   rw[←ev];exact fin
  ·rw[N0 hc] at hP' fin
   have ev:Value.str a t=v:=by simpa using hP'
   rw[←ev];exact fin
theorem zgH(hc:X.calm=true):CallR X (.builtin "max") (λxs H Q=>∃a c,xs=[.str a, .str c]/\Q (.str (if ltS a c=true then c else a)) H):=by
 intro pins s σ H xs us Q I r h
 obtain⟨i,j,rfl,q⟩:=h
 obtain⟨u,w',rfl,⟨t,rfl⟩,⟨t',rfl⟩⟩:=zhw r
 refine zid (I.ok.hd hc) λh' tk k=>⟨_,H,I.kept k,?_,q⟩
 by_cases hj:ltS i j=true
 ·rw[R0 hj,R0 hj];exact⟨_,rfl⟩
 ·rw[N0 hj,N0 hj];exact⟨_,rfl⟩
theorem zfX(hc:X.calm=true):CallR X (.builtin "min") (λxs H Q=>∃a c,xs=[.str a, .str c]/\Q (.str (if ltS c a=true then c else a)) H):=by
 intro pins s σ H xs us Q I r h
 obtain⟨i,j,rfl,q⟩:=h
 obtain⟨u,w',rfl,⟨t,rfl⟩,⟨t',rfl⟩⟩:=zhw r
 refine zil (I.ok.hd hc) λh' tk k=>⟨_,H,I.kept k,?_,q⟩
 by_cases hj:ltS j i=true
 ·rw[R0 hj,R0 hj];exact⟨_,rfl⟩
 ·rw[N0 hj,N0 hj];exact⟨_,rfl⟩
section
open PySem.SeqAt
open PySem.AutoSeq1 (wpAny_loadPart')
open PySem.MeetsSeq PySem.MeetsSeq2 PySem.MeetsSeq3
end
noncomputable def zq5(K:W.Frag):R2:=λx y H Q=>∃a b xs ys,x= .ref a/\y= .ref b/\SqT K H a xs/\SqT K H b ys/\xs.length+ys.length<=sizeLine/\
 (xs=[]->Q (.ref b) H)/\(xs≠ []->ys=[]->Q (.ref a) H)/\(xs≠ []->ys≠ []->∀p,H p=none->Q (.ref p) (upd H p (.tup (xs ++ys))))
theorem zfG:OpR X (binaryOp .Add) (zq5 X.K):=by
 intro pins s σ H x y v u Q I rx ry h
 obtain⟨a,b,xs,ys,rfl,rfl,ha,hb,hz,q0,q1,q2⟩:=h
 by_cases hx:xs=[]
 ·cases rx
  cases ry
  obtain⟨its,r1,p1,_⟩:=I.tuple ha
  obtain⟨its2,r2,p2,_⟩:=I.tuple hb
  have e1:its=[]:=r1.nil_iff.mpr hx
  obtain⟨⟨cls,dd,data,sl⟩,ho,hc,n,hd⟩:=id p1
  obtain⟨⟨cls2,dd2,data2,sl2⟩,ho2,hc2,n2,hd2⟩:=id p2
  simp only at hc hd hc2 hd2
  subst hc hd hc2 hd2
  exact concat_meets ⟨_,ho,rfl⟩ ⟨_,ho2,rfl⟩ noFill_tuple_add seq_tuple_add F.slot_tuple_add F.entry_tuple_add (F.args_tuple_add_2 _ _) (tuple_addW0 a b its.toArray its2.toArray n n2 dd dd2 sl sl2 (by simp[e1])) ⟨ho,ho2,⟨.ref b,H,I,rfl,q0 hx⟩⟩
 ·exact zpT pins s σ H _ _ v u Q I rx ry ⟨a,b,xs,ys,rfl,rfl,ha,hb,hx,hz,q1 hx,q2 hx⟩
section
open PySem.AutoSeq1 (wpAny_loadPart')
end
theorem hu1{k:Nat}(r:Room k A):A.units+1<cLine:=by have:=r.units;lia
section
variable{a b o i:Expr}{pt2:Pos}{kt k2:Nat}{td ty:TE}
theorem zqW(m n:Nat)(hN:X.N.Nodup)(ha:QA X [a,b] ta)(hc:autoParam (X.calm=true) v3)(hi:autoParam (X.N[m]?=some x) v3)(hj:autoParam (X.N[n]?=some y) v3)(hij:autoParam (m≠n) v4)
 (hx:autoParam (X.env.scope.names.lookup x=some .local) v3) (hy:autoParam (X.env.scope.names.lookup y=some .local) v3)
 (hw:autoParam (swappedStores [.Tuple [.Name x px, .Name y py] kt pt] (.Tuple [a,b] k2 pt2) X.env=pure (some [x,y])) v3)
 (hs:autoParam (swapsWithSole [.Tuple [.Name x px, .Name y py] kt pt] (.Tuple [a,b] k2 pt2) pos.line X.env=pure false) v3):
 QS X (.Assign [.Tuple [.Name x px, .Name y py] kt pt] (.Tuple [a,b] k2 pt2) pos) (zsO m n ta):=⟨zsl hc hN hi hj hij hx hy ha.o hw hs⟩
theorem zim(hu:X.A.units+1<cLine)(ho:QE X o td)(hi:QE X i ty)(hv:QE X value tv)(hs:autoParam (swapsWith value (some (.Subscript o i pos')) pos.line X.env=pure false) v3):
 QS X (.Assign [.Subscript o i pos'] value pos) (zqQ td ty tv):=⟨zqi hu ho.o hi.o hv.o hs⟩
theorem zqp:QE X (.Dict [] [] pos) zob:=⟨zoh⟩
end
end
noncomputable def ltD:D->D->Bool
 | .str x, .str y=>ltS x y
 | .tup [.str a, .str b], .tup [.str c, .str d]=>ltP (a,b) (c,d)
 |_,_=>false
noncomputable def zp3(ds:List D):Bool:=(List.range (ds.length -1)).all λk=>ltD (ds.getD k .non) (ds.getD (k+1) .non)
noncomputable def areHousesB:D->Bool| .tup ds=>decide (1<=ds.length)&&decide (ds.length<=10)&&ds.all zdD&&zp3 ds|_=>false
noncomputable def zbj:D->Bool| .tup ds=>decide (ds.length<=90)&&ds.all zI|_=>false
noncomputable def za6:D->Bool| .tup ds=>decide (ds.length<=90)&&ds.all zbd|_=>false
theorem zmA(z:Str)(n:Nat):(zgi z n).cps.toList=(List.replicate n z.cps.toList).flatten:=by
 unfold zgi
 have key:∀(k:Nat) (acc:Array Nat),((List.replicate k z.cps).foldl (·++·) acc).toList=acc.toList ++(List.replicate k z.cps.toList).flatten:=by
  intro k
  induction k with
  |zero=>intro acc;simp
  |succ k ih=>intro acc;rw[List.replicate_succ,List.foldl_cons,ih,List.replicate_succ,List.flatten_cons,Array.toList_append,List.append_assoc]
 have:=key n #[]
 simpa using this
theorem zcr(c n:Nat):(zgi (one c) n).cps.toList=List.replicate n c:=by
 rw[zmA]
 show(List.replicate n [c]).flatten=_
 induction n with
 |zero=>rfl
 |succ n ih=>rw[List.replicate_succ,List.flatten_cons,ih,List.replicate_succ];rfl
noncomputable def zlK(x:Str):Bool:=x.cps.toList.all λc=>some c==x.cps.toList.head?
theorem ziX(c n:Nat):zlK (zgi (one c) n)=true:=by
 unfold zlK
 rw[zcr]
 cases n with
 |zero=>rfl
 |succ n=>
  rw[F2]
  intro d hd
  rw[List.eq_of_mem_replicate hd]
  simp[List.replicate_succ]
noncomputable def zdM:List Str:=["goal","to","by","houses","tie","like","hand","keep","put","mark","long","from","strike"]
theorem zpr:∀x∈zdM,zj x=true:=`Y3
theorem zmf:∀x∈zdM,zlK x=false:=`Y3
theorem zpu:∀c∈zbp.cps.toList,∀k∈List.range 8,zj (zgi (one c) (k+1))=true:=`Y3
theorem zjb:zbp.length=26:=`Y3
theorem zgI:∀k∈List.range 26,zbp.cps.toList[k]?=some (97+k):=`Y3
theorem zln(c:Nat):(one c).length=1:=rfl
noncomputable def znw:List Nat:=[1,3,5,7,9,11]
theorem zno:∀f∈List.range 26,∀st∈znw,((List.range 13).map λk=>(f+st*k)%26).Nodup:=`Y3
noncomputable def nmS(f st k:Nat):Str:=zgi (one (97+(f+st*k)%26)) (1+(k*k+f)%8)
noncomputable def kwS(sp k:Nat):Str:=zdM.getD ((sp+3*k)%13) ""
noncomputable def zaN(f st sp j k:Nat):Str:=if k<j then kwS sp k else nmS f st k
theorem zrR:∀sp∈List.range 13,((List.range 4).map λk=>kwS sp k).Nodup:=`Y3
theorem zkP(sp k:Nat):kwS sp k∈zdM:=by
 unfold kwS
 have h:(sp+3*k)%13<zdM.length:=Nat.mod_lt _ ⋯
 simp[List.getD,h]
theorem zn4{l:List α}(h:l.Nodup)(hi:i<l.length)(hj:j<l.length)(hij:i≠j):l[i]≠l[j]:=λz=>hij ((List.getElem_inj h).mp z)
theorem zjL{f st sp m:Nat}(hf:f<26)(hst:st∈znw)(hsp:sp<13)(hj:j<=4)(hm:m<=13):((List.range m).map (zaN f st sp j)).Nodup:=by
 have key:∀a b,a<b->b<13->zaN f st sp j a≠zaN f st sp j b:=by
  intro a b hab hb
  unfold zaN
  by_cases h1:a<j
  ·rw[R0 h1]
   by_cases h2:b<j
   ·rw[R0 h2]
    have:=zn4 (zrR sp (List.mem_range.mpr hsp)) (i:=a) (j:=b) (by simp;lia) (by simp;lia) ()
    simpa using this
   ·rw[N0 h2]
    intro z
    have e1:=zmf _ (zkP sp a)
    rw[z] at e1
    unfold nmS at e1
    rw[ziX] at e1
    cases e1
  ·rw[N0 h1,N0 ()]
   intro z
   have hh:(nmS f st a).cps.toList.head?=(nmS f st b).cps.toList.head?:=by rw[z]
   unfold nmS at hh
   rw[zcr,zcr,Nat.add_comm 1,Nat.add_comm 1,List.replicate_succ,List.replicate_succ] at hh
   simp only[List.head?_cons,Option.some.injEq] at hh
   have:=zn4 (zno f (List.mem_range.mpr hf) st hst) (i:=a) (j:=b) (by simp;lia) (by simp;lia) ()
   simp at this
   lia
 rw[List.nodup_iff_pairwise_ne,List.pairwise_map]
 refine List.Pairwise.imp_of_mem (λ{a b} ha hb hab=>?_) (List.pairwise_lt_range (n:=m))
 exact key a b hab (by have:=List.mem_range.mp hb;lia)
theorem zsq(f st k:Nat):zj (nmS f st k)=true:=by
 unfold nmS
 rw[Nat.add_comm 1]
 have hr:(f+st*k)%26<26:=Nat.mod_lt _ ⋯
 exact zpu _ (D1 (zgI _ (List.mem_range.mpr hr))) _ (List.mem_range.mpr (Nat.mod_lt _ ⋯))
theorem zqF(f st sp j k:Nat):zj (zaN f st sp j k)=true:=by
 unfold zaN
 split
 ·exact zpr _ (zkP sp k)
 ·exact zsq f st k
theorem znK{f st sp m:Nat}(hj:j<m):((List.range m).map (zaN f st sp j)).set j (kwS sp j)=(List.range m).map (zaN f st sp (j+1)):=by
 apply List.ext_getElem?
 intro i
 rw[List.getElem?_set]
 by_cases e:j=i
 ·subst e
  rw[R0 rfl,R0 (by simp;exact hj)]
  simp[hj,zaN]
 ·rw[N0 e]
  rcases Y1 i m with h|h
  ·rw[U0,U0,List.getElem?_range h]
   show some _=some _
   congr 1
   unfold zaN
   by_cases h1:i<j
   ·rw[R0 h1,R0 ()]
   ·rw[N0 h1,N0 ()]
  ·rw[Q0 (by simpa using h),Q0 (by simpa using h)]
theorem zp7{sp k:Nat}:zdM[(sp+3*k)%13]?=some (kwS sp k):=by
 unfold kwS
 have h:(sp+3*k)%13<zdM.length:=Nat.mod_lt _ ⋯
 simp[List.getD,h]
theorem zng{m:Nat}:zcs xs (some (m:Int)) none=xs.drop m:=by
 unfold zcs
 have e1:sIx xs.length xs.length none=xs.length:=rfl
 have e2:sIx xs.length 0 (some (m:Int))=min m xs.length:=by
  unfold sIx
  have h:¬(m:Int)<0:=()
  simp only[N0 h,Int.toNat_natCast]
 rw[e1,e2]
 rcases Y1 m xs.length with h|h
 ·rw[Nat.min_eq_left (),List.take_of_length_le (by rw[List.length_drop];lia)]
 ·rw[Nat.min_eq_right h,List.drop_of_length_le (P0 _),List.drop_of_length_le h];simp
theorem zfl{N:Nat}{Pw:Nat->V->Prop}{ok:Hp->Prop}{m c:Int}{src:List (Option Nat)}{Q:VK}(wk:Wk J N Pw ok)(hok:∀H',Keep a H H'->ok H')(hs:zep src σ=none::σr)(hH:Hand H a m)(hN:N<=900)(hc:0<=c)
 (he:∀(i:Nat) (x:V) (H1:Hp) (Q1:VK),i<N->Hand H1 a (m+c*i)->Keep a H H1->(∀v d H2,Rep H2 v d->Pd i d->Hand H2 a (m+c*i+c)->Keep a H1 H2->Q1 v H2)->te (some x::σr) H1 Q1)
 (q:∀l vs ds H',H l=none->H' l=some (.lst vs)->RepL H' vs ds->ds.length=N->(∀i d,ds[i]?=some d->Pd i d)->Hand H' a (m+c*N)->Keep a H H'->Q (.ref l) H'):zdZ (zce 0) zoZ te src σ Q J H:=by
 refine zcY wk (λl i ys σ' H'=>(∃o,σ'=o::σr)/\(∃ds:List D,RepL H' ys ds/\ds.length=i/\∀j d,ds[j]?=some d->Pd j d)/\Hand H' a (m+c*i)/\Keep a H H') ?_ (λ_ _ _ _ _ _ p=>hok _ p.2.2.2) ?_ ?_
 ·exact λl hl=>⟨⟨_,hs⟩,⟨[],RepL.nil,rfl,λj d z=>by simp at z⟩,(hH.new hl).mono `Z3,Keep.new hl⟩
 ·rintro l i y ys σ' H1 hl hi hy ⟨⟨o,rfl⟩,⟨ds,hr,hl2,hp⟩,hH1,k1⟩ hl'
  have nl:=hH.ne hl
  refine he i y H1 _ hi hH1 k1 λv d H2 rv pd hH2 k2=>?_
  have hl2':H2 l=some (.lst ys):=k2 _ _ nl hl'
  have m2:Mono H1 H2:=Mono.keep k2 hH1 hH2
  have m3:Mono H2 (upd H2 l (.lst (ys ++ [v]))):=Mono.lset hl2'
  refine⟨hl2',?_,⟨_,rfl⟩,⟨ds ++ [d],((hr.mono m2).append (.cons rv .nil)).mono m3,?_,?_⟩,(hH2.updNe nl).mono ?_,(k1.trans k2).updNew hl⟩
  ·have:=hr.1
   exact zo ()
  ·rw[F1,hl2];rfl
  ·intro j e he
   by_cases hj:j<ds.length
   ·rw[V2 hj] at he
    exact hp j e he
   ·rw[P2 ()] at he
    have hj2:j=ds.length:=by
     rcases Y1 ds.length j with z|z
     ·rw[Q0 (by simp;lia)] at he;cases he
     ·lia
    subst hj2
    simp at he
    subst he
    rw[hl2];exact pd
  ·rw[show((i+1:Nat):Int)=(i:Int)+1 by lia,Int.mul_add,Int.mul_one]
   lia
 ·rintro l ys σ' H1 hl ⟨⟨o,rfl⟩,⟨ds,hr,hl2,hp⟩,hH1,k1⟩ hl'
  exact q l ys ds H1 hl hl' hr hl2 hp hH1 k1
noncomputable def pairD(p:Str×Str):D:= .tup [.str p.1, .str p.2]
structure TownOk(g:Str)(hs:List Str)(ps:List (Str×Str))(lks hds:List D):Prop where
 rise:hs.Pairwise (λa b=>ltS a b=true)
 one:1<=hs.length
 ten:hs.length<=10
 names:∀x∈hs,zj x=true
 goal:g∈hs
 riseP:ps.Pairwise (λa b=>ltP a b=true)
 ties:∀p∈ps,p.1∈hs/\p.2∈hs/\ltS p.1 p.2=true
 ll:lks.length=hs.length
 lh:hds.length=hs.length
 likes:∀d∈lks,zbj d=true
 hands:∀d∈hds,za6 d=true
noncomputable def zaq(g:Str)(hs:List Str)(ps:List (Str×Str))(lks hds:List D):D:= .tup [.str g, .tup (hs.map D.str), .tup (ps.map pairD), .tup lks, .tup hds]
section
variable{es:List D}{k:Nat}
end
section
variable{es:List D}
theorem zph{f:D->D}{g:D->Bool}{ok:Hp->Prop}{src:List (Option Nat)}{Q:VK}(wk:Wk J vs.length (λi x=>vs[i]?=some x) ok)(hok:∀H',Same H H'->ok H')(r:RepL H vs ds)(hl:ds.length<=900)(e:zep src σ=none::σr)
 (hc:∀(x:V) (d:D) (H1:Hp) (Q1:Bool->Hp->Prop),Same H H1->Rep H1 x d->d∈ds->(∀H2,Same H1 H2->Q1 (g d) H2)->tc (some x::σr) H1 Q1)
 (he:∀(x:V) (d:D) (H1:Hp),Same H H1->Rep H1 x d->d∈ds->Dsp te (some x::σr) H1 (f d))
 (q:∀l us H',Same H H'->H l=none->H' l=some (.lst us)->RepL H' us ((ds.filter g).map f)->Q (.ref l) H'):zdZ (zce 0) tc te src σ Q J H:=by
 refine zcY wk (λl i ys σ' H'=>(∃o,σ'=o::σr)/\RepL H' ys (((ds.take i).filter g).map f)/\Same H H') ?_ ?_ ?_ ?_
 ·exact λl h'=>⟨⟨none,e⟩,RepL.nil,Same.new h'⟩
 ·exact λl i ys σ' H' _ p=>hok H' p.2.2
 ·rintro l i y ys σ' H1 h' hi hy ⟨⟨o,rfl⟩,ry,s1⟩ hl'
  obtain⟨d,hd,rd⟩:=r.get hy
  refine hc y d H1 _ s1 (rd.same s1) (D1 hd) λH2 s2=>?_
  have tk:((ds.take (i+1)).filter g).map f=((ds.take i).filter g).map f ++([d].filter g).map f:=by
   rw[List.take_add_one,hd,List.filter_append,List.map_append];rfl
  rw[tk]
  cases hg:g d with
  |false=>
   have e0:([d].filter g).map f=[]:=by simp[hg]
   rw[e0,List.append_nil]
   exact⟨s2 _ _ hl',⟨_,rfl⟩,ry.mono (.of s2),s1.trans s2⟩
  |true=>
   have e0:([d].filter g).map f=[f d]:=by simp[hg]
   rw[e0]
   refine he y d H2 (s1.trans s2) ((rd.same s1).same s2) (D1 hd) H2 _ (Same.refl _) λv H3 s3 rv=>?_
   refine⟨s3 _ _ (s2 _ _ hl'),?_,⟨_,rfl⟩,?_,?_⟩
   ·have h1:=ry.1
    have h2:=List.length_filter_le g (ds.take i)
    rw[D0] at h1
    rw[J2] at h2
    exact zo ()
   ·exact ((ry.mono (.of (s2.trans s3))).append (.cons rv .nil)).mono (.lset (s3 _ _ (s2 _ _ hl')))
   ·exact λc o e=>by
     rw[zd (zg e h')]
     exact s3 _ _ (s2 _ _ (s1 _ _ e))
 ·rintro l ys σ' H1 h' ⟨⟨o,rfl⟩,ry,s1⟩ hl'
  rw[r.1,List.take_length] at ry
  exact q l ys H1 s1 h' hl' ry
end
theorem zok{hs:List Str}(h:∀x∈hs,x.length<=1000):RepL H (hs.map V.str) (hs.map D.str):=by
 refine⟨by rw[D0,D0],λi v d hv hd=>?_⟩
 rw[U0] at hv hd
 cases e:hs[i]? with
 |none=>rw[e] at hv;cases hv
 |some x=>
  rw[e] at hv hd
  cases hv
  cases hd
  exact .str x (h x (D1 e))
theorem ziP{α β:Type}{F:α->List β}{m:Nat}(hF:∀a,(F a).length<=m):∀l:List α,(l.flatMap F).length<=l.length*m
 |[]=>W1 _
 |a::l=>by
  rw[List.flatMap_cons,F1,J1,Nat.succ_mul]
  have:=ziP hF l
  have:=hF a
  lia
inductive Tr(H:Hp):V->PyData->Prop
 |non:Tr H .non .none
 |bl (b:Bool):Tr H (.bl b) (.bool b)
 |int (i:Int):Tr H (.int i) (.int i)
 |str (x:Str) (h:PyData.strOk x=true):Tr H (.str x) (.str x)
 |tup {p:Addr} {vs:List V} {ds:List PyData} (e:H p=some (.tup vs)) (hl:vs.length=ds.length) (h:∀(i:Nat) (v:V) (d:PyData),vs[i]?=some v->ds[i]?=some d->Tr H v d):Tr H (.ref p) (.tuple ds)
 |lst {p:Addr} {vs:List V} {ds:List PyData} (e:H p=some (.lst vs)) (hl:vs.length=ds.length) (h:∀(i:Nat) (v:V) (d:PyData),vs[i]?=some v->ds[i]?=some d->Tr H v d):Tr H (.ref p) (.list ds)
theorem zcd{h:Heap}:∀{vs:List V} {us:List Value} {ds:List PyData},Vals vs us->vs.length=ds.length->(∀(i:Nat) (v:V) (d:PyData),vs[i]?=some v->ds[i]?=some d->∀u,RelV v u->∃as,Reads h u d as)->∃bs,ReadsAll h us ds bs
 |_,_,[], .nil,_,_=>⟨_, .nil⟩
 |v::vs,u::us,d::ds, .cons r t,hl,hh=>by
  obtain⟨as,ha⟩:=hh 0 v d rfl rfl u r
  obtain⟨bs,hb⟩:=zcd t (by simpa using hl) λi v' d' h1 h2=>hh (i+1) v' d' h1 h2
  exact⟨_, .cons ha hb⟩
 |[],_,d::ds, .nil,hl,_=>by simp at hl
 |v::vs,u::us,[], .cons r t,hl,_=>by simp at hl
theorem Tr.reads(I:Inv X pins σ H s){x:V}{d:PyData}(t:Tr H x d):∀v,RelV x v->∃as,Reads s.heap v d as:=by
 induction t with
 |non=>intro v r;cases r;exact⟨_, .none⟩
 |bl b=>intro v r;cases r;exact⟨_, .bool b⟩
 |int i=>intro v r;obtain⟨t,rfl⟩:=r;exact⟨_, .int i t⟩
 |str x h=>intro v r;obtain⟨t,rfl⟩:=r;exact⟨_, .str x t⟩
 |tup e hl h ih=>
  intro v r
  cases r
  obtain⟨its,rv,⟨o,ho,hc,n,hd⟩,_⟩:=I.tuple (SqT.of e)
  obtain⟨bs,hb⟩:=zcd (h:=s.heap) rv hl ih
  exact⟨_, .tuple ho hc hd (by simpa using hb)⟩
 |lst e hl h ih=>
  intro v r
  cases r
  obtain⟨its,n,rv,ho,_⟩:=I.lst e
  obtain⟨bs,hb⟩:=zcd (h:=s.heap) rv hl ih
  exact⟨_, .list ho rfl rfl (by simpa using hb)⟩
theorem zdH:∀{vs:List V} {ds:List PyData},vs.length=ds.length->(∀(i:Nat) (v:V) (d:PyData),vs[i]?=some v->ds[i]?=some d->d.canLay0=true)->PyData.canLayAll0 ds=true
 |_,[],_,_=>rfl
 |v::vs,d::ds,hl,hh=>by
  rw[PyData.canLayAll0,hh 0 v d rfl rfl,zdH (vs:=vs) (ds:=ds) (by simpa using hl) λi v' d' h1 h2=>hh (i+1) v' d' h1 h2];rfl
 |[],d::ds,hl,_=>by simp at hl
theorem Tr.can{x:V}{d:PyData}(t:Tr H x d):d.canLay0=true:=by
 induction t with
 |non=>rfl
 |bl b=>rfl
 |int i=>rfl
 |str x h=>simp only[PyData.canLay0];exact h
 |tup e hl h ih=>rw[PyData.canLay0];exact zdH hl ih
 |lst e hl h ih=>rw[PyData.canLay0];exact zdH hl ih
theorem zta{k:Nat}(r:Room k A):A.units+64<cLine:=by have:=r.un;lia
section
variable{e:Expr}{p1 p2:Pos}{tk:Tok}
end
theorem getItem_tuple_whole{t sl:Addr}{hi:Option Int}(ht:IsTup s.heap t items)(hs:s.heap.IsSliceOf sl vl vu .none)(pl:IsPart vl lo)(pu:IsPart vu hi)
 (h1:sIx items.size 0 lo=0) (h2:sIx items.size items.size hi=items.size)
 (h:Q (.ref t) s):wpAny `V3 A (getItem (.ref t) (.ref sl)) Q E s:=by
 obtain⟨os,hos,hcs,hds⟩:=id hs
 have hTs:s.TypeIs (.ref sl) "slice":=⟨os,hos,hcs⟩
 unfold getItem
 try with_reducible refine X2 ?_
 first|refine C0 (K0 ?_)|skip
 refine C0 (wpAny_sequenceKey ht.typeIs ⋯ ?_)
 refine C0 (wpAny_callSpecial?_slot (name:=Str.ofString "__getitem__") ht.typeIs PyProof.Rows.slot_tuple_getitem
  (Y2 PyProof.Rows.slot_tuple_getitem ht.typeIs entry_tuple_getitem ?_ (args_tuple_getitem _ _)))
 show wpAny _ _ (Builtin.Tuple.tupleItemsOf (.ref t)>>=_) _ _ s
 refine C0 (tupleItemsOf_ ht ?_)
 refine C0 (wpAny_typeOf hTs ?_)
 rw[R0 ⋯]
 refine C0 (zcB hs pl pu ?_)
 rw[h1,h2]
 show wpAny _ _ (if(((0:Nat):Int)==0&&(1:Int)==1&&(items.size -0)==items.size)=true then _ else _) _ _ s
 rw[R0 `Z3]
 unfold Builtin.Tuple.tupleIsExact
 refine C0 (C0 (wpAny_typeOf ht.typeIs (K0 ?_)))
 rw[R0 ⋯]
 refine C0 (wpAny_rule ?_)
 exact K0 ⟨_,rfl,K0 h⟩
def zsn(K:W.Frag):V->Option Int->Option Int->Hp->VK->Prop:=λx lo hi H Q=>∃a xs,x= .ref a/\SqT K H a xs/\
 (zcs xs lo hi=xs->Q (.ref a) H)/\∀p,H p=none->Q (.ref p) (upd H p (.tup (zcs xs lo hi)))
theorem zpD:SlR X (zsn X.K):=by
 intro pins s σ H x v vl vu lo hi sl Q I rx hs pl pu h
 obtain⟨a,xs,rfl,hx,q1,q2⟩:=h
 by_cases hw:sIx xs.length 0 lo=0/\sIx xs.length xs.length hi=xs.length
 ·have rx':v= .ref a:=rx
  subst rx'
  obtain⟨its,r,ht,hz⟩:=I.tuple hx
  have hlen:its.toArray.size=xs.length:=by rw[Z0];exact r.length.symm
  refine⟨"tuple",_,PyProof.Rows.slot_tuple_getitem.lookup,ht.typeIs,?_⟩
  refine getItem_tuple_whole ht hs pl pu (by rw[hlen];exact hw.1) (by rw[hlen];exact hw.2) ⟨.ref a,H,I,rfl,q1 ?_⟩
  unfold zcs
  rw[hw.1,hw.2];simp
 ·exact zrV pins s σ H (.ref a) v vl vu lo hi sl Q I rx hs pl pu ⟨a,xs,rfl,hx,hw,q2⟩
section
variable{es:List D}
end
theorem zmt:∀x∈zdM,x≠"nowhere":=`Y3
theorem zmG:zlK "nowhere"=false:=`Y3
theorem zm1(f st sp j k:Nat):zaN f st sp j k≠"nowhere":=by
 unfold zaN
 split
 ·exact zmt _ (zkP sp k)
 ·intro z
  have e:=zmG
  rw[←z] at e
  unfold nmS at e
  rw[ziX] at e
  cases e
section
variable{es:List D}{k:Nat}{g:D->Bool}{lf:Addr}{m:Nat}
end
section
variable{x h t l a:D}
end
section
variable{es:List D}{k:Nat}{g:D->Bool}{m:Nat}
theorem ziK{p:Addr}(s:Same H H')(h:H' p=none):H p=none:=by
 cases e:H p with
 |none=>rfl
 |some o=>have:=s _ _ e;rw[h] at this;cases this
end
theorem zaF(h:zj x=true):PyData.strOk x=true:=by
 unfold zj at h
 simp only[W0] at h
 have h2:=h.1.2
 unfold PyData.strOk
 rw[Array.all_eq_true']
 intro c hc
 have:=F2.mp h2 c (by simpa using hc)
 unfold zlQ at this
 simp only[W0,decide_eq_true_eq] at this
 exact Y0 ()
theorem zbR{α:Type}[DecidableEq α]:∀{l m:List α},l.Nodup->(∀x∈l,x∈m)->l.length<=m.length
 |[],m,_,_=>W1 _
 |a::l,m,hn,hs=>by
  have ha:=hs a K1
  have:=zbR (l:=l) (m:=m.erase a) (U2.mp hn).2 λx hx=>(List.mem_erase_of_ne (λz:x=a=>(U2.mp hn).1 (by rw[←z];exact hx))).mpr (hs x (b0 _ hx))
  rw[List.length_erase_of_mem ha] at this
  have:1<=m.length:=List.length_pos_of_mem ha
  rw[J1]
  lia
theorem TownOk.lp{hs:List Str}(T:TownOk g hs ps lks hds):ps.length<=100:=by
 have nd:ps.Nodup:=T.riseP.imp λ{a b} h z=>by rw[z,zh5] at h;cases h
 have:=zbR (m:=hs.flatMap λa=>hs.map λb=>(a,b)) nd λp hp=>by
  obtain⟨h1,h2,_⟩:=T.ties p hp
  exact List.mem_flatMap.mpr ⟨p.1,h1,y1.mpr ⟨p.2,h2,rfl⟩⟩
 have h2:=ziP (F:=λa=>hs.map λb=>(a,b)) (m:=10) (λa=>by rw[D0];exact T.ten) hs
 have:=T.ten
 lia
theorem zbW{b:Bool}{X:Prop}(h:b=true)(x:X):if b=true then X else Y:=by rw[R0 h];exact x
theorem zbG{b:Bool}{X:Prop}(h:b=false)(y:Y):if b=true then X else Y:=by rw[N0 (by rw[h];decide)];exact y
section
open PySem.W
theorem ziU{r:Addr}{T:String}{o:Obj}{vs:List Value}{n:Nat}{R:List Value->Shared->Prop}(hT:T="list"\/T="tuple")(ho:s.heap.get? r=some o)(hc:o.cls= .type T)(hd:o.data= .seq vs.toArray n)(hz:vs.length<=sizeLine)
 (q:∀(h':Heap),(∀b o,s.heap.get? b=some o->h'.get? b=some o)->s.heap.objs.size<h'.objs.size->R vs {s with heap:=h'}):wpAny `V3 A (collect (.ref r)) R E s:=by
 have lt:=V0 ho
 have hne:r≠s.heap.objs.size:=P1 lt
 have g0:(s.heap.push {cls:= .type "list",data:= .seq ([]:List Value).toArray}).get? s.heap.objs.size=some (seqObj "list" #[] 0):=O0 _ rfl
 have gr:(s.heap.push {cls:= .type "list",data:= .seq ([]:List Value).toArray}).get? r=some o:=G0 _ ho
 obtain⟨e1,g1⟩:∃e1,((s.heap.push {cls:= .type "list",data:= .seq ([]:List Value).toArray}).update s.heap.objs.size (Obj.mapSeq λx=>x ++vs.toArray)).get? s.heap.objs.size=some (seqObj "list" ((#[]:Array Value)++vs.toArray) e1):=⟨_,get?_update_seq g0 λx=>x ++vs.toArray⟩
 have u1:=Heap.SameBut.update (s.heap.push {cls:= .type "list",data:= .seq ([]:List Value).toArray}) s.heap.objs.size (Obj.mapSeq λx=>x ++vs.toArray)
 unfold collect
 refine C0 (wpAny_runValue (codeAny_builtin entry_proto_collect' (by
  rw[Around.under_plainId F.plain_proto_collect _]
  show wpAny _ A.in1 (newList []>>=λl=>again (.builtin "list.__iadd__" ⟨[l, .ref r],[]⟩)) _ _ s
  refine C0 (D2 (K0 ⟨plainId_quiet F.plain_list_iadd _,codeAny_builtin entry_list_iadd' (by
   rw[Around.under_plainId F.plain_list_iadd _]
   show wpAny _ A.in1 (Builtin.List.listExtendWith (.ref s.heap.objs.size) (.ref r) (.ref s.heap.objs.size)) _ _ _
   unfold Builtin.List.listExtendWith
   have hty:({s with heap:=s.heap.push {cls:= .type "list",data:= .seq ([]:List Value).toArray}}:Shared).TypeIs (.ref r) T:=⟨o,gr,hc⟩
   refine C0 (wpAny_typeOf hty ?_)
   rw[R0 (by rcases hT with rfl|rfl<;>simp)]
   refine C0 (listItems_at gr hd (C0 (listItems_at g0 rfl ?_)))
   rw[N0 `Z3]
   refine C0 (listUpdate_at g0 rfl ?_ (W1 _) (by show((#[]:Array Value)++vs.toArray).size<=_;simp;lia))
   refine K0 ?_
   show wpAny _ A (load s.heap.objs.size>>=_) _ _ _
   refine C0 (wpAny_load g1 (K0 ?_))
   have ev:((#[]:Array Value)++vs.toArray).toList=vs:=`Z3
   show R ((#[]:Array Value)++vs.toArray).toList _
   rw[ev]
   exact q _ (λb o e=>(u1.2 b (P1 (V0 e))).trans (G0 _ e)) (V0 g1))⟩)))))
theorem zft{T:String}{o:Obj}{vs:List Value}{n:Nat}{ss:List Str}(hT:T="list"\/T="tuple")(ho:s.heap.get? l=some o)(hc:o.cls= .type T)(hd:o.data= .seq vs.toArray n)(hS:StrsAre vs ss)(h64:vs.length<64)
 (q:∀(D:Addr) (out:Array Value) (ss':List Str) (h':Heap) (e:Nat),StrsAre out.toList ss'->ss'.Perm ss->sortedS ss'=true->(∀b o,s.heap.get? b=some o->h'.get? b=some o)->s.heap.objs.size<=D->h'.get? D=some (seqObj "list" out e)->Q (.ref D) {s with heap:=h'}):
 wpAny `V3 A (call (.builtin "sorted") [.ref l]) Q E s:=by
 refine Calls.call_function_entry kind_sorted plain_sorted entry_sorted (args_sorted1 _) ?_
 unfold Builtin.«sorted»
 refine C0 (m:=checkCount "sorted" 1 1 _) (K0 (C0 (ziU hT ho hc hd (by rw[sizeLine_eq];lia) λh1 kp gr0=>?_)))
 refine C0 (wpAny_newList ?_ (by show vs.length<=_;rw[sizeLine_eq];lia))
 have hD:(h1.push (seqObj "list" vs.toArray 0)).get? h1.objs.size=some (seqObj "list" vs.toArray 0):=O0 _ rfl
 have k2:∀b o,s.heap.get? b=some o->(h1.push (seqObj "list" vs.toArray 0)).get? b=some o:=λb o e=>G0 _ (kp b o e)
 have gr:s.heap.objs.size<=h1.objs.size:=Nat.le_of_lt gr0
 show wpAny _ _ _ _ _ {s with heap:=h1.push (seqObj "list" vs.toArray 0)}
 refine C0 (X2 (Y2 slot_list_sort ⟨_,hD,rfl⟩ entry_list_sort (list_sort_treeK strKind_oneLt (s:={s with heap:=h1.push (seqObj "list" vs.toArray 0)}) hD hS.keysOf (λv1 v2 rest e=>?_) h64 λst' hp hs=>?_) (args_list_sort _)))
 ·subst e
  exact keyKind_strs hS
 ·obtain ⟨ss',a1,a2,a3⟩:=sorted_out_str hS hp hs
  obtain⟨e,he⟩:=sortedHeap_at (h:=h1.push (seqObj "list" vs.toArray 0)) (vs:=vs) (out:=Array.map (λx=>x.snd) (arrOf st')) hD
  refine⟨_,rfl,K0 ⟨_,rfl,q h1.objs.size _ ss' _ e a1 a2 a3 (λb o hb=>?_) gr he⟩⟩
  have lb:=V0 hb
  rw[sortedHeap_old (P1 (O1 lb gr)) (V0 (k2 b o hb))]
  exact k2 b o hb
def zqK(K:W.Frag):List V->Hp->VK->Prop:=λxs H Q=>∃(p:Addr) (ss:List Str),xs=[.ref p]/\(SqL K H p (ss.map V.str)\/SqT K H p (ss.map V.str))/\ss.length<64/\∀(ss':List Str) l,ss'.Perm ss->sortedS ss'=true->H l=none->Q (.ref l) (upd H l (.lst (ss'.map V.str)))
theorem zeL:CallR X (.builtin "sorted") (zqK X.K):=by
 intro pins s σ H xs us Q I r h
 obtain⟨p,ss,rfl,hq,h64,q⟩:=h
 obtain⟨u,rfl,ru⟩:=zc5 r
 cases ru
 have key:∀{its:List Value} {T:String} {o:Obj} {n:Nat},T="list"\/T="tuple"->s.heap.get? p=some o->o.cls= .type T->o.data= .seq its.toArray n->Vals (ss.map V.str) its->wpAny (model X.prog X.w) X.A (call (.builtin "sorted") [.ref p]) (EP X pins σ Q) X.xe s:=by
  intro its T o n hT ho hc hd rv
  have hS:=za9 rv
  have hl:=rv.length
  rw[D0] at hl
  refine zft hT ho hc hd hS () λD out ss' h' e a1 a2 a3 kp hD he=>?_
  refine⟨.ref D,_,I.laid (a:=D) (o:= .lst (ss'.map V.str)) (t':=s.toks) kp hD ⟨?_,out.toList,e,?_,?_⟩,rfl,q ss' D a2 a3 (I.hok.fresh hD)⟩
  ·rw[D0,a2.length_eq];exact Nat.le_of_lt (zo ())
  ·have mk:∀{vs:List Value} {zs:List Str},StrsAre vs zs->Vals (zs.map V.str) vs:=by
    intro vs zs h
    induction h with
    |nil=>exact .nil
    |cons x t _ ih=>exact .cons ⟨t,rfl⟩ ih
   exact mk a1
  ·rw[Array.toArray_toList];exact he
 rcases hq with hq|hq
 ·obtain ⟨its,rv,pl,hz⟩:=I.list hq
  obtain⟨o,ho,hc,n,hd⟩:=pl.isList
  exact key (.inl rfl) ho hc hd rv
 ·obtain ⟨its,rv,pl,hz⟩:=I.tuple hq
  obtain⟨o,ho,hc,n,hd⟩:=pl
  exact key (.inr rfl) ho hc hd rv
end
theorem zik{hs:List Str}:inV (.str x) (hs.map V.str)=hs.any λy=>decide (y=x):=by
 unfold inV
 rw[List.any_map]
 congr 1
theorem ze0{hs:List Str}:(hs.map V.str).all zeE=true:=by
 rw[List.all_map,F2]
 exact λ_ _=>rfl
theorem zo1{xs:List Str}(h:Rep H v (.tup (xs.map D.str))):∃p,v= .ref p/\H p=some (.tup (xs.map V.str)):=by
 obtain⟨p,vs,rfl,hp,r,_⟩:=h.ofT
 refine⟨p,rfl,?_⟩
 have e:vs=xs.map V.str:=by
  apply List.ext_getElem?
  intro i
  rcases Y1 i xs.length with hi|hi
  ·have hv:i<vs.length:=by rw[r.1,D0];exact hi
   have:=r.2 i vs[i] (.str xs[i]) (by simp[hv]) (by simp[hi])
   rw[F0 hv,U0,F0 hi]
   generalize vs[i]=z at this
   cases this
   rfl
  ·rw[Q0 (by rw[r.1,D0];exact hi),Q0 (by rw[D0];exact hi)]
 rw[←e];exact hp
theorem zts{d1 d2 d3 d4 d5:D}(h:Rep H v (.tup [d1,d2,d3,d4,d5])):∃p x1 x2 x3 x4 x5,v= .ref p/\H p=some (.tup [x1,x2,x3,x4,x5])/\Rep H x1 d1/\Rep H x2 d2/\Rep H x3 d3/\Rep H x4 d4/\Rep H x5 d5:=by
 obtain⟨p,vs,rfl,hp,r,_⟩:=h.ofT
 match vs,r with
 |[x1,x2,x3,x4,x5],r=>exact ⟨p,x1,x2,x3,x4,x5,rfl,hp,r.head.1,r.head.2.head.1,r.head.2.head.2.head.1,r.head.2.head.2.head.2.head.1,r.head.2.head.2.head.2.head.2.head.1⟩
 |[],r=>exact absurd r.1 `Z3
 |[_],r=>exact absurd r.1 `Z3
 |[_,_],r=>exact absurd r.1 `Z3
 |[_,_,_],r=>exact absurd r.1 `Z3
 |[_,_,_,_],r=>exact absurd r.1 `Z3
 |_::_::_::_::_::_::_,r=>exact absurd r.1 `Z3
def zsj(H:Hp)(v:V)(g:Str)(hs:List Str)(ps:List (Str×Str))(lks hds:List D):Prop:=∃p pr pt pl pa vt vl va,v= .ref p/\H p=some (.tup [.str g, .ref pr, .ref pt, .ref pl, .ref pa])/\H pr=some (.tup (hs.map V.str))/\H pt=some (.tup vt)/\RepL H vt (ps.map pairD)/\H pl=some (.tup vl)/\RepL H vl lks/\H pa=some (.tup va)/\RepL H va hds
theorem zeI{hs:List Str}(h:Rep H v (zaq g hs ps lks hds)):zsj H v g hs ps lks hds:=by
 obtain⟨p,x1,x2,x3,x4,x5,rfl,hp,r1,r2,r3,r4,r5⟩:=zts h
 cases r1 with|str _ _=>
 obtain⟨pr,rfl,hpr⟩:=zo1 r2
 obtain⟨pt,vt,rfl,hpt,rt,_⟩:=r3.ofT
 obtain⟨pl,vl,rfl,hpl,rl,_⟩:=r4.ofT
 obtain⟨pa,va,rfl,hpa,ra,_⟩:=r5.ofT
 exact⟨p,pr,pt,pl,pa,vt,vl,va,rfl,hp,hpr,hpt,rt,hpl,rl,hpa,ra⟩
noncomputable def zfy(ps:List (Str×Str))(x:Str):List Str:=(ps.filter λp=>decide (p.2=x)).map (·.1)++(ps.filter λp=>decide (p.1=x)).map (·.2)
theorem zjP:y∈zfy ps x↔(y,x)∈ps\/(x,y)∈ps:=by
 unfold zfy
 rw[Q2,y1,y1]
 constructor
 ·rintro (⟨⟨a,b⟩,h,rfl⟩|⟨⟨a,b⟩,h,rfl⟩)
  ·obtain ⟨h1,h2⟩:=O2.mp h
   have h2:b=x:=S0 h2
   subst h2
   exact .inl h1
  ·obtain ⟨h1,h2⟩:=O2.mp h
   have h2:a=x:=S0 h2
   subst h2
   exact .inr h1
 ·rintro (h|h)
  ·exact .inl ⟨(y,x),O2.mpr ⟨h,Y0 rfl⟩,rfl⟩
  ·exact .inr ⟨(x,y),O2.mpr ⟨h,Y0 rfl⟩,rfl⟩
theorem TownOk.ps_nd{hs:List Str}(T:TownOk g hs ps lks hds):ps.Nodup:=T.riseP.imp λ{a b} h z=>by rw[z,zh5] at h;cases h
theorem TownOk.hs_nd{hs:List Str}(T:TownOk g hs ps lks hds):hs.Nodup:=T.rise.imp λ{a b} h z=>by rw[z,zfF] at h;cases h
theorem zlA{hs:List Str}(T:TownOk g hs ps lks hds)(x:Str):(zfy ps x).Nodup:=by
 have nd:=T.ps_nd
 unfold zfy
 rw[List.nodup_append]
 refine⟨?_,?_,?_⟩
 ·rw[List.nodup_iff_pairwise_ne,List.pairwise_map]
  refine List.Pairwise.imp_of_mem (λ{a b} ha hb hab z=>?_) (nd.filter _)
  have h1:a.2=x:=S0 (O2.mp ha).2
  have h2:b.2=x:=S0 (O2.mp hb).2
  exact hab (Prod.ext z (h1.trans h2.symm))
 ·rw[List.nodup_iff_pairwise_ne,List.pairwise_map]
  refine List.Pairwise.imp_of_mem (λ{a b} ha hb hab z=>?_) (nd.filter _)
  have h1:a.1=x:=S0 (O2.mp ha).2
  have h2:b.1=x:=S0 (O2.mp hb).2
  exact hab (Prod.ext (h1.trans h2.symm) z)
 ·intro y hy z hz e
  subst e
  obtain⟨a,ha,rfl⟩:=y1.mp hy
  obtain⟨b,hb,eb⟩:=y1.mp hz
  obtain⟨ha1,ha2⟩:=O2.mp ha
  obtain⟨hb1,hb2⟩:=O2.mp hb
  have h1:a.2=x:=S0 ha2
  have h2:b.1=x:=S0 hb2
  have l1:=(T.ties a ha1).2.2
  have l2:=(T.ties b hb1).2.2
  rw[h1] at l1
  rw[h2,eb] at l2
  have:=zfA l1
  rw[l2] at this
  cases this
theorem zlC{hs:List Str}(T:TownOk g hs ps lks hds)(h:y∈zfy ps x):y∈hs:=by
 rcases zjP.mp h with h|h
 ·exact (T.ties _ h).1
 ·exact (T.ties _ h).2.1
theorem zjM{hs:List Str}(T:TownOk g hs ps lks hds)(x:Str):(zfy ps x).length<=10:=V1 (zbR (zlA T x) λy hy=>zlC T hy) T.ten
structure WayOk(g:Str)(hs:List Str)(ps:List (Str×Str))(ws:List Str):Prop where
 nd:ws.Nodup
 mem:∀x∈ws,x∈hs
 last:∃w0,ws=w0 ++ [g]
 tied:∀(i:Nat) (a b:Str),ws[i]?=some a->ws[i+1]?=some b->b∈zfy ps a
theorem ziW{sel:Str×Str->Bool}{f:Str×Str->Str}{ok:Hp->Prop}{g:TG}{src:List (Option Nat)}{Q:VK}(Iv:St->Prop)(wk:Wk J vs.length (λi x=>vs[i]?=some x) ok)(hok:∀H',Same H H'->ok H')(r:RepL H vs (ps.map pairD))(hl:ps.length<=900)(h0:Iv (zep src σ))
 (hs:∀(q:Addr) (p:Str×Str) (σ':St) (H1:Hp) (A:V->Hp->St->Prop) (B:St->Hp->Prop),Iv σ'->Same H H1->H1 q=some (.tup [.str p.1, .str p.2])->p∈ps->(∀σ2,Iv σ2->if sel p=true then A (.str (f p)) H1 σ2 else B σ2 H1)->g (.ref q) σ' H1 λσ2 H3=>tc σ2 H3 λb H4=>if b=true then te σ2 H4 (λy H5=>A y H5 σ2)else B σ2 H4)
 (q:∀l H',Same H H'->H l=none->H' l=some (.lst (((ps.filter sel).map f).map V.str))->Q (.ref l) H'):zdZ g tc te src σ Q J H:=by
 refine zcY wk (λl i ys σ' H'=>Iv σ'/\ys=(((ps.take i).filter sel).map f).map V.str/\Same H H') ?_ ?_ ?_ ?_
 ·exact λl h'=>⟨h0,rfl,Same.new h'⟩
 ·exact λl i ys σ' H' _ p=>hok H' p.2.2
 ·rintro l i y ys σ' H1 h' hi hy ⟨iv,rfl,s1⟩ hl'
  obtain⟨d,hd,rd⟩:=r.get hy
  rw[U0] at hd
  cases hp:ps[i]? with
  |none=>rw[hp] at hd;cases hd
  |some p=>
   rw[hp] at hd
   cases hd
   obtain⟨q,x,y,rfl,hq,r1,r2⟩:=(rd.same s1).of2
   cases r1 with|str _ _=>
   cases r2 with|str _ _=>
   refine hs q p σ' H1 (λy H5 σ2=>H5 l=some (.lst ((((ps.take i).filter sel).map f).map V.str))/\((((ps.take i).filter sel).map f).map V.str).length<sizeLine/\Iv σ2/\(((ps.take i).filter sel).map f).map V.str ++ [y]=(((ps.take (i+1)).filter sel).map f).map V.str/\Same H (upd H5 l (.lst ((((ps.take i).filter sel).map f).map V.str ++ [y])))) (λσ2 H4=>H4 l=some (.lst ((((ps.take i).filter sel).map f).map V.str))/\Iv σ2/\(((ps.take i).filter sel).map f).map V.str=(((ps.take (i+1)).filter sel).map f).map V.str/\Same H H4) iv s1 hq (D1 hp) λσ2 iv2=>?_
   have tk:((ps.take (i+1)).filter sel)=((ps.take i).filter sel)++ [p].filter sel:=by rw[List.take_add_one,hp,List.filter_append];rfl
   cases hsel:sel p with
   |false=>
    refine zbG rfl ⟨hl',iv2,?_,s1⟩
    rw[tk]
    simp[hsel]
   |true=>
    refine zbW rfl ⟨hl',?_,iv2,?_,?_⟩
    ·rw[D0,D0]
     have h2:=List.length_filter_le sel (ps.take i)
     rw[J2] at h2
     exact zo ()
    ·rw[tk]
     simp[hsel]
    ·exact λc o e=>by
      rw[zd (zg e h')]
      exact s1 _ _ e
 ·rintro l ys σ' H1 h' ⟨iv,rfl,s1⟩ hl'
  have e:ps.length=vs.length:=by rw[r.1,D0]
  rw[←e,List.take_length] at hl'
  exact q l H1 s1 h' hl'
theorem zlZ{xs:List Str}(r:RepL H us (xs.map D.str)):us=xs.map V.str:=by
 apply List.ext_getElem?
 intro i
 rcases Y1 i xs.length with hi|hi
 ·have hv:i<us.length:=by rw[r.1,D0];exact hi
  have:=r.2 i us[i] (.str xs[i]) (by simp[hv]) (by simp[hi])
  rw[F0 hv,U0,F0 hi]
  generalize us[i]=z at this
  cases this
  rfl
 ·rw[Q0 (by rw[r.1,D0];exact hi),Q0 (by rw[D0];exact hi)]
noncomputable def zx(xs:List Str):List PyData:=xs.map PyData.str
section
variable{es:List D}
end
section
variable{es:List D}{k:Nat}
end
theorem zfZ:∀{l m:List Str},l.Pairwise (λa b=>ltS a b=true)->m.Pairwise (λa b=>ltS a b=true)->(∀x,x∈l↔x∈m)->l=m
 |[],[],_,_,_=>rfl
 |[],b::m,_,_,h=>absurd ((h b).mpr K1) E2
 |a::l,[],_,_,h=>absurd ((h a).mp K1) E2
 |a::l,b::m,p,q,h=>by
  obtain⟨p1,p2⟩:=List.pairwise_cons.mp p
  obtain⟨q1,q2⟩:=List.pairwise_cons.mp q
  have e:a=b:=by
   rcases X0.mp ((h a).mp K1)with z|z
   ·exact z
   rcases X0.mp ((h b).mpr K1)with y|y
   ·exact y.symm
   have:=zfA (q1 a z)
   rw[p1 b y] at this;cases this
  subst e
  rw[zfZ p2 q2 λx=>⟨λhx=>?_,λhx=>?_⟩]
  ·rcases X0.mp ((h x).mp (b0 _ hx))with rfl|z
   ·have:=p1 x hx;rw[zfF] at this;cases this
   ·exact z
  ·rcases X0.mp ((h x).mpr (b0 _ hx))with rfl|z
   ·have:=q1 x hx;rw[zfF] at this;cases this
   ·exact z
noncomputable def dueB(ps:List (Str×Str))(x:Str):D->Bool| .str y=>decide ((x,y)∈ps)||decide ((y,x)∈ps)|_=>false
noncomputable def due(hs:List Str)(ps:List (Str×Str))(x:Str):List Str:=hs.filter λy=>decide ((x,y)∈ps)||decide ((y,x)∈ps)
theorem zr6{hs:List Str}(T:TownOk g hs ps lks hds)(hp:ts.Perm (zfy ps x))(h:sortedS ts=true):ts=due hs ps x:=by
 refine zfZ (ziJ ts h (hp.nodup_iff.mpr (zlA T x))) (T.rise.filter _) λy=>?_
 rw[hp.mem_iff,zjP]
 unfold due
 rw[O2,Bool.or_eq_true,C3,C3]
 constructor
 ·rintro (z|z)
  ·exact ⟨(T.ties _ z).1, .inr z⟩
  ·exact ⟨(T.ties _ z).2.1, .inl z⟩
 ·rintro ⟨_,z|z⟩
  ·exact .inr z
  ·exact .inl z
theorem zfq:∀{xs ys:List Str},PyData.eqvAll (zx xs) (zx ys)=decide (xs=ys)
 |[],[]=>by unfold zx;rw[List.map_nil,PyData.eqvAll];rfl
 |[],y::ys=>by unfold zx;rw[List.map_nil,Z1,PyData.eqvAll];rfl
 |x::xs,[]=>by unfold zx;rw[List.map_nil,Z1,PyData.eqvAll];rfl
 |x::xs,y::ys=>by
  have ih:=zfq (xs:=xs) (ys:=ys)
  unfold zx at ih⊢
  rw[Z1,Z1,PyData.eqvAll,PyData.eqv,ih,Bool.eq_iff_iff,C3,List.cons.injEq]
  simp
theorem zbe:∀{xs:List Str},PyData.depthAll (zx xs)<=1
 |[]=>by unfold zx;rw[List.map_nil,PyData.depthAll];decide
 |x::xs=>by
  have ih:=zbe (xs:=xs)
  unfold zx at ih⊢
  rw[Z1,PyData.depthAll,PyData.depth]
  lia
structure FunD(K:W.Frag)(x qual:Str)(st:Stmt)(f:Addr)(fd:FuncData):Prop where
 ex:∃(oc:Value) (od:Option Addr) (dt:Addr) (kV doc pm:Value) (an:Option Addr) (cdv ct:Value) (osl:Array (Option Value)) (od2:Option Addr) (n2:Nat) (sl2:Array (Option Value)),
  fd=W.fnOf x qual (z7 st) (zK st) (ze st) (.ref dt) kV doc pm an cdv ct/\K.lookup f=some ⟨oc,od, .func fd,osl⟩/\W.codeIn K cdv qual=true/\K.lookup dt=some ⟨.type "tuple",od2, .seq #[.none] n2,sl2⟩
 kp:W.keepIn K (.ref f)=true
section
variable{mg:Str->Option Value}
theorem FunD.okQ{st:Stmt}{ps:List Str}{k:Nat}(F:FunD K x qual st f fd)(S:FnScope N ps (ze st))(len:∀vs H Q E,sp vs H Q E->vs.length=ps.length)
 (hbody:∀(cdv:Value) (A:Around) (outer:List Env) (s:Shared) (H:Hp) (vs:List V) (Q:VK) (E:XK),Room k (A.deeper (envOfC qual (ze st) s.heap.objs.size f cdv))->sp vs H Q E->
   ∃t,QB (zgT CX0 P w K mg base N qual (ze st) f cdv A outer s H E).nox (zK st) t/\t {nx:=λ_ H'=>Q .non H',rt:=Q} (zdz N vs) H):FnOk P w K mg base CX0 (k+1) f fd ps sp:=by
 obtain⟨oc,od,dt,kV,doc,pm,an,cdv,ct,osl,od2,n2,sl2,rfl,lk,hcd,ld⟩:=F.ex
 refine zoA lk hcd S len λA outer s H vs Q E hr hsp=>?_
 obtain⟨t,h,q⟩:=hbody cdv A outer s H vs Q E hr hsp
 exact⟨t,h.o.nox,q⟩
theorem ziH{st:Stmt}{dt:Addr}{an od2:Option Addr}{kV:Value}(l:K.lookup f=some ⟨oc,od, .func (W.fnOf x qual (z7 st) (zK st) (ze st) (.ref dt) kV doc pm an cdv ct),osl⟩)
 (ld:K.lookup dt=some ⟨.type "tuple",od2, .seq #[.none] n2,sl2⟩) (c:W.codeIn K cdv qual=true) (k:W.keepIn K (.ref f)=true):FunD K x qual st f (W.fnOf x qual (z7 st) (zK st) (ze st) (.ref dt) kV doc pm an cdv ct):=⟨⟨oc,od,dt,kV,doc,pm,an,cdv,ct,osl,od2,n2,sl2,rfl,l,c,ld⟩,k⟩
theorem FunD.binds{st:Stmt}{ps:List Str}{ds:List Value}(F:FunD K x qual st f fd)(m:Nat)(hm:ps.length=m+ds.length)
 (h:∀(dt:Addr) (kV doc pm:Value) (an:Option Addr) (cdv ct:Value) (us:List Value),us.length=m->∃k:Option (Array Value)->Sem (List (Str×Value)),bindArgs (W.fnOf x qual (z7 st) (zK st) (ze st) (.ref dt) kV doc pm an cdv ct) ⟨us,[]⟩=seqItems? (.ref dt)>>=k/\k (some #[.none])=pure (ps.zip (us ++ds))):Binds K fd ps ds:=by
 obtain⟨oc,od,dt,kV,doc,pm,an,cdv,ct,osl,od2,n2,sl2,rfl,lk,hcd,ld⟩:=F.ex
 intro s us kin hl
 obtain⟨k,e1,e2⟩:=h dt kV doc pm an cdv ct us (by rw[F1] at hl;lia)
 exact BindsTo.of_defaults (T:=dt) rfl (kin _ _ ld) rfl e1 e2
end
structure AtD(K:W.Frag)(mg:Str->Option Value)(x:Str)(st:Stmt)(ps:List Str)(f:Addr)(fd:FuncData):Prop where
 fn:FunD K x x st f fd
 b:Binds K fd ps []
 bd:Binds K fd ps [.none]
 mg:mg x=some (.ref f)
 kp:W.keepIn K (.ref f)=true
variable{mg:Str->Option Value}
noncomputable def zP(O:List Str):D->Bool| .tup [_, .str x]=>decide (x∈O)|_=>true
noncomputable def za3(O:List Str):D->Bool| .tup [.str w,e]=>if w="not"then zP O e else zP O (.tup [.str w,e])|_=>true
noncomputable def zpG(O:List Str):D->Bool| .tup ds=>ds.all (za3 O)|_=>true
noncomputable def zgx(O:List Str):D->Bool| .tup [c,t]=>zpG O c&&zP O t|_=>true
noncomputable def zbN(O:List Str):D->Bool| .tup ds=>ds.all (zgx O)|_=>true
structure Pool(hs:List Str)(lks hds:List D)(O:List Str):Prop where
 few:O.length<=14
 nm:∀x∈O,zj x=true
 hs:∀x∈hs,x∈O
 lk:∀d∈lks,zbN O d=true
 hd:∀d∈hds,zbN O d=true
variable{hs:List Str}
noncomputable def zhN(O:List Str)(d:D):Bool:=zI d&&zgx O d
noncomputable def zhV(O:List Str)(d:D):Bool:=zbd d&&zgx O d
theorem zbq{y:D}(h:x∈O):zP O (.tup [y, .str x])=true:=Y0 h
theorem zhL{w:Str}{e:D}(h:zD (.tup [.str w,e])=true)(hp:zP O (.tup [.str w,e])=true):za3 O (.tup [.str w,e])=true:=by
 show(if w="not"then _ else _)=true
 by_cases z:w="not"
 ·subst z;rw[zdE] at h;cases h
 ·rw[N0 z];exact hp
theorem zmE(h:zD d=true)(hp:zP O d=true):za3 O d=true:=by
 obtain⟨x,e,rfl⟩:=zb6 d h
 exact zhL h hp
theorem zkf(hp:zP O d=true):za3 O (.tup [.str "not",d])=true:=by
 show(if("not":Str)="not"then zP O d else zP O (.tup [.str "not",d]))=true
 rw[R0 rfl];exact hp
theorem zhk{t:D}(h:∀d∈ds,za3 O d=true)(ht:zP O t=true):zgx O (.tup [.tup ds,t])=true:=by
 show(ds.all (za3 O)&&zP O t)=true
 rw[F2.mpr h,ht];rfl
theorem zgA{P:Program}{w:World}:∀{es:List DictEntry} {kvs:List (Key×Value)},Pairs (zS P w) es kvs->Vals (kvs.map λkv=>kV kv.1) (es.map (·.key))
 |_,_, .nil=> .nil
 |_,_, .cons (e:=e) (kv:=kv) h1 h2 h3=>by
  refine .cons ?_ (zgA h3)
  have h1:zgJ kv.1 e.key=true:=h1
  rcases zV h1 with⟨i,t,a,b⟩|⟨x,t,a,b⟩
  ·show RelV (kV kv.1) e.key
   rw[a,b];exact⟨t,rfl⟩
  ·show RelV (kV kv.1) e.key
   rw[a,b];exact⟨t,rfl⟩
theorem zhR:∀{kvs:List (Key×V)} {vs:List (Key×Value)},KV kvs vs->kvs.map (·.1)=vs.map (·.1)
 |_,_, .nil=>rfl
 |_,_, .cons h t=>by rw[Z1,Z1,h.1,zhR t]
noncomputable def phB(ws ms:List Str)(to:Option Str)(w:Str)(x:D):Bool:=
 if w="by"then (match x with| .str y=>ws.any λz=>decide (z=y)|_=>false)
 else if w="from"then (match x with| .str y=>decide (ws[1]?=some y)|_=>false)
 else if w="to"then (match x with| .str y=>decide (to=some y)|_=>false)
 else if w="mark"then (match x with| .str y=>ms.any λz=>decide (z=y)|_=>false)
 else(match x with| .int i=>decide (i<(ws.length:Int))|_=>false)
noncomputable def zeW(ws ms:List Str)(to:Option Str):D->Bool| .tup [.str w,x]=>phB ws ms to w x|_=>false
noncomputable def zcU(ws ms:List Str)(to:Option Str):D->Bool| .tup [.str w,x]=>if w="not"then !zeW ws ms to x else phB ws ms to w x|_=>false
def TO0(v:V)(to:Option Str):Prop:=(v= .non/\to=none)\/∃x,v= .str x/\to=some x/\zj x=true
theorem zaG{e:D}(h:zD (.tup [.str x,e])=true):(x="long"/\∃i:Int,e= .int i/\0<=i/\i<=99)\/(x∈zbC/\∃y,e= .str y/\zj y=true):=by
 rw[zem] at h
 by_cases z:x="long"
 ·rw[R0 z] at h
  cases e with
  |int i=>
   have h:(decide (0<=i)&&decide (i<=99))=true:=h
   rw[W0,C3,C3] at h
   exact .inl ⟨z,i,rfl,h.1,h.2⟩
  |_=>cases h
 ·rw[N0 z,W0] at h
  obtain⟨h1,h2⟩:=h
  obtain⟨y,hy,ey⟩:=List.any_eq_true.mp h1
  have ey:y=x:=S0 ey
  subst ey
  cases e with
  |str y'=>exact .inr ⟨hy,y',rfl,h2⟩
  |_=>cases h2
theorem zeA(h:x∈zbC):x="by"\/x="from"\/x="to"\/x="mark":=by
 unfold zbC at h
 simpa using h
theorem zst{to:Option Str}:phB ws ms to "by" (.str y)=ws.any λz=>decide (z=y):=by
 unfold phB;rw[R0 rfl]
theorem zqo{to:Option Str}:phB ws ms to "from" (.str y)=decide (ws[1]?=some y):=by
 unfold phB;rw[N0 `Y3,R0 rfl]
theorem zsX{to:Option Str}:phB ws ms to "to" (.str y)=decide (to=some y):=by
 unfold phB;rw[N0 `Y3,N0 `Y3,R0 rfl]
theorem zqt{to:Option Str}:phB ws ms to "mark" (.str y)=ms.any λz=>decide (z=y):=by
 unfold phB;rw[N0 `Y3,N0 `Y3,N0 `Y3,R0 rfl]
theorem zqe{to:Option Str}{i:Int}:phB ws ms to "long" (.int i)=decide (i<(ws.length:Int)):=by
 unfold phB;rw[N0 `Y3,N0 `Y3,N0 `Y3,N0 `Y3]
theorem TO0.eq{to:Option Str}(h:TO0 v to):zr1 v (.str y)=true/\decide (v= .str y)=decide (to=some y):=by
 rcases h with⟨rfl,rfl⟩|⟨x,rfl,rfl,_⟩
 ·exact ⟨rfl,rfl⟩
 ·refine ⟨rfl,?_⟩
  rw[zcC,Bool.eq_iff_iff,C3,C3,Option.some.injEq]
theorem zkg{p:Addr}{xs:List Str}(e:H p=some (.tup (xs.map V.str)))(h:∀x∈xs,PyData.strOk x=true):Tr H (.ref p) (.tuple (zx xs)):=by
 refine .tup e (by unfold zx;rw[D0,D0]) λi v d e1 e2=>?_
 unfold zx at e2
 rw[U0] at e1 e2
 cases e3:xs[i]? with
 |none=>rw[e3] at e1;cases e1
 |some x=>
  rw[e3] at e1 e2
  cases e1
  cases e2
  exact .str x (h x (D1 e3))
theorem zdF{xs ys:List Str}:(PyData.tuple (zx xs)).eqv (.tuple (zx ys))=decide (xs=ys):=by
 rw[PyData.eqv,zfq]
theorem zfo{xs:List Str}:(PyData.tuple (zx xs)).depth<=60:=by
 have:=zbe (xs:=xs)
 rw[PyData.depth]
 lia
noncomputable def zeu(c:D->Bool)(g:List Str->List Str->Option Str->D->Bool):Sp:=λvs H Q _=>∃(v:V) (d:D) (pw pm:Addr) (vt:V) (ws ms:List Str) (to:Option Str),vs=[v, .ref pw, .ref pm,vt]/\Rep H v d/\c d=true/\H pw=some (.tup (ws.map V.str))/\H pm=some (.tup (ms.map V.str))/\TO0 vt to/\(∀x∈ws,zj x=true)/\(∀x∈ms,zj x=true)/\1<=ws.length/\ws.length<=100/\ms.length<=100/\∀H',Same H H'->Q (.bl (g ws ms to d)) H'
theorem zgd{c:D}(h:zan c=true):∃cs,c= .tup cs/\cs.length<=4/\∀d∈cs,zC d=true:=by
 cases c with
 |tup cs=>
  rw[zi9,W0] at h
  exact⟨cs,rfl,S0 h.1,F2.mp h.2⟩
 |_=>cases h
theorem zku{f:D->D->Bool}(h:(match d with| .tup [c,x]=>f c x|_=>false)=true):∃c x,d= .tup [c,x]/\f c x=true:=by
 split at h
 ·exact ⟨_,_,rfl,h⟩
 ·cases h
theorem zhJ(h:zI d=true):∃cs x,d= .tup [.tup cs,x]/\cs.length<=4/\(∀c∈cs,zC c=true)/\(x= .non\/∃i,x= .int i):=by
 unfold zI at h
 obtain⟨c,x,rfl,h⟩:=zku (f:=λc x=>zan c&&zbl x&&!zeq c) h
 rw[W0,W0] at h
 obtain⟨cs,rfl,h4,hc⟩:=zgd h.1.1
 refine⟨cs,x,rfl,h4,hc,?_⟩
 have hx:=h.1.2
 cases x with
 |non=>exact .inl rfl
 |int i=>exact .inr ⟨i,rfl⟩
 |_=>cases hx
theorem zj8{x:D}(h:zbT x=true):(x= .tup [.str "keep"])\/∃w y,x= .tup [.str w, .str y]/\(w="put"\/w="strike")/\zj y=true:=by
 unfold zbT at h
 split at h
 ·rename_i w
  exact .inl (by rw[S0 h])
 ·rename_i w y
  rw[W0,Bool.or_eq_true] at h
  have h2:=h.2
  cases y with
  |str y=>exact .inr ⟨w,y,rfl,h.1.imp S0 S0,h2⟩
  |_=>cases h2
 ·cases h
theorem zhQ(h:zbd d=true):∃cs x,d= .tup [.tup cs,x]/\cs.length<=4/\(∀c∈cs,zC c=true)/\zbT x=true:=by
 unfold zbd at h
 obtain⟨c,x,rfl,h⟩:=zku (f:=λc x=>zan c&&zbT x) h
 rw[W0] at h
 obtain⟨cs,rfl,h4,hc⟩:=zgd h.1
 exact⟨cs,x,rfl,h4,hc,h.2⟩
theorem zmk{t:D}(h:zgx O (.tup [.tup cs,t])=true):(∀c∈cs,za3 O c=true)/\zP O t=true:=by
 have h:(cs.all (za3 O)&&zP O t)=true:=h
 rw[W0] at h
 exact⟨F2.mp h.1,h.2⟩
section
variable{es:List D}{k:Nat}
end
theorem zfk:∀{vs:List Value} {ys:List Str},StrsAre vs ys->vs.length=ys.length/\∀(i:Nat) (y:Str),ys[i]?=some y->∃t,vs[i]?=some (.str y t)
 |_,_, .nil=>⟨rfl,λi y h=>by simp at h⟩
 |_,_, .cons y t r=>by
  obtain⟨h1,h2⟩:=zfk r
  refine⟨by simp[h1],λi z h=>?_⟩
  cases i with
  |zero=>cases h;exact⟨t,rfl⟩
  |succ i=>exact h2 i z h
theorem index_tup{t:Addr}{ys:List Str}{tk:Tok}(ht:IsTup s.heap t items)(hS:StrsAre items.toList ys)(hj:ys[j]?=some x)(hb:∀i<j,ys[i]?≠some x)
 (h:∀(t':Tok) (k:Nat),Q (.int j t') {s with toks:=k}):wpAny `V3 A (call (.builtin "tuple.index") [.ref t, .str x tk]) Q E s:=by
 refine Y2 F.slot_tuple_index ht.typeIs F.entry_tuple_index ?_ (F.args_tuple_index_2 _ _)
 unfold Builtin.«tuple.index»
 refine C0 (m:=selfAndSome "tuple.index" "index" 1 3 _) (K0 ?_)
 dsimp only
 refine C0 (tupleItemsOf_ ht ?_)
 refine C0 (K0 ?_)
 refine C0 (K0 ?_)
 obtain⟨hl,hg⟩:=zfk hS
 have hjn:j<items.size:=by
  rw[←Array.length_toList,hl]
  rcases Y1 j ys.length with z|z
  ·exact z
  ·rw[Q0 z] at hj;cases hj
 rw[Std.Legacy.Range.forIn_eq_forIn_range']
 refine C0 (wpAny_forIn_list _ (λl b s'=>∃i,l=List.range' i (items.size -i) 1/\i<=j/\b=(none,Unit.unit)/\s'=s) _ ?_ ?_ _ _ ?_)
 ·rintro a rest b s' ⟨i,el,hij,rfl,rfl⟩
  obtain⟨m,em⟩:∃m,items.size -i=m+1:=⟨items.size -i -1,()⟩
  rw[em,List.range'_succ] at el
  have ea:=(List.cons.inj el).1
  have er:=(List.cons.inj el).2
  subst er
  rw[ea]
  have hiy:i<ys.length:=by rw[←hl,Array.length_toList];lia
  obtain⟨t1,e1⟩:=hg i ys[i] (by simp[hiy])
  have e2:items[i]?=some (.str ys[i] t1):=by rw[←Array.getElem?_toList];exact e1
  rw[e2]
  dsimp only
  refine C0 (wpAny_eqBool_str ?_)
  rcases Y1 i j with z|z
  ·have ne:¬ys[i]=x:=λy=>hb i z (by rw[←y];simp[hiy])
   rw[E1 ne]
   exact K0 ⟨i+1,by rw[show items.size -(i+1)=m by lia],(),rfl,rfl⟩
  ·have ei:i=j:=()
   subst ei
   have ey:ys[i]=x:=by
    have:ys[i]?=some ys[i]:=by simp[hiy]
    rw[this] at hj;exact U1 hj
   rw[Y0 ey]
   refine C0 (m:=retInt _) (C0 (wpAny_mkInt (K0 (K0 ?_))))
   exact K0 ⟨_,rfl,h _ _⟩
 ·rintro b s' ⟨i,el,hij,rfl,rfl⟩
  have:=Z2 List.length el
  rw[List.length_range',List.length_nil] at this
  lia
 ·exact ⟨0,by simp[Std.Legacy.Range.size],W1 _,rfl,rfl⟩
def zp1(K:W.Frag):V->List V->Hp->VK->Prop:=λx vs H Q=>∃(p:Addr) (ys:List Str) (y:Str) (j:Nat),x= .ref p/\vs=[.str y]/\SqT K H p (ys.map V.str)/\ys[j]?=some y/\(∀i<j,ys[i]?≠some y)/\Q (.int (j:Int)) H
theorem zhI:MtR X "tuple.index" (zp1 X.K):=by
 intro pins s σ H x xs v us Q I rx rs h
 obtain⟨p,ys,y,j,rfl,rfl,hq,hj,hb,q⟩:=h
 cases rx
 obtain⟨u,rfl,ru⟩:=zc5 rs
 obtain⟨t,rfl⟩:=ru
 obtain⟨its,rv,pl,hz⟩:=I.tuple hq
 exact index_tup pl (by simpa using za9 rv) hj hb λt' k=>⟨.int _,H,I.tok _,⟨_,rfl⟩,q⟩
theorem znl(nd:hs.Nodup)(h1:hs[i]?=some x)(h2:hs[j]?=some x):i=j:=by
 have lt:∀{k:Nat},hs[k]?=some x->k<hs.length:=λ{k} z=>by
  rcases Y1 k hs.length with y|y
  ·exact y
  ·rw[Q0 y] at z;cases z
 have l1:=lt h1
 have l2:=lt h2
 rw[F0 l1] at h1
 rw[F0 l2] at h2
 have e:hs[i]=hs[j]:=(U1 h1).trans (U1 h2).symm
 have pw:=List.pairwise_iff_getElem.mp nd
 rcases Nat.lt_trichotomy i j with z|z|z
 ·exact absurd e (pw i j l1 l2 z)
 ·exact z
 ·exact absurd e.symm (pw j i l2 l1 z)
theorem zju(nd:hs.Nodup)(h:hs[j]?=some x):∀i<j,hs[i]?≠some x:=λi hi z=>by
 have:=znl nd z h
 lia
noncomputable def zeY(ws ms:List Str)(to:Option Str)(cs:List D):Bool:=cs.all (zcU ws ms to)
noncomputable def zhi:D->List D| .tup [.tup cs,_]=>cs|_=> []
noncomputable def zo4:D->D| .tup [_,t]=>t|_=> .non
noncomputable def zH(ws ms:List Str):List D->D
 |[]=> .int 0
 |r::rs=>if zeY ws ms none (zhi r)=true then zo4 r else zH ws ms rs
noncomputable def zkT:Sp:=λvs H Q _=>∃(v:V) (cs:List D) (pw pm:Addr) (vt:V) (ws ms:List Str) (to:Option Str),vs=[v, .ref pw, .ref pm,vt]/\Rep H v (.tup cs)/\(∀c∈cs,zC c=true)/\H pw=some (.tup (ws.map V.str))/\H pm=some (.tup (ms.map V.str))/\TO0 vt to/\(∀x∈ws,zj x=true)/\(∀x∈ms,zj x=true)/\1<=ws.length/\ws.length<=100/\ms.length<=100/\∀H',Same H H'->Q (.bl (zeY ws ms to cs)) H'
noncomputable def zsJ:Sp:=λvs H Q _=>∃(v:V) (x:Str) (g:Str) (hs:List Str) (ps:List (Str×Str)) (lks hds:List D) (j:Nat),vs=[v, .str x]/\Rep H v (zaq g hs ps lks hds)/\TownOk g hs ps lks hds/\hs[j]?=some x/\∀(vr:V) (d:D),lks[j]?=some d->Rep H vr d->Q vr H
noncomputable def ziq:Sp:=λvs H Q _=>∃(v:V) (pw pm:Addr) (x:Str) (ws ms:List Str) (g:Str) (hs:List Str) (ps:List (Str×Str)) (lks hds:List D) (j:Nat) (rs:List D),vs=[v, .ref pw, .ref pm]/\Rep H v (zaq g hs ps lks hds)/\TownOk g hs ps lks hds/\hs[j]?=some x/\lks[j]?=some (.tup rs)/\H pw=some (.tup ((x::ws).map V.str))/\H pm=some (.tup (ms.map V.str))/\(∀y∈x::ws,zj y=true)/\(∀y∈ms,zj y=true)/\ws.length<=90/\ms.length<=100/\∀(u:V) (H':Hp),Rep H' u (zH (x::ws) ms rs)->Same H H'->Q u H'
theorem zrL(T:TownOk g hs ps lks hds)(h:x∈hs):∃(j:Nat) (rs:List D),hs[j]?=some x/\lks[j]?=some (.tup rs)/\rs.length<=90/\∀r∈rs,zI r=true:=by
 obtain⟨j,hj,e⟩:=K2 h
 have hl:j<lks.length:=by rw[T.ll];exact hj
 have hlk:=T.likes lks[j] (List.getElem_mem hl)
 cases hd:lks[j] with
 |tup rs=>
  rw[hd] at hlk
  have h:(decide (rs.length<=90)&&rs.all zI)=true:=hlk
  rw[W0] at h
  exact⟨j,rs,by rw[F0 hj,e],by rw[F0 hl,hd],S0 h.1,F2.mp h.2⟩
 |_=>rw[hd] at hlk;cases hlk
theorem zlE{rs:List α}{d:α}(h:rs[i]?=some d):rs.drop i=d::rs.drop (i+1):=by
 have hi:i<rs.length:=by
  rcases Y1 i rs.length with y|y
  ·exact y
  ·rw[Q0 y] at h;cases h
 rw[List.drop_eq_getElem_cons hi]
 rw[F0 hi] at h
 rw[U1 h]
mutual
noncomputable def okD:D->Bool
 | .str x=>PyData.strOk x
 | .tup ds=>okL ds
 | .oth=>false
 | .non=>true
 | .bl _=>true
 | .int _=>true
noncomputable def okL:List D->Bool
 |[]=>true
 |d::ds=>okD d&&okL ds
end
mutual
noncomputable def pyD:D->PyData
 | .non=> .none
 | .bl b=> .bool b
 | .int i=> .int i
 | .str x=> .str x
 | .tup ds=> .tuple (pyL ds)
 | .oth=> .none
noncomputable def pyL:List D->List PyData
 |[]=> []
 |d::ds=>pyD d::pyL ds
end
theorem zfI:∀{ds:List D},pyL ds=ds.map pyD
 |[]=>by rw[pyL];rfl
 |d::ds=>by rw[pyL,Z1,zfI]
theorem zk4:∀{ds:List D},okL ds=true->∀d∈ds,okD d=true
 |[],_,_,z=>nomatch z
 |d::ds,h,e,he=>by
  rw[okL,W0] at h
  rcases X0.mp he with rfl|he
  ·exact h.1
  ·exact zk4 h.2 e he
theorem zoD:∀{ds:List D},(∀d∈ds,okD d=true)->okL ds=true
 |[],_=>by rw[okL]
 |d::ds,h=>by rw[okL,h d K1,zoD λe he=>h e (b0 _ he)];rfl
noncomputable def leS(a b:Str):Bool:=!ltS b a
noncomputable def srt(l:List Str):List Str:=l.mergeSort leS
theorem znR(a b c:Str)(h1:leS a b=true)(h2:leS b c=true):leS a c=true:=by
 unfold leS at *
 rw[Bool.not_eq_true'] at *
 cases h:ltS c a with
 |false=>rfl
 |true=>
  by_cases e:a=b
  ·subst e;rw[h] at h2;cases h2
  ·have ab:ltS a b=true:=zcI (λz=>e z.symm) h1
   have:=zgn h ab
   rw[this] at h2;cases h2
theorem zpB(a b:Str):(leS a b||leS b a)=true:=by
 unfold leS
 cases h:ltS b a with
 |false=>rfl
 |true=>rw[zfA h];rfl
theorem zdm(l:List Str):(srt l).Perm l:=List.mergeSort_perm l leS
noncomputable def zat(t:List Str)(w m:Str):List Str:=t.filter (λx=>!decide (x=m))++(if w="put"then [m] else [])
theorem zmm{w m:Str}(nd:t.Nodup):(zat t w m).Nodup:=by
 unfold zat
 rw[List.nodup_append]
 refine⟨nd.filter _,?_,?_⟩
 ·split<;>simp
 ·intro a ha b hb e
  split at hb
  ·rw[C2.mp hb] at e
   have:=(O2.mp ha).2
   rw[e] at this
   simp at this
  ·cases hb
theorem zme{w m:Str}(h:∀x∈t,x∈O)(hm:m∈O):∀x∈zat t w m,x∈O:=by
 unfold zat
 refine List.forall_mem_append.mpr ⟨λx hx=>h x (O2.mp hx).1,λx hx=>?_⟩
 split at hx
 ·rw[C2.mp hx];exact hm
 ·cases hx
noncomputable def zfi(t:List Str)(w m:Str):List Str:=srt (zat t w m)
structure Mk0(O t:List Str):Prop where
 nd:t.Nodup
 mem:∀x∈t,x∈O
theorem Mk0.next{w m:Str}(h:Mk0 O t)(hm:m∈O):Mk0 O (zfi t w m) where
 nd:=(zdm _).nodup_iff.mpr (zmm h.nd)
 mem:=λx hx=>zme h.mem hm x ((zdm _).mem_iff.mp hx)
theorem Mk0.len(h:Mk0 O t)(hO:O.length<=14):t.length<=14:=V1 (zbR h.nd h.mem) hO
noncomputable def zE(ws:List Str)(to:Option Str):List D->List Str->Option (List Str)
 |[],t=>some t
 |r::rs,t=>if zeY ws t to (zhi r)=true then(match zo4 r with| .tup [.str w, .str m]=>zE ws to rs (zfi t w m)|_=>none)else zE ws to rs t
def zpQ(O:List Str)(rs:List D):Prop:=rs.length<=90/\∀r∈rs,∃cs x,r= .tup [.tup cs,x]/\(∀c∈cs,zC c=true)/\(x= .tup [.str "keep"]\/∃w m,x= .tup [.str w, .str m]/\(w="put"\/w="strike")/\m∈O)
theorem zmX(h:za6 d=true)(hi:zbN O d=true):∃rs,d= .tup rs/\zpQ O rs:=by
 cases d with
 |tup rs=>
  have h:(decide (rs.length<=90)&&rs.all zbd)=true:=h
  rw[W0] at h
  refine⟨rs,rfl,S0 h.1,λr hr=>?_⟩
  obtain⟨cs,x,rfl,h4,hc,hx⟩:=zhQ (F2.mp h.2 r hr)
  obtain⟨h1,h2⟩:=zmk (F2.mp hi _ hr)
  refine⟨cs,x,rfl,hc,?_⟩
  rcases zj8 hx with rfl|⟨w,y,rfl,hw,_⟩
  ·exact .inl rfl
  ·exact .inr ⟨w,y,rfl,hw,S0 h2⟩
 |_=>cases h
def zsC(H:Hp)(u:V):Option (List Str)->Prop
 |none=>u= .non
 |some t=>∃p,u= .ref p/\H p=some (.tup (t.map V.str))
noncomputable def zsz:Sp:=λvs H Q _=>∃(v:V) (x:Str) (g:Str) (hs:List Str) (ps:List (Str×Str)) (lks hds:List D) (j:Nat),vs=[v, .str x]/\Rep H v (zaq g hs ps lks hds)/\TownOk g hs ps lks hds/\hs[j]?=some x/\∀(vr:V) (d:D),hds[j]?=some d->Rep H vr d->Q vr H
theorem zm5(T:TownOk g hs ps lks hds)(h:x∈hs):∃(j:Nat) (d:D),hs[j]?=some x/\hds[j]?=some d/\d∈hds:=by
 obtain⟨j,hj,e⟩:=K2 h
 have hl:j<hds.length:=by rw[T.lh];exact hj
 exact⟨j,hds[j],by rw[F0 hj,e],F0 hl,List.getElem_mem hl⟩
noncomputable def neD(m:Str):D->Bool| .str z=>!decide (z=m)|_=>false
theorem zsg{m:Str}:((t.map D.str).filter (neD m)).map (λd=>d)=(t.filter λx=>!decide (x=m)).map D.str:=by
 rw[List.map_id',List.filter_map];rfl
section
open PySem.W
section
open PySem.SeqAt
open PySem.AutoSeq1 (wpAny_loadPart')
open PySem.MeetsSeq PySem.MeetsSeq2 PySem.MeetsSeq3
theorem zcP(l b:Addr)(n n2:Nat)(dd dd2:Option Addr)(sl sl2:Array (Option Value))(xs ys:List Value)(k:Nat)(res:Bool):
 Meets (Builtin.«tuple.__lt__» ⟨[.ref l, .ref b],[]⟩) (λA R s=>s.heap.get? l=some {cls:= .type "tuple",dict:=dd,data:= .seq xs.toArray n,slots:=sl}/\s.heap.get? b=some {cls:= .type "tuple",dict:=dd2,data:= .seq ys.toArray n2,slots:=sl2}/\
  (∀prog w i x y,i<k->xs[i]?=some x->ys[i]?=some y->∀(E:Value->Shared->Prop) (Q:Bool->Shared->Prop),Q true s->wpAny `V3 A.in1 (eqBool x y) Q E s)/\k<=xs.length/\k<=ys.length/\
  ((k=min xs.length ys.length/\res=decide (xs.length<ys.length))\/∃x y,xs[k]?=some x/\ys[k]?=some y/\(∀prog w (E:Value->Shared->Prop) (Q:Bool->Shared->Prop),Q false s->wpAny `V3 A.in1 (eqBool x y) Q E s)/\∀prog w (E:Value->Shared->Prop) (Q:Value->Shared->Prop),Q (.bool res) s->wpAny `V3 A.in1 (richCompare .Lt x y) Q E s)/\
  R (.ok (.ret (.bool res))) s):=
 .of_wp λprog w A R s h=>by
  obtain⟨hp,g,d,tk,os⟩:=s
  obtain⟨hl,hb,he,k1,k2,hk,h⟩:=h
  have f2:=AutoSeq1.sub_tuple_tuple
  wp_walk using wpAny_loadPart' hl,wpAny_loadPart' hb,wpAny_forIn_list _ (λrest b s'=>b.1=none/\s'=⟨hp,g,d,tk,os⟩/\∃i,i<=k/\rest=(xs.zip ys).drop i) _
  case turn=>
   rintro⟨p,q⟩ rest b s' ⟨hb',rfl,i,hi,hr⟩
   have hx:(xs.zip ys)[i]?=some (p,q):=by
    have:=Z2 (λl=>l[0]?) hr
    simpa[List.getElem?_drop] using this.symm
   rw[List.getElem?_zip_eq_some] at hx
   have hr2:rest=(xs.zip ys).drop (i+1):=by
    have:=Z2 List.tail hr
    simpa using this
   rcases Y1 i k with z|z
   ·refine C0 (he prog w i p q z hx.1 hx.2 _ _ ?_)
    wp_walk
    exact⟨rfl,rfl,i+1,z,hr2⟩
   ·have ei:i=k:=()
    subst ei
    rcases hk with⟨hm,_⟩|⟨x,y,ex,ey,f1,f3⟩
    ·have h1:i<xs.length:=by
      rcases Y1 i xs.length with y|y
      ·exact y
      ·rw[Q0 y] at hx;cases hx.1
     have h2:i<ys.length:=by
      rcases Y1 i ys.length with y|y
      ·exact y
      ·rw[Q0 y] at hx;cases hx.2
     lia
    ·rw[hx.1] at ex
     rw[hx.2] at ey
     cases ex
     cases ey
     refine C0 (f1 prog w _ _ ?_)
     have c1:=f3 prog w
     wp_walk using c1
     exact⟨_,rfl,h⟩
  case fin=>
   rintro⟨b1,b2⟩ s' ⟨hb',rfl,i,hi,hr⟩
   simp only at hb'
   subst hb'
   have hlen:(xs.zip ys).length<=i:=by
    have:=Z2 List.length hr
    rw[List.length_nil,List.length_drop] at this
    lia
   rw[List.length_zip] at hlen
   rcases hk with⟨hm,hres⟩|⟨x,y,ex,ey,_⟩
   ·wp_walk
    rw[hres] at h
    exact⟨_,rfl,h⟩
   ·have h1:k<xs.length:=by
     rcases Y1 k xs.length with y|y
     ·exact y
     ·rw[Q0 y] at ex;cases ex
    have h2:k<ys.length:=by
     rcases Y1 k ys.length with z|z
     ·exact z
     ·rw[Q0 z] at ey;cases ey
    lia
  case h=>
   exact⟨rfl,rfl,0,W1 _,`Z3⟩
end
noncomputable def ltL:List Str->List Str->Bool
 |[],[]=>false
 |[],_::_=>true
 |_::_,[]=>false
 |x::xs,y::ys=>if x=y then ltL xs ys else ltS x y
theorem zoY:∀(ps qs:List Str),∃k,k<=ps.length/\k<=qs.length/\(∀i<k,ps[i]?=qs[i]?)/\((k=min ps.length qs.length/\ltL ps qs=decide (ps.length<qs.length))\/∃x y,ps[k]?=some x/\qs[k]?=some y/\x≠y/\ltL ps qs=ltS x y)
 |[],[]=>⟨0,P0 _,P0 _,λi z=>absurd z (Nat.not_lt_zero _), .inl ⟨rfl,rfl⟩⟩
 |[],q::qs=>⟨0,P0 _,W1 _,λi z=>absurd z (Nat.not_lt_zero _), .inl ⟨`Z3,by rw[ltL];simp⟩⟩
 |p::ps,[]=>⟨0,W1 _,P0 _,λi z=>absurd z (Nat.not_lt_zero _), .inl ⟨`Z3,by rw[ltL];simp⟩⟩
 |p::ps,q::qs=>by
  by_cases e:p=q
  ·subst e
   obtain⟨k,k1,k2,he,hk⟩:=zoY ps qs
   refine⟨k+1,by simp;lia,by simp;lia,λi hi=>?_,?_⟩
   ·cases i with
    |zero=>rfl
    |succ i=>exact he i ()
   ·rw[ltL,R0 rfl]
    rcases hk with⟨h1,h2⟩|⟨x,y,h1,h2,h3,h4⟩
    ·exact .inl ⟨by simp;lia,by rw[h2];simp⟩
    ·exact .inr ⟨x,y,by simpa using h1,by simpa using h2,h3,h4⟩
  ·exact ⟨0,W1 _,W1 _,λi z=>absurd z (Nat.not_lt_zero _), .inr ⟨p,q,rfl,rfl,e,by rw[ltL,N0 e]⟩⟩
theorem zej{ps:List Str}(r:Vals (ps.map V.str) its){v:Value}(h:its[i]?=some v):∃p t,ps[i]?=some p/\v= .str p t:=by
 have hi:i<its.length:=by
  rcases Y1 i its.length with z|z
  ·exact z
  ·rw[Q0 z] at h;cases h
 have hp:i<ps.length:=by have:=r.length;rw[D0] at this;lia
 obtain⟨u,hu,ru⟩:=r.get (i:=i) (x:= .str ps[i]) (by rw[U0,F0 hp];rfl)
 rw[hu] at h
 cases h
 obtain⟨t,rfl⟩:=ru
 exact⟨ps[i],t,F0 hp,rfl⟩
theorem zi0{ps:List Str}(r:Vals (ps.map V.str) its):its.length=ps.length:=by have:=r.length;rw[D0] at this;exact this.symm
theorem zn9{b:Addr}{ps qs:List Str}{its2:List Value}(ra:Vals (ps.map V.str) its)(rb:Vals (qs.map V.str) its2)(ha:IsTup s.heap a its.toArray)(hb:IsTup s.heap b its2.toArray)(hu:A.units<cLine)
 (q:Q (.bool (ltL ps qs)) s):wpAny `V3 A (richCompare .Lt (.ref a) (.ref b)) Q E s:=by
 obtain⟨⟨c1,d1,e1,f1⟩,ho,hc,n,hd⟩:=id ha
 obtain⟨⟨c2,d2,e2,f2⟩,ho2,hc2,n2,hd2⟩:=id hb
 simp only at hc hd hc2 hd2
 subst hc hd hc2 hd2
 obtain⟨k,k1,k2,he,hk⟩:=zoY ps qs
 have l1:=zi0 ra
 have l2:=zi0 rb
 refine richCompare_meets_room (op:= .Lt) ⟨_,ho,rfl⟩ ⟨_,ho2,rfl⟩ F.slot_tuple_lt F.entry_tuple_lt (F.args_tuple_lt_2 _ _) (zcP a b n n2 d1 d2 f1 f2 its its2 k (ltL ps qs)) ⟨ho,ho2,?_,(),(),?_,?_⟩ hu
 ·intro prog w i x y hi hx hy E Q hq
  obtain⟨p,t,hp,rfl⟩:=zej ra hx
  obtain⟨q',t',hp',rfl⟩:=zej rb hy
  have e:p=q':=by
   have:=he i hi
   rw[hp,hp'] at this;exact U1 this
  refine wpAny_eqBool_str ?_
  rw[Y0 e];exact hq
 ·rcases hk with⟨h1,h2⟩|⟨x,y,h1,h2,h3,h4⟩
  ·exact .inl ⟨(),by rw[h2,l1,l2]⟩
  ·have hx:k<its.length:=by
    rw[l1]
    rcases Y1 k ps.length with z|z
    ·exact z
    ·rw[Q0 z] at h1;cases h1
   have hy:k<its2.length:=by
    rw[l2]
    rcases Y1 k qs.length with z|z
    ·exact z
    ·rw[Q0 z] at h2;cases h2
   obtain⟨p,t,hp,e1⟩:=zej ra (F0 hx)
   obtain⟨q',t',hp',e2⟩:=zej rb (F0 hy)
   rw[h1] at hp
   rw[h2] at hp'
   cases hp
   cases hp'
   refine .inr ⟨_,_,F0 hx,F0 hy,λprog w E Q hq=>?_,λprog w E Q hq=>?_⟩
   ·rw[e1,e2]
    refine wpAny_eqBool_str ?_
    rw[E1 h3];exact hq
   ·rw[e1,e2]
    rw[h4] at hq
    exact(PyProof.Rows.lt_str hq:wpAny `V3 A.in1 (compareOp .Lt (.str x t) (.str y t')) Q E s)
 ·exact ⟨(λx=>nomatch x),q⟩
noncomputable def ltK(k1 k2:Int×Int×List Str):Bool:=if k1.1=k2.1 then(if k1.2.1=k2.2.1 then ltL k1.2.2 k2.2.2 else decide (k1.2.1<k2.2.1))else decide (k1.1<k2.1)
def zsR(H:Hp)(x:V)(k:Int×Int×List Str):Prop:=∃a p,x= .ref a/\H a=some (.tup [.int k.1, .int k.2.1, .ref p])/\H p=some (.tup (k.2.2.map V.str))/\∀y∈k.2.2,PyData.strOk y=true
theorem zhZ:∀(ps:List Str),ltL ps ps=false
 |[]=>rfl
 |p::ps=>by rw[ltL,R0 rfl];exact zhZ ps
theorem zrl{x y z:V}{us:List Value}(r:Vals [x,y,z] us):∃a b c,us=[a,b,c]/\RelV x a/\RelV y b/\RelV z c:=by
 cases r with
 |cons h1 r=>cases r with
  |cons h2 r=>cases r with
   |cons h3 r=>
    cases r
    exact⟨_,_,_,rfl,h1,h2,h3⟩
end
noncomputable def zqY:Sp:=λvs H Q _=>∃(v:V) (pw pm:Addr) (x:Str) (ws ms:List Str) (g:Str) (hs:List Str) (ps:List (Str×Str)) (lks hds:List D) (j:Nat) (rs:List D) (i:Int),vs=[v, .ref pw, .ref pm]/\Rep H v (zaq g hs ps lks hds)/\TownOk g hs ps lks hds/\hs[j]?=some x/\lks[j]?=some (.tup rs)/\H pw=some (.tup ((x::ws).map V.str))/\H pm=some (.tup (ms.map V.str))/\(∀y∈x::ws,zj y=true)/\(∀y∈ms,zj y=true)/\ws.length<=90/\ms.length<=100/\zH (x::ws) ms rs= .int i/\∀(u:V) (H':Hp),zsR H' u (-i,((x::ws).length:Int),x::ws)->Same H H'->Q u H'
section
variable{e st:Expr}{ts:TE}{p1 p2:Pos}{tk:Tok}
end
section
variable{es:List D}
end
noncomputable def Itd(d:Addr)(o:Obj)(u:HO)(ks:List V):It:=⟨λi H=>i<ks.length/\H d=some (.frz o u),λi H x H'=>H'=H/\ks[i]?=some x,λi H=>ks.length<=i/\H d=some (.frz o u)⟩
theorem zs3{d:Addr}{o:Obj}{u:HO}{ks:List V}:Wk (Itd d o u ks) ks.length (λi x=>ks[i]?=some x) (λH=>H d=some (.frz o u)) where
 stop:=λi H h l=>⟨l,h⟩
 go:=λi H h l=>⟨l,h⟩
 yld:=λi H x H' h l y=>y
section
variable{e i o:Expr}{td ty:TE}{p1 p2:Pos}{tk:Tok}
theorem zkI(hu:X.A.units+1<cLine)(ho:QE X o td)(hi:QE X i ty)(hs:autoParam (zrp i) x6):QE X (.Subscript o i pos) (zq8 td ty):=⟨zpd hu ho.o hi.o hs⟩
end
theorem zn2:∀{ps qs rs:List Str},ltL ps qs=true->ltL qs rs=true->ltL ps rs=true
 |[],[],_,h,_=>by rw[ltL] at h;cases h
 |_::_,[],_,h,_=>by rw[ltL] at h;cases h
 |_,_::_,[],_,h=>by rw[ltL] at h;cases h
 |[],_::_,_::_,_,_=>by rw[ltL]
 |p::ps,q::qs,r::rs,h1,h2=>by
  rw[ltL] at h1 h2⊢
  by_cases z:p=q
  ·subst z
   rw[R0 rfl] at h1
   by_cases y:p=r
   ·subst y
    rw[R0 rfl] at h2⊢
    exact zn2 h1 h2
   ·rw[N0 y] at h2⊢
    exact h2
  ·rw[N0 z] at h1
   by_cases y:q=r
   ·subst y
    rw[N0 z];exact h1
   ·rw[N0 y] at h2
    have h3:=zgn h1 h2
    rw[N0 (zkM h3)]
    exact h3
theorem zqy(k:Int×Int×List Str):ltK k k=false:=by
 unfold ltK
 rw[R0 rfl,R0 rfl];exact zhZ _
theorem zol{k1 k2 k3:Int×Int×List Str}(h1:ltK k1 k2=true)(h2:ltK k2 k3=true):ltK k1 k3=true:=by
 unfold ltK at *
 by_cases z:k1.1=k2.1
 ·rw[R0 z] at h1
  by_cases z2:k2.1=k3.1
  ·rw[R0 z2] at h2
   rw[R0 (z.trans z2)]
   by_cases y:k1.2.1=k2.2.1
   ·rw[R0 y] at h1
    by_cases y2:k2.2.1=k3.2.1
    ·rw[R0 y2] at h2
     rw[R0 (y.trans y2)]
     exact zn2 h1 h2
    ·rw[N0 y2] at h2
     rw[N0 (by rw[y];exact y2)]
     have:=S0 h2
     exact Y0 ()
   ·rw[N0 y] at h1
    have h1:=S0 h1
    by_cases y2:k2.2.1=k3.2.1
    ·rw[N0 ()]
     exact Y0 ()
    ·rw[N0 y2] at h2
     have h2:=S0 h2
     rw[N0 ()]
     exact Y0 ()
  ·rw[N0 z2] at h2
   have h2:=S0 h2
   rw[N0 ()]
   exact Y0 ()
 ·rw[N0 z] at h1
  have h1:=S0 h1
  by_cases z2:k2.1=k3.1
  ·rw[N0 ()]
   exact Y0 ()
  ·rw[N0 z2] at h2
   have h2:=S0 h2
   rw[N0 ()]
   exact Y0 ()
theorem zpC{k1 k2:Int×Int×List Str}(h:ltK k1 k2=true):ltK k2 k1=false:=by
 cases e:ltK k2 k1 with
 |false=>rfl
 |true=>have:=zol h e;rw[zqy] at this;cases this
noncomputable abbrev WM:=List Str×List Str
noncomputable def wI(rs:List D)(e:WM):Int:=match zH e.1 e.2 rs with| .int a=>a|_=>0
noncomputable def kE(rs:List D)(e:WM):Int×Int×List Str:=(-(wI rs e),(e.1.length:Int),e.1)
mutual
theorem zpE:∀d:D,(pyD d).eqv (pyD d)=true
 | .non=>by rw[pyD,PyData.eqv]
 | .bl b=>by rw[pyD,PyData.eqv];simp
 | .int i=>by rw[pyD,PyData.eqv];simp
 | .str x=>by rw[pyD,PyData.eqv];simp
 | .tup ds=>by rw[pyD,PyData.eqv];exact zla ds
 | .oth=>by rw[pyD,PyData.eqv]
theorem zla:∀ds:List D,PyData.eqvAll (pyL ds) (pyL ds)=true
 |[]=>by rw[pyL,PyData.eqvAll]
 |d::ds=>by rw[pyL,PyData.eqvAll,zpE d,zla ds];rfl
end
theorem zc7{n:Nat}:∀{xs:List PyData},(∀x∈xs,x.depth<=n)->PyData.depthAll xs<=n
 |[],_=>by rw[PyData.depthAll];exact W1 _
 |x::xs,h=>by
  rw[PyData.depthAll]
  have h1:=h x K1
  have h2:=zc7 (n:=n) λy hy=>h y (b0 _ hy)
  lia
def SqH(t:Bool)(h:Heap)(a:Addr)(items:Array Value):Prop:=if t then h.IsTuple a items else h.IsList a items
def ItH(t:Bool)(h:Heap)(it a:Addr)(i:Nat):Prop:=if t then h.IsTupleIter it a i else h.IsListIter it a i
structure ZpA(z TI TO i1 i2:Addr):Prop where
 TIz:TI≠z
 TOz:TO≠z
 i1z:i1≠z
 i2z:i2≠z
 TITO:TI≠TO
 TIi1:TI≠i1
 TIi2:TI≠i2
 TOi1:TO≠i1
 TOi2:TO≠i2
 i12:i1≠i2
section
variable{R:Result->Shared->Prop}{it:Value}
end
section
variable{src:List (Option Nat)}{g:TG}
end
def zsZ(v:V)(y:Str):Prop:=v= .str y\/∃i:Int,v= .int i/\y=(toString i:String)/\i.natAbs.log2<1920
section
variable{e:Expr}{ts:List TE}
structure QP1(X:Cx)(e:Expr)(te:TE):Prop where
 o:∀(pins:List (Addr×Obj)) (s:Shared) (σ:St) (H:Hp) (Q:Str->Hp->Prop),Inv X pins σ H s->(te σ H λv H1=>∃y,zsZ v y/\y.length<=sizeLine/\Q y H1)->
  wpAny (model X.prog X.w) X.A (eval e X.env) (λu s1=>∃y t H1,u= .str y t/\Inv X pins σ H1 s1/\Q y H1) X.xe s
inductive QJ(X:Cx):List Expr->List TE->Prop
 |nil:QJ X [] []
 |cons {e:Expr} {t:TE} {es:List Expr} {ts:List TE} (h:QP1 X e t) (r:QJ X es ts):QJ X (e::es) (t::ts)
end
theorem zfC(x y:Str):(x ++y).length=x.length+y.length:=Array.size_append
noncomputable def zs5(i:Int):Str:=(toString i:String)
theorem zqD:∀n∈List.range 1999,(zs5 ((n:Int) -999)).length<=4:=`Y3
theorem zo5{i:Int}(h1: -999<=i)(h2:i<=999):(zs5 i).length<=4:=by
 have:=zqD (i+999).toNat (List.mem_range.mpr ())
 rwa[show(((i+999).toNat:Nat):Int) -999=i by lia] at this
theorem zmP{i:Int}(h1: -999<=i)(h2:i<=999):i.natAbs.log2<1920:=by
 have h:i.natAbs<1000:=()
 rcases Nat.eq_zero_or_pos i.natAbs with z|z
 ·rw[z];decide
 ·exact Nat.lt_trans ((Nat.log2_lt ()).mpr (show i.natAbs<2^10 by lia)) ⋯
theorem zs1{sep:Str}{r:List Str}:Str.join sep (x::y::r)=x ++sep ++Str.join sep (y::r):=rfl
theorem zjo{sep:Str}{c m:Nat}(hs:sep.length<=m):∀{xs:List Str},(∀x∈xs,x.length<=c)->(Str.join sep xs).length<=xs.length*(c+m)
 |[],_=>by show(Str.empty).length<=_;exact W1 _
 |[x],h=>by show x.length<=1*(c+m);have:=h x `Z3;lia
 |x::y::r,h=>by
  rw[zs1,zfC,zfC]
  have h1:=h x `Z3
  have h2:=zjo hs (xs:=y::r) λz hz=>h z (b0 _ hz)
  rw[J1,Nat.add_mul,Nat.one_mul]
  lia
section
variable{K:Type}[DecidableEq K]{knd:KeyKind prog w K}
structure DzAt(h:Heap)(knd:KeyKind prog w K)(t1 t2:Bool)(z TI i1 i2 l1 l2 d:Addr)(xs ys:Array Value)(kvs:List (K×Value))(i:Nat):Prop where
 TI:IsPair h TI (.ref i1) (.ref i2)
 p1:ItH t1 h i1 l1 i
 p2:ItH t2 h i2 l2 i
 q1:SqH t1 h l1 xs
 q2:SqH t2 h l2 ys
 dd:h.DictOf knd d kvs
structure DzD(z TI TO0 i1 i2 l1 l2 d:Addr):Prop extends ZipApart z TI TO0 i1 i2 l1 l2 where
 dz:d≠z
 dTI:d≠TI
 di1:d≠i1
 di2:d≠i2
 dl1:d≠l1
 dl2:d≠l2
 TIl1:True
end
def Shw(c k:Nat)(d:D):Prop:=okD d=true/\(pyD d).showable=true/\(pyD d).depth<=k/\(pyD d).shown.length<=c
theorem Shw.mono{k k':Nat}(h:Shw c k d)(h1:c<=c')(h2:k<=k'):Shw c' k' d:=⟨h.1,h.2.1,V1 h.2.2.1 h2,V1 h.2.2.2 h1⟩
theorem zk6(h:PyData.strOk x=true)(hl:x.length<=8):Shw 82 1 (.str x):=by
 refine⟨by rw[okD];exact h,by rw[pyD,PyData.showable],by rw[pyD,PyData.depth];lia,?_⟩
 rw[pyD,PyData.shown]
 have hc:∀c∈x.cps.toList,c<16^8:=λc hc=>by
  unfold PyData.strOk at h
  rw[Array.all_eq_true'] at h
  have:=S0 (h c (Array.mem_toList_iff.mp hc))
  lia
 have:=StrLaws.reprText_len x hc
 lia
theorem zlj{i:Int}(h1: -999<=i)(h2:i<=999):Shw 82 1 (.int i):=by
 refine⟨by rw[okD],by rw[pyD,PyData.showable];exact Y0 (zmP h1 h2),by rw[pyD,PyData.depth];lia,?_⟩
 rw[pyD,PyData.shown]
 exact V1 (zo5 h1 h2) ⋯
theorem zqs:Shw 82 1 .non:=by
 refine⟨by rw[okD],by rw[pyD,PyData.showable],by rw[pyD,PyData.depth];lia,?_⟩
 rw[pyD,PyData.shown];decide
theorem zdr:∀{xs:List PyData},(∀x∈xs,x.showable=true)->PyData.showableAll xs=true
 |[],_=>by rw[PyData.showableAll]
 |x::xs,h=>by rw[PyData.showableAll,h x K1,zdr λy hy=>h y (b0 _ hy)];rfl
theorem zeG:∀{xs:List PyData},PyData.shownAll xs=xs.map PyData.shown
 |[]=>by rw[PyData.shownAll];rfl
 |x::xs=>by rw[PyData.shownAll,Z1,zeG]
theorem zbb{k:Nat}(m:Nat)(hm:ds.length<=m)(h:∀d∈ds,Shw c k d):Shw (m*(c+2)+3) (k+1) (.tup ds):=by
 refine⟨by rw[okD];exact zoD λd hd=>(h d hd).1,?_,?_,?_⟩
 ·rw[pyD,PyData.showable,zfI]
  exact zdr λx hx=>by obtain⟨d,hd,rfl⟩:=y1.mp hx;exact(h d hd).2.1
 ·rw[pyD,PyData.depth,zfI]
  have:=zc7 (n:=k) (xs:=ds.map pyD) λx hx=>by obtain⟨d,hd,rfl⟩:=y1.mp hx;exact(h d hd).2.2.1
  lia
 ·rw[pyD,PyData.shown,zfI,zeG,List.map_map]
  have hc:∀x∈ds.map (PyData.shown∘pyD),x.length<=c:=λx hx=>by obtain⟨d,hd,rfl⟩:=y1.mp hx;exact(h d hd).2.2.2
  have jl:=zjo (sep:=", ") (m:=2) ⋯ hc
  rw[D0] at jl
  unfold tupleText
  rw[zfC,zfC]
  have l1:("(":Str).length=1:=rfl
  have l2:(Str.ofString (if(ds.map (PyData.shown∘pyD)).length==1 then",)"else ")")).length<=2:=by split<;>decide
  have:ds.length*(c+2)<=m*(c+2):=Nat.mul_le_mul_right _ hm
  rw[l1]
  have l2':(Str.ofString (if(ds.map (PyData.shown∘pyD)).length==1 then",)"else ")":String)).length<=2:=l2
  lia
theorem zfW(h:zj x=true):Shw 82 1 (.str x):=zk6 (zaF h) (by
 unfold zj at h
 simp only[W0,decide_eq_true_eq] at h
 lia)
theorem zcT{a b:D}{k:Nat}(ha:Shw c k a)(hb:Shw c k b):Shw (2*(c+2)+3) (k+1) (.tup [a,b]):=zbb 2 (P0 2) λd hd=>by
 simp only[X0,E2,or_false] at hd
 rcases hd with rfl|rfl
 ·exact ha
 ·exact hb
theorem zdy{w:Str}(h:w∈(["by","from","to","mark","long","not","keep","put","strike"]:List Str)):Shw 82 1 (.str w):=by
 simp only[X0,E2,or_false] at h
 rcases h with rfl|rfl|rfl|rfl|rfl|rfl|rfl|rfl|rfl<;>exact zk6 `Y3 ⋯
theorem zhm(h:zD d=true):Shw 171 2 d:=by
 obtain⟨w,e,rfl⟩:=zb6 d h
 rcases zaG h with⟨rfl,i,rfl,i0,i9⟩|⟨hn,y,rfl,hy⟩
 ·exact zcT (zdy ⋯) (zlj () ())
 ·exact zcT (zdy (by rcases zeA hn with rfl|rfl|rfl|rfl<;>decide)) (zfW hy)
theorem zm7(h:zC d=true):Shw 349 3 d:=by
 obtain⟨w,e,rfl⟩:=zhC d h
 rw[zeO] at h
 by_cases z:w="not"
 ·subst z
  rw[R0 rfl] at h
  exact zcT ((zdy ⋯).mono ⋯ ⋯) (zhm h)
 ·rw[N0 z] at h
  exact(zhm h).mono ⋯ ⋯
theorem zg9(hl:cs.length<=4)(h:∀c∈cs,zC c=true):Shw 1407 4 (.tup cs):=zbb 4 hl λc hc=>zm7 (h c hc)
theorem zmC(h:zbl d=true):Shw 82 1 d:=by
 cases d with
 |non=>exact zqs
 |int i=>
  have h:(decide ((-999:Int)<=i)&&decide (i<=999))=true:=h
  rw[W0] at h
  exact zlj (S0 h.1) (S0 h.2)
 |_=>cases h
theorem zqc(h:zbT d=true):Shw 171 2 d:=by
 rcases zj8 h with rfl|⟨w,y,rfl,hw,hy⟩
 ·exact (zbb (ds:=[.str "keep"]) (c:=82) (k:=1) 1 (P0 1) λd hd=>by rw[C2.mp hd];exact zdy ⋯).mono ⋯ ⋯
 ·exact zcT (zdy (by rcases hw with rfl|rfl<;>decide)) (zfW hy)
theorem zi7(h:zbj d=true):Shw 254073 6 d:=by
 cases d with
 |tup rs=>
  have h:(decide (rs.length<=90)&&rs.all zI)=true:=h
  rw[W0] at h
  refine zbb (c:=2821) (k:=5) 90 (S0 h.1) λr hr=>?_
  have hk:=F2.mp h.2 r hr
  unfold zI at hk
  obtain⟨c,x,rfl,hk⟩:=zku (f:=λc x=>zan c&&zbl x&&!zeq c) hk
  rw[W0,W0] at hk
  obtain⟨cs,rfl,h4,hc⟩:=zgd hk.1.1
  exact zcT (zg9 h4 hc) ((zmC hk.1.2).mono ⋯ ⋯)
 |_=>cases h
theorem zmV(h:za6 d=true):Shw 254073 6 d:=by
 cases d with
 |tup rs=>
  have h:(decide (rs.length<=90)&&rs.all zbd)=true:=h
  rw[W0] at h
  refine zbb (c:=2821) (k:=5) 90 (S0 h.1) λr hr=>?_
  obtain⟨cs,x,rfl,h4,hc,hx⟩:=zhQ (F2.mp h.2 r hr)
  exact zcT (zg9 h4 hc) ((zqc hx).mono ⋯ ⋯)
 |_=>cases h
theorem zoB(T:TownOk g hs ps lks hds)(hp:ps.length<=1000):Shw 12703778 8 (zaq g hs ps lks hds):=by
 have hn:∀x∈hs,Shw 82 1 (.str x):=λx hx=>zfW (T.names x hx)
 refine zbb (c:=2540753) (k:=7) 5 (P0 5) λd hd=>?_
 simp only[X0,E2,or_false] at hd
 rcases hd with rfl|rfl|rfl|rfl|rfl
 ·exact (hn g T.goal).mono ⋯ ⋯
 ·exact (zbb 10 (by rw[D0];exact T.ten) λd hd=>by obtain⟨x,hx,rfl⟩:=y1.mp hd;exact hn x hx).mono ⋯ ⋯
 ·exact (zbb 1000 (by rw[D0];exact hp) λd hd=>by
   obtain⟨p,hp,rfl⟩:=y1.mp hd
   obtain⟨t1,t2,_⟩:=T.ties p hp
   exact zcT (hn _ t1) (hn _ t2)).mono ⋯ ⋯
 ·exact zbb 10 (by rw[T.ll];exact T.ten) λd hd=>zi7 (T.likes d hd)
 ·exact zbb 10 (by rw[T.lh];exact T.ten) λd hd=>zmV (T.hands d hd)
section
open PySem.W
section
variable{N:Nat}{lt:Nat->Nat->Bool}
end
theorem zjq:∀{a b:List Str},a≠b->ltL a b=false->ltL b a=true
 |[],[],h,_=>absurd rfl h
 |[],_::_,_,e=>by cases e
 |_::_,[],_,_=>rfl
 |x::xs,y::ys,h,e=>by
  rw[ltL] at e⊢
  by_cases z:x=y
  ·rw[R0 z] at e;rw[R0 z.symm];exact zjq (λq=>h (by rw[z,q])) e
  ·rw[N0 z] at e;rw[N0 (Ne.symm z)];exact zcI z e
end
section
variable{o:Expr}{to:TE}{T id:String}{r:V->List V->Hp->VK->Prop}
end
noncomputable def zqj:List Str->Bool
 |[a,b,w]=>zj a&&zj b&&(if w="equal"then ltS a b else decide (w="over")&&!decide (a=b))
 |_=>false
noncomputable def zkk(r:List Str):List Str:=srt (r.take 2)
structure KinOk(rs:List (List Str)):Prop where
 row:∀r∈rs,zqj r=true
 rise:rs.Pairwise (λa b=>ltL a b=true)
 ties:(rs.map zkk).Nodup
noncomputable def pr(a b:Str):List Str:=srt [a,b]
noncomputable abbrev at_(xs:List Str)(i:Nat):Str:=xs.getD i ""
structure KD62(xs:List Str)(ps:List (Nat×Nat))(k:Nat)(rs:List (List Str)):Prop where
 row:∀r∈rs,zqj r=true
 nd:(rs.map zkk).Nodup
 few:rs.length<=k
 old:∀r∈rs,∃q∈ps.take k,q.1<q.2/\zkk r=pr (at_ xs q.1) (at_ xs q.2)
section
variable{P P':D->Prop}{n:Nat}
end
noncomputable def ztm:D->List D| .tup rs=>rs|_=> []
noncomputable def zp:List Str->List D->Str->List D
 |h::hs,d::ds,x=>if h=x then ztm d else zp hs ds x
 |_,_,_=> []
theorem zfH{x:Str}{rs:List D}:∀{hs:List Str} {ds:List D} {j:Nat},hs.Nodup->hs[j]?=some x->ds[j]?=some (.tup rs)->zp hs ds x=rs
 |[],_,j,_,h1,_=>by simp at h1
 |h::hs,[],j,_,_,h2=>by simp at h2
 |h::hs,d::ds,0,_,h1,h2=>by
  simp at h1 h2
  subst h1 h2
  rw[zp,R0 rfl];rfl
 |h::hs,d::ds,j+1,nd,h1,h2=>by
  simp only[List.getElem?_cons_succ] at h1 h2
  rw[U2] at nd
  have hne:¬h=x:=λe=>nd.1 (e▸D1 h1)
  rw[zp,N0 hne]
  exact zfH nd.2 h1 h2
noncomputable def zb2:D->Bool| .non=>true|_=>false
theorem zpM{u:V}(r:Rep H u d):decide (u=V.non)=zb2 d:=by
 cases r<;>first|rfl|exact E1 (λz=>by cases z)
structure Mr(O t:List Str):Prop extends Mk0 O t where
 rise:t.Pairwise (λa b=>ltS a b=true)
section
variable{P:List α->Prop}
theorem of1(h:∀a,P [a]):∀us:List α,us.length=1->P us
 |[a],_=>h a
theorem of2(h:∀a b,P [a,b]):∀us:List α,us.length=2->P us
 |[a,b],_=>h a b
theorem of3(h:∀a b c,P [a,b,c]):∀us:List α,us.length=3->P us
 |[a,b,c],_=>h a b c
theorem of4(h:∀a b c d,P [a,b,c,d]):∀us:List α,us.length=4->P us
 |[a,b,c,d],_=>h a b c d
end
section
variable{R:Result->Shared->Prop}{n:Nat}{P:Nat->Value->Prop}{St:Nat->Heap->Prop}
end
section
open PySem.W PyProof.V
end
section
variable{R:Result->Shared->Prop}{n:Nat}{P:Nat->Value->Prop}{St:Nat->Heap->Prop}
end
section
open PySem.W PyProof.V
end
section
variable{R:Result->Shared->Prop}{it:Value}{d:Addr}
end
section
variable{src:List (Option Nat)}{g:TG}{tk:TE}{k:Nat}
end
theorem Inv.frzK{d:Addr}{o:Obj}(I:Inv X pins σ H s)(e:H d=some (.dK kvs))(g:s.heap.get? d=some o):Inv X pins σ (upd H d (.frz o (.dK kvs))) s where
 ok:=I.ok
 os:=I.os
 bare:=I.bare
 base:={
  keep:=I.base.keep
  slot:=I.base.slot
  free:=λb o h1 h2 h3=>by
   have:=I.base.free b o h1 h2 h3
   rw[zd λz=>by rw[z,e] at this;cases this];exact this
  there:=I.base.there
  tups:=λb xs h=>by
   have:=I.base.tups b xs h
   rw[zd λz=>by rw[z,e] at this;cases this];exact this
  frzs:=λb o u h=>by
   have:=I.base.frzs b o u h
   rw[zd λz=>by rw[z,e] at this;cases this];exact this
  tbls:=λb ps h=>by
   obtain⟨more,this⟩:=I.base.tbls b ps h
   exact⟨more,by rw[zd λz=>by rw[z,e] at this;cases this];exact this⟩}
 loc:=I.loc
 cell:=I.cell
 free:=by
  have:=I.free
  rw[zd λz=>by rw[z,e] at this;cases this];exact this
 freeC:=λx c h=>by
  have:=I.freeC x c h
  rw[zd λz=>by rw[z,e] at this;cases this];exact this
 pin:=λp hp=>by
  obtain⟨h1,h2,h3⟩:=I.pin p hp
  exact⟨h1,by rw[zd λz=>by rw[z,e] at h2;cases h2];exact h2,h3⟩
 hok:=λa o' h=>by
  have st:∀{u:HO},ObjOk X.prog X.w H s.heap a u->ObjOk X.prog X.w (upd H d (.frz o (.dK kvs))) s.heap a u:=λx=>x.stay (λ_ _ _ q=>q) (λb q=>by rw[zd λz=>by rw[z,e] at q;cases q];exact q) (λb xs q=>by rw[zd λz=>by rw[z,e] at q;cases q];exact q)
  by_cases z:a=d
  ·subst z
   rw[zb] at h
   cases h
   exact⟨g,st (I.hok a _ e)⟩
  ·rw[zd z] at h
   exact st (I.hok a _ h)
 len:=I.len
structure RingG(G:Str->List Str)(xs:List Str):Prop where
 two:2<=xs.length
 ends:xs[0]?=xs[xs.length -1]?
 nd:(xs.drop 1).Nodup
 nxt:∀i a b,xs[i]?=some a->xs[i+1]?=some b->a∈G b
structure Led(H:Hp)(kvs:List (Key×V))(ks:List Str)(G:Str->List Str):Prop where
 keys:kvs.map (·.1)=ks.map Sum.inr
 nd:ks.Nodup
 at_:∀x∈ks,∃l,zaA kvs (Sum.inr x)=some (.ref l)/\H l=some (.lst ((G x).map V.str))
 sub:∀x∈ks,∀y∈G x,y∈ks
 short:∀x∈ks,x.length<=1000
 few:ks.length<=60/\∀x∈ks,(G x).length<=60
noncomputable def tol(tk:List (Key×V))(x:Str):Bool:=(zaA tk (Sum.inr x)).isSome
structure Tld63(tk:List (Key×V))(ks:List Str)(G:Str->List Str):Prop where
 opn:∀x∈ks,tol tk x=false->∃y∈G x,tol tk y=false
 sure:∀W:Str->Prop,(∀b,W b->∃a∈G b,W a)->∀b,W b->tol tk b=false
structure Peel(rs R:List (List Str)):Prop where
 sub:∀r∈R,r∈rs/\at_ r 2=("over":Str)
 out:∀W:Str->Prop,(∀b,W b->∃a,[a,b,"over"]∈rs/\W a)->∀a b,W a->W b->[a,b,"over"]∈rs->[a,b,"over"]∈R
structure LR(ks:List Str)(G:Str->List Str)(tk:List (Key×V))(ws:List Str):Prop where
 sub:∀x∈ws,x∈ks
 cov:∀x∈ks,x∈ws\/tol tk x=true
 sure:∀W:Str->Prop,(∀b,W b->∃a∈G b,W a)->∀b,W b->tol tk b=false
 inv:∀x v,zaA tk (Sum.inr x)=some v->∃n,v=V.int n
 len:tk.length+ws.length<=ks.length
structure LRi(ks:List Str)(G:Str->List Str)(tk:List (Key×V))(ws ys:List Str)(i:Nat)(fr:Bool):Prop where
 sub:∀x∈ys,x∈ks
 cov:∀x∈ks,x∈ys\/x∈ws.drop i\/tol tk x=true
 sure:∀W:Str->Prop,(∀b,W b->∃a∈G b,W a)->∀b,W b->tol tk b=false
 inv:∀x v,zaA tk (Sum.inr x)=some v->∃n,v=V.int n
 len:tk.length+ys.length+(ws.length -i)<=ks.length
 le:ys.length<=i
 lt:fr=true->ys.length<i
 opn:fr=false->∀x∈ys,∃y∈G x,tol tk y=false
structure Wlk(ks:List Str)(G:Str->List Str)(tk:List (Key×V))(row:List Str)(x:Str):Prop where
 nd:row.Nodup
 sub:∀y∈row,y∈ks
 ch:∀i a b,row[i]?=some a->row[i+1]?=some b->b∈G a
 nx:∀a,row[row.length -1]?=some a->x∈G a
 xk:x∈ks
 xu:tol tk x=false
structure EL(H H':Hp)(kvs:List (Key×V))(ks:List Str)(G:Str->List Str):Prop where
 keys:kvs.map (·.1)=ks.map Sum.inr
 nd:ks.Nodup
 at_:∀x∈ks,∃l,zaA kvs (Sum.inr x)=some (.ref l)/\H' l=some (.lst ((G x).map V.str))/\H l=none
 apart:∀x∈ks,∀y∈ks,∀l,zaA kvs (Sum.inr x)=some (.ref l)->zaA kvs (Sum.inr y)=some (.ref l)->x=y
noncomputable def kOf(t:List Str):List Key:=t.map Sum.inr
structure RT(H:Hp)(kvs:List (List Key×V))(rs:List (List Str)):Prop where
 len:kvs.length=rs.length
 at_:∀(j:Nat) (kv:List Key×V) (r:List Str),kvs[j]?=some kv->rs[j]?=some r->∃b,kv.1=kOf (zkk r)/\kv.2= .ref b/\H b=some (.tup (r.map V.str))
 row:∀r∈rs,zqj r=true
 nd:(rs.map zkk).Nodup
structure RG(xs:List Str)(m:Nat)(rs:List (List Str)):Prop where
 row:∀r∈rs,zqj r=true
 nd:(rs.map zkk).Nodup
 old:∀r∈rs,∃i j,i<m/\j<m/\zkk r=pr (at_ xs i) (at_ xs j)
structure MAt(K:W.Frag)(C:Addr)(x qual:Str)(st:Stmt)(ps:List Str)(f:Addr)(fd:FuncData):Prop where
 fn:Fun K x qual st f fd
 b:Binds K fd ps []
 m:Meth K C x f
section
variable{o e:Expr}{f m:Str}{ta:TE}{t:TA}{k:Nat}{ps:List Str}{ds:List Value}{E:XK}
theorem zJ(he:QE X e ta)(hb:autoParam (attributeBase e f X.env (eval e X.env)=eval e X.env) v3):QE X (.Attribute e f pos) (zrd X.K ta f):=⟨zrJ he.o hb⟩
theorem zrD(hK:X.K=K)(he:QE X e ta)(hb:autoParam (attributeBase e f X.env (eval e X.env)=eval e X.env) v3):QE X (.Attribute e f pos) (zrd K ta f):=by subst hK;exact zJ he hb
theorem zdQ(ha:QE X o ta)(hv:QE X value tv)(hs:autoParam (swapsWith value (some (.Attribute o f pos')) pos.line X.env=pure false) v3):QS X (.Assign [.Attribute o f pos'] value pos) (zsw X.K ta tv f):=⟨zrW ha.o hv.o hs⟩
theorem zoH{op:Operator}{rd:V->V->Hp->VK->Prop}(ha:QE X o ta)(hv:QE X value tv)(hop:zse X op rd):QS X (.AugAssign (.Attribute o f tpos) op value pos) (zlm X.K ta tv rd f):=⟨zmU ha.o hv.o hop⟩
theorem zb4(he:QE X o ta)(c:Cls X.K C)(hm:Meth X.K C m fa)(F:FnOk X.prog X.w X.K X.mg X.base CX k fa fd ps sp)(hr:Room k X.A)(hb:Binds X.K fd ps ds)(hd:Vals dvs ds)(hx:za4 CX X E)(ha:QA X (e::es) t)
 (hst:autoParam (starEach (e::es) X.env=(false,eval e X.env)::starEach es X.env) v3) (hpl:autoParam ((backTo pos (starEach es X.env)).any (·.1)=false) v3)
 (ht:autoParam (eval (.Call (.Attribute o m apos) (e::es) [] pos) X.env=(do
   let ov ←eval o X.env
   standAt apos.atName
   let(f,first) ←holding [ov] (getMethod ov m pl)
   callWith pos f first (backTo pos (starEach (e::es) X.env)) (backToKw pos (keywordEach [] X.env)))) v3):
 QE X (.Call (.Attribute o m apos) (e::es) [] pos) (zlv C m sp dvs E ta t):=⟨zpI he.o c hm F hr hb hd hx ha.o hst hpl ht⟩
theorem zaC(he:QE X o ta)(c:Cls X.K C)(hm:Meth X.K C m fa)(F:FnOk X.prog X.w X.K X.mg X.base CX k fa fd ps sp)(hr:Room k X.A)(hb:Binds X.K fd ps ds)(hd:Vals dvs ds)(hx:za4 CX X E)
 (ht:autoParam (eval (.Call (.Attribute o m apos) [] [] pos) X.env=(do
   let ov ←eval o X.env
   standAt apos.atName
   let(f,first) ←holding [ov] (getMethod ov m pl)
   callWith pos f first (backTo pos (starEach [] X.env)) (backToKw pos (keywordEach [] X.env)))) v3):
 QE X (.Call (.Attribute o m apos) [] [] pos) (zlv C m sp dvs E ta znh):=⟨zoJ he.o c hm F hr hb hd hx ht⟩
theorem znf{p:Pos}(M:Mk X.K C fa)(F:FnOk X.prog X.w X.K X.mg X.base CX k fa fd ps sp)(hr:Room (k+1) X.A)(hm:X.mg x=some (.ref C))(hb:Binds X.K fd ps ds)(hd:Vals dvs ds)(hx:za4 CX X E)
 (ha:QA X (e::es) t) (hg:autoParam (Gl X x) v3) (hdb:autoParam ((x==("__debug__":Str))=false) v4) (he:autoParam (starEach (e::es) X.env=(false,eval e X.env)::starEach es X.env) v3) (hpl:autoParam ((backTo pos (starEach es X.env)).any (·.1)=false) v3):
 QE X (.Call (.Name x p) (e::es) [] pos) (zqZ C sp dvs E t):=⟨zqJ M F hr hg hm hb hd hx ha.o hdb he hpl⟩
theorem zk8{g:Expr}{td ty:TE}(hu:X.A.units+1<cLine)(ho:QE X o td)(he:QE X e ty)(hf:QE X g tx)(hb:autoParam (attributeBase o "get" X.env (eval o X.env)=eval o X.env) v3)
 (hw:autoParam (((backTo cpos (starEach [e,g] X.env)).all (λx=>!x.1)&&(backToKw cpos (keywordEach [] X.env)).all (λx=>x.1.isSome)
 &&decide (([e,g]:List Expr).length+([]:List Keyword).length+(if([]:List Keyword).isEmpty then 0 else 1)<30))=true) v3) (hl:autoParam ((apos.endLine==cpos.line)=true) v3) (ht:autoParam (backTo cpos (starEach [e,g] X.env)=[(false,eval e X.env),(false,eval g X.env)]) v3):
 QE X (.Call (.Attribute o "get" apos) [e,g] [] cpos) (znT td ty tx):=⟨zo7 hu ho.o he.o hf.o ⟨hb,hw,hl,ht⟩⟩
theorem zlJ:OpR X (binaryOp .Mult) (rI (λi j=>Builtin.Int.intBits i<=2^20/\Builtin.Int.intBits j<=2^20) λi j=> .int (i*j)):=opI λ_ _ _ _ _ _ _ hc q=>mul_int q (.of_bits hc.1 hc.2)
end
inductive TrC(K:W.Frag)(H:Hp):V->PyData->Prop
 |non:TrC K H .non .none
 |bl (b:Bool):TrC K H (.bl b) (.bool b)
 |int (i:Int):TrC K H (.int i) (.int i)
 |str (x:Str) (h:PyData.strOk x=true):TrC K H (.str x) (.str x)
 |tup {p:Addr} {vs:List V} {ds:List PyData} (e:SqT K H p vs) (hl:vs.length=ds.length) (h:∀(i:Nat) (v:V) (d:PyData),vs[i]?=some v->ds[i]?=some d->TrC K H v d):TrC K H (.ref p) (.tuple ds)
theorem TrC.reads(I:Inv X pins σ H s){x:V}{d:PyData}(t:TrC X.K H x d):∀v,RelV x v->∃as,Reads s.heap v d as:=by
 induction t with
 |non=>intro v r;cases r;exact⟨_, .none⟩
 |bl b=>intro v r;cases r;exact⟨_, .bool b⟩
 |int i=>intro v r;obtain⟨t,rfl⟩:=r;exact⟨_, .int i t⟩
 |str x h=>intro v r;obtain⟨t,rfl⟩:=r;exact⟨_, .str x t⟩
 |tup e hl h ih=>
  intro v r
  cases r
  obtain⟨its,rv,⟨o,ho,hc,n,hd⟩,_⟩:=I.tuple e
  obtain⟨bs,hb⟩:=zcd (h:=s.heap) rv hl ih
  exact⟨_, .tuple ho hc hd (by simpa using hb)⟩
theorem TrC.can{x:V}{d:PyData}(t:TrC K H x d):d.canLay0=true:=by
 induction t with
 |non=>rfl
 |bl b=>rfl
 |int i=>rfl
 |str x h=>simp only[PyData.canLay0];exact h
 |tup e hl h ih=>rw[PyData.canLay0];exact zdH hl ih
theorem op_eqC(hu:X.A.units+64<cLine):OpR X (compareOp .Eq) (λx y H Q=>∃d e,TrC X.K H x d/\TrC X.K H y e/\min d.depth e.depth<=60/\Q (.bl (d.eqv e)) H):=by
 intro pins s σ H x y v u Q I rx ry h
 obtain⟨d,e,t1,t2,hd,q⟩:=h
 obtain⟨as,r1⟩:=t1.reads I v rx
 obtain⟨bs,r2⟩:=t2.reads I u ry
 exact SeqAt.compareEq_reads r1 r2 t1.can t2.can () ⟨.bl _,H,I,rfl,q⟩
theorem zow(hu:X.A.units+64<cLine):OpR X (compareOp .NotEq) (λx y H Q=>∃d e,TrC X.K H x d/\TrC X.K H y e/\min d.depth e.depth<=60/\Q (.bl (!d.eqv e)) H):=by
 intro pins s σ H x y v u Q I rx ry h
 obtain⟨d,e,t1,t2,hd,q⟩:=h
 obtain⟨as,r1⟩:=t1.reads I v rx
 obtain⟨bs,r2⟩:=t2.reads I u ry
 exact SeqAt.compareNe_reads r1 r2 t1.can t2.can () ⟨.bl _,H,I,rfl,q⟩
theorem zdI{st:Stmt}:QS X st (λ_ _ _=>False):=⟨λpins s σ H D I h=>h.elim⟩
theorem zgC(kx vx target iter:Expr)(ifs:List Expr)(scope:Scope)(pos:Pos)(it:Value)(d:Addr)(env:Env):
 compTurn (.DictComp kx vx [⟨target,iter,ifs,0⟩] scope pos) 0 it (.ref d) env=(do
  standAt iter.pos
  match←pyNext it with
  |none=>pure (.done .next)
  |some v=>
   letOwnedTupleGo target it v
   assign target env v
   let mut ok:=true
   for c in ifs do
    if ok then ok ←isTrue c env (eval c env)
   if ok then
    (do
      let kv ←eval kx env
      let vv ←holding [kv] (eval vx env)
      standAt {kx.pos with endLine:=vx.pos.endLine,endCol:=vx.pos.endCol}
      holding [kv,vv] (dictSet d kv vv))
   again (.compLoop (.DictComp kx vx [⟨target,iter,ifs,0⟩] scope pos) 0 it (.ref d) env)):=by rfl
theorem zpx{R:Result->Shared->Prop}{it:Value}{d:Addr}(I:Nat->Shared->Prop)
 (turn:∀n s,I n s->wpAny `V3 A (pyNext it) (λr s1=>match r with
   |none=>R (.ok .next) s1
   |some v=>wpAny `V3 A (letOwnedTupleGo target it v) (λ_ s1'=>wpAny `V3 A (assign target env v) (λ_ s2=>wpAny `V3 A (ziz ifs env) (λok s3=>
     if ok=true then wpAny `V3 A (eval kx env) (λk s4=>wpAny `V3 A (eval vx env) (λx s4'=>wpAny `V3 A (dictSet d k x) (λ_ s5=>∃m,m<n/\I m s5) (λ_ _=>False) s4') (λ_ _=>False) s4) (λ_ _=>False) s3
     else∃m,m<n/\I m s3) (λ_ _=>False) s2) (λ_ _=>False) s1') (λ_ _=>False) s1) (λ_ _=>False) s)
 (n:Nat) (h:I n s):codeAny `V3 A (.compLoop (.DictComp kx vx [⟨target,iter,ifs,0⟩] scope pos) 0 it (.ref d) env) R s:=by
 have no:∀{E:Value->Shared->Prop} (e:Value) (s:Shared),(λ(_:Value) (_:Shared)=>False) e s->E e s:=λ_ _ z=>False.elim z
 refine codeAny_loop rfl I (λn s hI=>?_) n h
 show wpAny _ A ((compTurn (.DictComp kx vx [⟨target,iter,ifs,0⟩] scope pos) 0 it (.ref d) env).onRaise (λx=>do noteFrame x env;theTreesLotGoes x)) _ _ s
 refine wpAny_noted ?_
 rw[zgC]
 refine C0 (wpAny_standAt (C0 (W2 (turn n s hI) (λr s₁ h₁=>?_) no)))
 cases r with
 |none=>exact K0 h₁
 |some v=>
  refine C0 (W2 h₁ (λ_ s1' h1'=>?_) no)
  refine C0 (W2 h1' (λ_ s₂ h₂=>C0 (W2 h₂ (λok s₃ h₃=>?_) no)) no)
  cases ok with
  |false=>exact K0 ⟨rfl,h₃⟩
  |true=>
   exact C0 (C0 (W2 h₃ (λk s₄ h₄=>C0 (X2 (W2 h₄ (λx s₅ h₅=>C0 (wpAny_standAt (X2 (W2 h₅ (λ_ s₆ h₆=>K0 ⟨rfl,h₆⟩) no)))) no))) no))
def zf0(g:TG)(tc:TT)(tk tv:TE)(src:List (Option Nat))(σ:St)(Q:VK)(J:It)(H1:Hp):Prop:=∀l,H1 l=none->
 ∃W:Nat->Nat->List (Key×V)->St->Hp->Prop,(∃m,W 0 m [] (zep src σ) (upd H1 l (.dK [])))/\∀i m ys σ' H',W i m ys σ' H'->H' l=some (.dK ys)->
  (J.stop i H'/\Q (.ref l) H')\/(J.go i H'/\∃N:List (Key×V)->St->Hp->Prop,(∀zs σ2 H2,N zs σ2 H2->∃m',m'<m/\W (i+1) m' zs σ2 H2)/\∀x H2,J.yld i H' x H2->g x σ' H2 λσ2 H3=>tc σ2 H3 λb H4=>
    if b=true then tk σ2 H4 λk H5=>tv σ2 H5 λy H6=>∃k',k=kV k'/\H6 l=some (.dK ys)/\ys.length<sizeLine/\N (zah ys k' y) σ2 (upd H6 l (.dK (zah ys k' y)))
    else H4 l=some (.dK ys)/\N ys σ2 H4)
noncomputable def zli(wi:TI)(g:TG)(tc:TT)(tk tv:TE)(src:List (Option Nat)):TE:=λσ H Q=>wi σ H (zf0 g tc tk tv src σ Q)
section
variable{src:List (Option Nat)}{g:TG}{tk:TE}
theorem zl5(ok:CompOk X.N osc N' src scope)(hsc:X.env.scope=osc)(hc:X.calm=true)(hi:PI X tg iter wi)
 (hg:∀cl C s₀ H₀ fp,PG (zw X N' scope cl C s₀ H₀ fp) tg g) (ht:∀cl C s₀ H₀ fp,PIf (zw X N' scope cl C s₀ H₀ fp) ifs tc) (hk2:∀cl C s₀ H₀ fp,PE (zw X N' scope cl C s₀ H₀ fp) kx tk) (hv2:∀cl C s₀ H₀ fp,PE (zw X N' scope cl C s₀ H₀ fp) vx tv)
 (hs:autoParam (∀x,foldedSetIterable iter X.env x=pure x) u5):PE X (.DictComp kx vx [⟨tg,iter,ifs,0⟩] scope pos) (zli wi g tc tk tv src):=by
 intro pins s σ H Q I h
 obtain⟨cl,hcl,c1,c2⟩:=zdY (scope:=scope) (env:=X.env) λy hy hyf=>I.ok.has y.1 (by
  have z:=ok.frees y hy hyf
  rw[←hsc] at z
  exact z)
 rw[arm_eval_DictComp]
 refine wpAny_comprehension_free (use:=none) rfl hs hcl ok.kind ok.loc (thn (hi pins s σ H _ I h) λv s1 h1=>thn h1 λitv s2 h2=>?_)
 obtain⟨it,fp,tn,J,H2,e,I2,T,st2,f2,q2⟩:=h2
 subst e
 have hlt2:∀b∈fp,b<s2.heap.objs.size:=λb hb=>by
  obtain⟨o,e,_⟩:=T.obj _ _ st2 b hb
  exact V0 e
 refine D2 ?_
 have hl:H2 s2.heap.objs.size=none:=I2.hok.fresh (P0 _)
 have I3:Inv X pins σ (upd H2 s2.heap.objs.size (.dK [])) {s2 with heap:=s2.heap.push {cls:= .type "dict",data:= .dict #[]}}:=
  I2.laid (t':=s2.toks) (λb u e=>G0 _ e) (P0 _) (ziQ s2.heap I2.big)
 obtain⟨W,⟨m0,w0⟩,turn⟩:=q2 _ hl
 generalize hl2:s2.heap.objs.size=l at *
 generalize hs3:({s2 with heap:=s2.heap.push {cls:= .type "dict",data:= .dict #[]}}:Shared)=s3 at *
 have f3:∀b∈fp,zec X pins (upd H2 l (.dK [])) b:=λb hb=>⟨by rw[zd (P1 (hlt2 b hb))];exact(f2 b hb).1,(f2 b hb).2⟩
 have k3:∀b o,s2.heap.get? b=some o->s3.heap.get? b=some o:=λb o e=>by rw[←hs3];exact G0 _ e
 have hlt3:∀b∈fp,b<s3.heap.objs.size:=λb hb=>by
  obtain⟨o,e,_⟩:=T.obj _ _ st2 b hb
  exact V0 (k3 b o e)
 refine wpAny_newFunctionEnv ok.nocell (by intro y hy;simp at hy) (λh₁ hns₁ hsb₁=>?_) ok.kind
 have k4:∀b o,s3.heap.get? b=some o->h₁.get? b=some o:=λb o e=>(hsb₁.2 b (P1 (V0 e))).trans (G0 _ e)
 have J0:=zd2 (tk:=s3.toks+([]:List (Str×Value)).length) I3 f3 hlt3 ok hsc c1 c2 hns₁ k4
 have st4:tn 0 h₁:=T.keep _ _ _ st2 λb hb o e=>k4 b o (k3 b o e)
 generalize hC:s3.heap.objs.size=C at *
 have stat:∀{H':Hp},(∀b∈fp,H' b=none)->∀b∈fp,zec (zw X N' scope cl C s3 (upd H2 l (.dK [])) fp) [] H' b:=λ{H'} hn b hb=>
  ⟨hn b hb,(J0.ok.exf b hb).1,J0.ok.exfs b hb, .inl hb,(J0.ok.exf b hb).2,λp hp=>absurd (show p∈([]:List (Addr×Obj))from hp) `Z3⟩
 have loop:codeAny (model X.prog X.w) X.A (.compLoop (.DictComp kx vx [⟨tg,iter,ifs,0⟩] scope pos) 0 (.ref it) (.ref l) (compEnvC scope cl C X.env))
  (compPost (model X.prog X.w) X.A X.xe none (EP X pins σ Q) (.ref l) C) {s3 with heap:=h₁,toks:=s3.toks+([]:List (Str×Value)).length}:=by
  refine zpx (λn s'=>∃i ys σ' H',Inv (zw X N' scope cl C s3 (upd H2 l (.dK [])) fp) [] σ' H' s'/\tn i s'.heap/\(∀b∈fp,H' b=none)/\H' l=some (.dK ys)/\W i n ys σ' H') ?_ m0
   ⟨0,[],_,_,J0,st4,λb hb=>(f3 b hb).1,zb,w0⟩
  rintro n s5 ⟨i,ys,σ5,H5,I5,st5,fr5,hl5,w5⟩
  rcases turn i n ys σ5 H5 w5 hl5 with⟨stop,qn⟩|⟨go,N,hN,step⟩
  ·refine thn (T.done (zw X N' scope cl C s3 (upd H2 l (.dK [])) fp) rfl rfl rfl hc i [] s5 σ5 H5 (λ_ _=>False) I5 (stat fr5) st5 stop) λr s6 ⟨hr,I6⟩=>?_
   subst hr
   obtain⟨m,hn,_⟩:=I6.loc
   exact⟨m,hn,λh' hsb=>⟨.ref l,H5,zei I3 f3 (by rw[←hC];exact P0 _) I6 hsb,rfl,qn⟩⟩
  ·refine thn (T.item (zw X N' scope cl C s3 (upd H2 l (.dK [])) fp) rfl rfl rfl hc i [] s5 σ5 H5 (λ_ _=>False) I5 (stat fr5) st5 go) λr s6 ⟨u,hr,h6⟩=>?_
   subst hr
   refine thn h6 λ_ s7 zq=>?_
   obtain⟨x,H7,I7,r7,y7,st7,fr7⟩:=zq
   have I7':=I7.pinned (stat fr7) (T.obj _ _ st7)
   refine thn (hg cl C s3 _ fp _ s7 σ5 H7 x u _ I7' r7 (step x H7 y7)) λ_ s8 zq=>?_
   obtain⟨σ8,H8,I8,q8⟩:=zq
   refine thn (ht cl C s3 _ fp _ s8 σ8 H8 _ I8 q8) λb s9 zq=>?_
   obtain⟨H9,I9,q9⟩:=zq
   have back:∀{s':Shared} {H':Hp},Inv (zw X N' scope cl C s3 (upd H2 l (.dK [])) fp) ([]++zd9 fp s7.heap) σ8 H' s'->tn (i+1) s'.heap/\∀b∈fp,H' b=none:=λ{s' H'} I'=>by
    refine⟨T.keep _ _ _ st7 λb hb o e=>(I'.pin (b,o) (N1 _ (N1 _ (zal hb e)))).1,λb hb=>?_⟩
    obtain⟨o,e,d⟩:=T.obj _ _ st7 b hb
    exact(I'.pin (b,o) (N1 _ (N1 _ (zal hb e)))).2.1
   cases b with
   |false=>
    obtain⟨hl9,n9⟩:=q9
    obtain⟨m',hm,w9⟩:=hN _ _ _ n9
    obtain⟨t9,fr9⟩:=back I9
    exact⟨m',hm,i+1,ys,σ8,H9,I9.unpinned,t9,fr9,hl9,w9⟩
   |true=>
    refine thn (hk2 cl C s3 _ fp _ s9 σ8 H9 _ I9 q9) λkv2 s10 zq=>?_
    obtain⟨k',H10,I10,rk10,q10⟩:=zq
    refine thn (hv2 cl C s3 _ fp _ s10 σ8 H10 _ I10 q10) λxv2 s11 zq1=>?_
    obtain⟨y',H11,I11,r11,k'',ek,hl11,hz,n11⟩:=zq1
    subst ek
    obtain⟨m',hm,w11⟩:=hN _ _ _ n11
    obtain⟨z,hd,vs,rel,dd⟩:=zht I11.hok hl11
    have hz2:vs.length<=sizeLine:=by rw[←rel.length];exact z
    have hl2':(zah ys k'' y').length<=sizeLine:=by have:=zdk ys k'' y';lia
    refine wpAny_dictSet_pairs (zjV rk10) dd (λh' dd' hs=>?_) hz2
    have he:∃q,h'.get? l=some q:=let⟨q,_,_,hq,_⟩:=dd';⟨q,hq⟩
    have I12:=ziL (t':=s11.toks+1) I11 (by rw[hl11];exact True.intro) hs he (zof hl2' hd (rel.put k'' r11) dd')
    obtain⟨t12,fr12⟩:=back I12
    exact⟨m',hm,i+1,zah ys k'' y',σ8,_,I12.unpinned,t12,fr12,zb,w11⟩
 exact codeAny_compStart_dict loop (T.self _ 0 _ _ _ st4 loop)
theorem zfL(ok:CompOk X.N osc N' src scope)(hsc:X.env.scope=osc)(hc:X.calm=true)(hi:QI X tg iter wi)
 (hg:∀cl C s₀ H₀ fp,QG (zw X N' scope cl C s₀ H₀ fp) tg g) (ht:∀cl C s₀ H₀ fp,QF (zw X N' scope cl C s₀ H₀ fp) ifs tc) (hk2:∀cl C s₀ H₀ fp,QE (zw X N' scope cl C s₀ H₀ fp) kx tk) (hv2:∀cl C s₀ H₀ fp,QE (zw X N' scope cl C s₀ H₀ fp) vx tv)
 (hs:autoParam (∀x,foldedSetIterable iter X.env x=pure x) u5):QE X (.DictComp kx vx [⟨tg,iter,ifs,0⟩] scope pos) (zli wi g tc tk tv src):=
 ⟨zl5 ok hsc hc hi.o (λcl C s₀ H₀ fp=>(hg cl C s₀ H₀ fp).o) (λcl C s₀ H₀ fp=>(ht cl C s₀ H₀ fp).o) (λcl C s₀ H₀ fp=>(hk2 cl C s₀ H₀ fp).o) (λcl C s₀ H₀ fp=>(hv2 cl C s₀ H₀ fp).o) hs⟩
end
theorem zl8{n:Nat}{P:Nat->V->Prop}{ok:Hp->Prop}{g:TG}{tk:TE}{src:List (Option Nat)}{Q:VK}(wk:Wk J n P ok)(Pv:Addr->Nat->List (Key×V)->St->Hp->Prop)
 (h0:∀l,H1 l=none->Pv l 0 [] (zep src σ) (upd H1 l (.dK []))) (hok:∀l i ys σ H,H1 l=none->Pv l i ys σ H->ok H)
 (hs:∀l i x ys σ H,H1 l=none->i<n->P i x->Pv l i ys σ H->H l=some (.dK ys)->g x σ H λσ2 H3=>tc σ2 H3 λb H4=>
   if b=true then tk σ2 H4 λk H5=>tv σ2 H5 λy H6=>∃k',k=kV k'/\H6 l=some (.dK ys)/\ys.length<sizeLine/\Pv l (i+1) (zah ys k' y) σ2 (upd H6 l (.dK (zah ys k' y)))else H4 l=some (.dK ys)/\Pv l (i+1) ys σ2 H4)
 (hd:∀l ys σ H,H1 l=none->Pv l n ys σ H->H l=some (.dK ys)->Q (.ref l) H):zf0 g tc tk tv src σ Q J H1:=by
 intro l hl
 refine⟨λi m ys σ H=>m=n -i/\i<=n/\Pv l i ys σ H,⟨n,`Z3,W1 _,h0 l hl⟩,?_⟩
 rintro i m ys σ H ⟨rfl,hi,p⟩ e
 by_cases hlt:i<n
 ·refine .inr ⟨wk.go i H (hok l i ys σ H hl p) hlt,Pv l (i+1),λzs σ' H' q=>⟨n -(i+1),(),rfl,hlt,q⟩,λx H' y=>?_⟩
  obtain⟨rfl,px⟩:=wk.yld i H x H' (hok l i ys σ H hl p) hlt y
  exact hs l i x ys σ _ hl hlt px p e
 ·have ei:i=n:=()
  subst ei
  exact .inl ⟨wk.stop i H (hok l i ys σ H hl p) (P0 _),hd l ys σ H hl p e⟩
def RawE(h:Heap)(d:Addr)(ps:List (Value×Value))(ep:Nat):Prop:=∃o es,h.get? d=some o/\o.ExactDict/\o.data= .dict es ep/\es.toList.map (λe=>(e.key,e.val))=ps
theorem RawE.ty{d:Addr}{ps:List (Value×Value)}(x:RawE s.heap d ps ep):s.TypeIs (.ref d) "dict":=let⟨o,_,ho,hc,_⟩:=x;⟨o,ho,hc.1⟩
section
variable{d:Addr}{ps:List (Value×Value)}
theorem raw_items{R:Value->Shared->Prop}(nsys:(d==sysModules)=false)(x:RawE s.heap d ps ep)(q:R (.ref s.heap.objs.size) {s with heap:=s.heap.push {cls:= .type "dict_items",data:= .fields #[.ref d]}}):
 wpAny `V3 A (Builtin.«dict.items» ⟨[.ref d],[]⟩) (λfin s'=>∃v,fin= .done (.ret v)/\R v s') E s:=by
 unfold Builtin.«dict.items»
 refine C0 ?_
 unfold Builtin.Dict.noArgs
 refine C0 (wpAny_notOrdered_dict x.ty ?_)
 show wpAny _ _ (pure d) _ _ s
 refine K0 ?_
 show wpAny _ _ (Builtin.Dict.showsAll d>>=_) _ _ s
 unfold Builtin.Dict.showsAll
 rw[N0 (by rw[nsys];exact L1)]
 refine C0 (K0 ?_)
 exact C0 (D2 (K0 ⟨_,rfl,q⟩))
theorem raw_items_iter{v:Addr}(hv:s.heap.IsItemsView v d)(x:RawE s.heap d ps ep)
 (hQ:Q (.ref s.heap.objs.size) {s with heap:=s.heap.push {cls:= .type "dict_itemiterator",data:= .fields #[.none, .bool false, .ref d, .int 0 0, .int ps.length 0, .int ep 0, .none, .none]}}):
 wpAny `V3 A (pyIter (.ref v)) Q E s:=by
 obtain⟨ov,hov,hcv,hdv⟩:=id hv
 obtain⟨o,es,ho,hc,hdat,hp⟩:=id x
 refine wpAny_pyIter_slot hv.typeIs F.slot_dict_items_iter (Y2 F.slot_dict_items_iter hv.typeIs F.entry_dict_items_iter ?_ (F.args_dict_items_iter_1 _))
 unfold Builtin.«dict_items.__iter__»
 refine C0 (K0 ?_)
 refine C0 ?_
 unfold Builtin.Dict_items.dictOf
 refine C0 (wpAny_field hov hdv (x:= .ref d) rfl (K0 ?_))
 refine C0 ?_
 unfold Builtin.Dict_items.newIterator
 refine C0 (wpAny_dictEntries ho hdat ?_)
 refine C0 (wpAny_dictEpoch ho hdat ?_)
 have hsz:es.size=ps.length:=by rw[←hp];simp
 have hown:Builtin.Dict_items.ownsTuple "dict_itemiterator"=true:=⋯
 simp only[hown,if_true]
 refine D2 (K0 ⟨_,rfl,"dict_itemiterator",_,⟨_,O0 _ rfl,rfl⟩,F.slot_dict_itemiterator_next.lookup,?_⟩)
  (by simp only[sizeOk,Builtin.Dict_items.ownedTupleFields,Z0,F1,J1,List.length_nil,sizeLine_eq];lia)
 simpa[rawInt,hsz,Builtin.Dict_items.ownedTupleFields] using hQ
theorem raw_items_next{d:Addr}{ps:List (Value×Value)}{v ok:Value}{Q:Option Value->Shared->Prop}(hit:IsItemIter s.heap it d i ps.length ep ok ov)
 (hm:RawE s.heap d ps ep) (hx:ps[i]?=some (key,v))
 (hQ:∀h',IsItemIterOut h' it d (i+1) ps.length ep key v s.heap.objs.size->
   h'.get? s.heap.objs.size=some {cls:= .type "tuple",data:= .seq #[key,v]}->h'.objs.size=s.heap.objs.size+1->
   (∀b o,b≠it->s.heap.get? b=some o->h'.get? b=some o)->Q (some (.ref s.heap.objs.size)) {s with heap:=h'}):
 wpAny `V3 A (pyNext (.ref it)) Q E s:=by
 obtain⟨hp,g,dr,tk,os⟩:=s
 obtain⟨od,es,hod,hcd,hdd,hpr⟩:=id hm
 have hT:Shared.TypeIs ⟨hp,g,dr,tk,os⟩ (.ref it) "dict_itemiterator":=⟨_,hit,rfl⟩
 unfold pyNext
 refine C0 (wpAny_attempt (wpAny_callSpecial?_slot (name:=Str.ofString "__next__") hT F.slot_dict_itemiterator_next
  (Y2 F.slot_dict_itemiterator_next hT F.entry_dict_itemiterator_next ?_ (F.args_dict_itemiterator_next_1 _))))
 refine C0 (K0 ?_)
 refine C0 ?_
 refine C0 ?_
 first|refine C0 (wpAny_typeNameOfWhole_itemiter hT (K0 ?_))|refine C0 (wpAny_typeNameOf_itemiter hT (K0 ?_))
 refine C0 (wpAny_fieldsOf hit rfl ?_)
 have hown:Builtin.Dict_items.ownsTuple "dict_itemiterator"=true:=⋯
 simp only[hown,if_true]
 show wpAny _ _ (if(Value.ref d==Value.none)=true then _ else _) _ _ _
 rw[N0 (show¬((Value.ref d==Value.none)=true)from L1)]
 refine C0 (K0 ?_)
 refine C0 (wpAny_dictEntries hod hdd ?_)
 have hsz:es.size=ps.length:=by rw[←hpr];simp
 rw[N0 (by rw[hsz];simp)]
 refine C0 (K0 ?_)
 refine C0 (wpAny_dictEpoch hod hdd ?_)
 rw[N0 `Z3]
 refine K0 ?_
 have hlt:i<ps.length:=by
  rcases Y1 i ps.length with h|h
  ·exact h
  ·simp[Q0 h] at hx
 have hlt':i<es.size:=by rw[hsz];exact hlt
 have hkv:es[i].key=key/\es[i].val=v:=by
  have e1:ps[i]?=some (es[i].key,es[i].val):=by rw[←hpr];simp[hlt']
  rw[e1] at hx
  have:=U1 hx
  exact⟨Z2 Prod.fst this,Z2 Prod.snd this⟩
 obtain⟨hkey,hval⟩:=hkv
 simp only[show¬((i:Int)<0)from by lia,if_false,Int.toNat_natCast,Array.getElem?_eq_getElem hlt']
 refine C0 ?_
 first|refine C0 (wpAny_typeNameOfWhole_itemiter hT (K0 ?_))|refine C0 (wpAny_typeNameOf_itemiter hT (K0 ?_))
 refine C0 (wpAny_isOneOf_itemiter hT ?_)
 show wpAny _ _ (setField (.ref it) 3 (rawInt ((i:Int)+1))>>=_) _ _ ⟨hp,g,dr,tk,os⟩
 refine C0 (wpAny_setField_rec hit `Z3 λh₁ he₁ hs₁=>?_)
 replace hs₁:Heap.SameBut it hp h₁:=hs₁
 replace he₁:IsItemIter h₁ it d (i+1) ps.length ep ok ov:=by
  have e:((i+1:Nat):Int)=(i:Int)+1:=()
  unfold IsItemIter;rw[e];simpa[rawInt] using he₁
 have hT₁:Shared.TypeIs ⟨h₁,g,dr,tk,os⟩ (.ref it) "dict_itemiterator":=⟨_,he₁,rfl⟩
 refine C0 (X2 ?_)
 refine C0 (wpAny_isOneOf_itemiter hT₁ ?_)
 refine C0 (wpAny_isOneOf_itemiter hT₁ ?_)
 show wpAny _ _ (Builtin.Dict_items.pairFromOwner (.ref it) 6 es[i].key es[i].val) _ _ ⟨h₁,g,dr,tk,os⟩
 unfold Builtin.Dict_items.pairFromOwner
 refine C0 (wpAny_newTuple ?_)
 have he₂:IsItemIter (h₁.push {cls:= .type "tuple",data:= .seq #[es[i].key,es[i].val]}) it d (i+1) ps.length ep ok ov:=G0 _ he₁
 generalize hh₂:h₁.push {cls:= .type "tuple",data:= .seq #[es[i].key,es[i].val]}=h₂ at he₂
 have hz₁:h₁.objs.size=hp.objs.size:=hs₁.1
 have hil:it<hp.objs.size:=V0 hit
 have ht₂:h₂.get? hp.objs.size=some {cls:= .type "tuple",data:= .seq #[es[i].key,es[i].val]}:=by rw[←hh₂,←hz₁];exact O0 _ rfl
 have hz₂:h₂.objs.size=hp.objs.size+1:=by rw[←hh₂,Heap.size_push,hz₁]
 have hk₂:∀b o,b≠it->hp.get? b=some o->h₂.get? b=some o:=λb o hb e=>by rw[←hh₂];exact G0 _ (hs₁.extBut b o hb e)
 show wpAny _ _ (Builtin.Dict_items.ownedTupleIsFree (.ref it)>>=_) _ _ ⟨h₂,g,dr,tk,os⟩
 rw[hz₁]
 clear hh₂ he₁ hs₁ hT₁ hz₁ h₁
 refine C0 ?_
 unfold Builtin.Dict_items.ownedTupleIsFree
 refine C0 (wpAny_field he₂ rfl (x:= .none) rfl (K0 ?_))
 simp only[if_true]
 refine C0 (wpAny_field he₂ rfl (x:=ok) rfl ?_)
 refine C0 (wpAny_field he₂ rfl (x:=ov) rfl ?_)
 refine C0 (wpAny_setField_rec he₂ `Z3 λh₃ he₃ hs₃=>?_)
 replace hs₃:Heap.SameBut it h₂ h₃:=hs₃
 replace he₃:IsItemIter h₃ it d (i+1) ps.length ep es[i].key ov:=he₃
 refine C0 (wpAny_setField_rec he₃ `Z3 λh₄ he₄ hs₄=>?_)
 replace hs₄:Heap.SameBut it h₃ h₄:=hs₄
 replace he₄:IsItemIter h₄ it d (i+1) ps.length ep es[i].key es[i].val:=he₄
 refine C0 (wpAny_setField_rec he₄ `Z3 λh₅ he₅ hs₅=>?_)
 replace hs₅:Heap.SameBut it h₄ h₅:=hs₅
 replace he₅:IsItemIterOut h₅ it d (i+1) ps.length ep es[i].key es[i].val hp.objs.size:=he₅
 refine C0 (wpAny_setField_rec he₅ `Z3 λh₆ he₆ hs₆=>?_)
 replace hs₆:Heap.SameBut it h₅ h₆:=hs₆
 replace he₆:IsItemIterOut h₆ it d (i+1) ps.length ep es[i].key es[i].val hp.objs.size:=he₆
 refine C0 (wpAny_letGo (K0 (K0 ⟨_,rfl,K0 (hQ h₆ (hkey▸hval▸he₆) ?_ ?_ ?_)⟩)))
 ·rw[←hval,←hkey];exact hs₆.extBut _ _ (Nat.ne_of_gt hil) (hs₅.extBut _ _ (Nat.ne_of_gt hil) (hs₄.extBut _ _ (Nat.ne_of_gt hil) (hs₃.extBut _ _ (Nat.ne_of_gt hil) ht₂)))
 ·show h₆.objs.size=hp.objs.size+1
  rw[hs₆.1,hs₅.1,hs₄.1,hs₃.1,hz₂]
 ·exact λb o hb e=>hs₆.extBut b o hb (hs₅.extBut b o hb (hs₄.extBut b o hb (hs₃.extBut b o hb (hk₂ b o hb e))))
theorem raw_items_end{d:Addr}{ps:List (Value×Value)}{ok:Value}{Q:Option Value->Shared->Prop}(hh:A.handled=none)(hit:IsItemIter s.heap it d i ps.length ep ok ov)
 (hm:RawE s.heap d ps ep) (hx:ps[i]?=none)
 (hQ:∀h',Heap.ExtBut it s.heap h'->Q none {s with heap:=h'}):wpAny `V3 A (pyNext (.ref it)) Q E s:=by
 obtain⟨od,es,hod,hcd,hdd,hpr⟩:=id hm
 have hT:s.TypeIs (.ref it) "dict_itemiterator":=⟨_,hit,rfl⟩
 unfold pyNext
 refine C0 (wpAny_attempt (wpAny_callSpecial?_slot (name:=Str.ofString "__next__") hT F.slot_dict_itemiterator_next
  (Y2 F.slot_dict_itemiterator_next hT F.entry_dict_itemiterator_next ?_ (F.args_dict_itemiterator_next_1 _))))
 refine C0 (K0 ?_)
 refine C0 ?_
 refine C0 ?_
 first|refine C0 (wpAny_typeNameOfWhole_itemiter hT (K0 ?_))|refine C0 (wpAny_typeNameOf_itemiter hT (K0 ?_))
 refine C0 (wpAny_fieldsOf hit rfl ?_)
 have hown:Builtin.Dict_items.ownsTuple "dict_itemiterator"=true:=⋯
 simp only[hown,if_true]
 show wpAny _ _ (if(Value.ref d==Value.none)=true then _ else _) _ _ s
 rw[N0 (show¬((Value.ref d==Value.none)=true)from L1)]
 refine C0 (K0 ?_)
 refine C0 (wpAny_dictEntries hod hdd ?_)
 have hsz:es.size=ps.length:=by rw[←hpr];simp
 rw[N0 (by rw[hsz];simp)]
 refine C0 (K0 ?_)
 refine C0 (wpAny_dictEpoch hod hdd ?_)
 rw[N0 `Z3]
 refine K0 ?_
 have hge:es.size<=i:=by rw[hsz];simpa using hx
 simp only[show¬((i:Int)<0)from by lia,if_false,Int.toNat_natCast,Array.getElem?_eq_none hge]
 refine C0 ?_
 first|refine C0 (wpAny_typeNameOfWhole_itemiter hT (K0 ?_))|refine C0 (wpAny_typeNameOf_itemiter hT (K0 ?_))
 show wpAny _ _ (setField (.ref it) 2 .none>>=_) _ _ s
 refine C0 (wpAny_setField hit rfl `Z3 ?_)
 show wpAny _ _ (newExc (.type "StopIteration") []>>=_) _ _ _
 refine C0 ?_
 simp only[newExc,newTuple]
 refine C0 (D2 ?_ (by size_fits))
 refine C0 (m:=firstArgMember _ _) (wpAny_of_eq (a:=Value.none) (by first|rfl|(simp only[firstArgMember];rfl)) ?_)
 refine D2 ?_ (by size_fits)
 simp only[raiseNew]
 refine C0 (wpAny_handled ?_)
 rw[show A.in1.handled=none from hh]
 refine C0 (K0 (wpAny_throw ?_))
 refine C0 (wpAny_isInstance (T:="StopIteration") (b:=true) ⟨_,O0 _ rfl,rfl⟩ isSubtype_stop ?_)
 exact K0 (hQ _ (((Heap.SameBut.update ..).extBut.push _).push _))
end
noncomputable def Iti(d:Addr)(o:Obj)(u:HO)(ks:List (V×V)):It:=⟨λi H=>i<ks.length/\H d=some (.frz o u),λi H x H'=>∃T p,ks[i]?=some p/\x= .ref T/\H T=none/\H'=upd H T (.tup [p.1,p.2]),λi H=>ks.length<=i/\H d=some (.frz o u)⟩
theorem zkw{x1}(d it:Addr)(hne:d≠it)(o:Obj)(u:HO)(vs:List (V×V))(ps:List (Value×Value))(ep:Nat)(es:Array DictEntry)(ex:o.ExactDict)(dat:o.data= .dict es ep)(hes:es.toList.map (λe=>(e.key,e.val))=ps)(rel:∀(i:Nat) (v:V×V),vs[i]?=some v->∃q,ps[i]?=some q/\RelV v.1 q.1/\RelV v.2 q.2)(hl:vs.length=ps.length):
 Turn P w K (.Tuple elts x1 pos) (Iti d o u vs) [it] it (λi h=>i<=ps.length/\∃ok ov,IsItemIter h it d i ps.length ep ok ov) where
 mem:=`Z3
 obj:=λi h st b hb=>by
  obtain⟨_,ok,ov,e⟩:=st
  have:b=it:=by simpa using hb
  subst this
  exact⟨_,e,λv z=>nomatch z⟩
 keep:=λi h h' st k=>⟨st.1,let⟨ok,ov,e⟩:=st.2;⟨ok,ov,k it `Z3 _ e⟩⟩
 item:=by
  intro X hP hw hK hc i pins s σ H E I hf st hg
  subst hP hw hK
  have hi:i<vs.length:=hg.1
  have raw:RawE s.heap d ps ep:=⟨o,es,((show ObjOk X.prog X.w H s.heap d (.frz o u)from I.hok d _ hg.2)).1,ex,dat,hes⟩
  obtain⟨q,hq,rk,rv⟩:=rel i vs[i] (by simp[hi])
  obtain⟨f0,f1,f2,f3,f4,f5⟩:=hf it `Z3
  obtain⟨_,ok,ov,hit⟩:=st
  refine raw_items_next hit raw hq λh' ho ht hsz hk=>⟨.ref s.heap.objs.size,rfl,wpAny_letOwnedTupleGo_items ho λh2 hi2 sb=>?_⟩
  have itlt:it<s.heap.objs.size:=V0 hit
  have hT:H s.heap.objs.size=none:=I.hok.fresh (P0 _)
  have I1:Inv X pins σ (upd H s.heap.objs.size (.tup [(vs[i]).1,(vs[i]).2])) {s with heap:=s.heap.push {cls:= .type "tuple",data:= .seq #[q.1,q.2]},toks:=s.toks}:=
   I.laid (t':=s.toks) (λb o e=>G0 _ e) (P0 _) ⟨few rfl,[q.1,q.2], .cons rk (.cons rv .nil),⟨_,O0 _ rfl,rfl,_,rfl⟩,NoDict.new rfl (O0 _ rfl)⟩
  have ne:it≠s.heap.objs.size:=P1 itlt
  have kk:∀b o,b≠it->(s.heap.push {cls:= .type "tuple",data:= .seq #[q.1,q.2]}).get? b=some o->h2.get? b=some o:=λb o' hb e=>by
   refine(sb.2 b hb).trans ?_
   by_cases z:b=s.heap.objs.size
   ·rw[z] at e⊢
    rw[O0 _ rfl] at e
    rw[←e];exact ht
   ·exact hk b o' hb (by rw[Heap.get?_push_ne _ _ _ z] at e;exact e)
  have I2:=I1.turned (t':=s.toks) (h':=h2) kk (by rw[zd ne];exact f0) f1 f3 f4 f5
  refine⟨.ref s.heap.objs.size,_,I2,rfl,⟨_,vs[i],by simp[hi],rfl,hT,rfl⟩,⟨(),_,_,hi2⟩,λb hb=>?_⟩
  have:b=it:=by simpa using hb
  subst this
  rw[zd ne];exact f0
 done:=by
   intro X hP hw hK hc i pins s σ H E I hf st hg
   subst hP hw hK
   have hi:vs.length<=i:=hg.1
   have raw:RawE s.heap d ps ep:=⟨o,es,((show ObjOk X.prog X.w H s.heap d (.frz o u)from I.hok d _ hg.2)).1,ex,dat,hes⟩
   obtain⟨hle,ok,ov,hit⟩:=st
   obtain⟨f0,f1,f2,f3,f4,f5⟩:=hf it `Z3
   exact raw_items_end (I.ok.hd hc) hit raw (Q0 ()) λh' eb=>⟨rfl,I.turned (t':=s.toks) (λb o hb e=>eb b o hb e) f0 f1 f3 f4 f5⟩
 self:=λA i s Q E st h=>by
  obtain⟨_,ok,ov,hit⟩:=st
  exact W.kcp_self hit h
section
variable{K:Type}[DecidableEq K]{knd:KeyKind prog w K}
end
inductive TwosAt(H:Hp):List Addr->List Str->List V->Prop
 |nil:TwosAt H [] [] []
 |cons {t:Addr} {x:Str} {y:V} {ts:List Addr} {hs:List Str} {ys:List V}:H t=some (.tup [.str x,y])->TwosAt H ts hs ys->TwosAt H (t::ts) (x::hs) (y::ys)
theorem zmu{ts:List Addr}:∀{its:List Value},Vals (ts.map V.ref) its->its=ts.map Value.ref:=by
 induction ts with
 |nil=>intro its r;cases r;rfl
 |cons t ts ih=>intro its r;cases r with
  |cons a b=>rw[ih b];cases a;rfl
section
open PySem.W
def AtG(Oa:Hp->Addr->α->Prop)(H:Hp)(vs:List V)(ps:List α):Prop:=vs.length=ps.length/\∀(i:Nat) (v:V) (p:α),vs[i]?=some v->ps[i]?=some p->∃b,v= .ref b/\Oa H b p
noncomputable abbrev Ky:=Int×Int×List Str
theorem znt{a b:Ky}(h:a≠b)(e:ltK a b=false):ltK b a=true:=by
 obtain⟨i,n,ps⟩:=a
 obtain⟨j,m,qs⟩:=b
 unfold ltK at *
 simp only at *
 by_cases h1:i=j
 ·by_cases h2:n=m
  ·subst h1 h2
   rw[R0 rfl,R0 rfl] at e⊢
   exact zjq (λz=>h (by rw[z])) e
  ·rw[R0 h1,N0 h2] at e
   rw[R0 h1.symm,N0 (Ne.symm h2)]
   simp at e⊢;lia
 ·rw[N0 h1] at e
  rw[N0 (Ne.symm h1)]
  simp at e⊢;lia
noncomputable def zgW(k:Ky):PyData:= .tuple [.int k.1, .int k.2.1, .tuple (zx k.2.2)]
def KeyO(H:Hp)(b:Addr)(k:Ky):Prop:=∃p,H b=some (.tup [.int k.1, .int k.2.1, .ref p])/\H p=some (.tup (k.2.2.map V.str))/\∀y∈k.2.2,PyData.strOk y=true
theorem KeyO.tr{b:Addr}{k:Ky}(x:KeyO H b k):Tr H (.ref b) (zgW k):=by
 obtain⟨p,e,ep,ok⟩:=x
 refine .tup e rfl λi v d e1 e2=>?_
 match i,e1,e2 with
 |0,e1,e2=>cases e1;cases e2;exact .int _
 |1,e1,e2=>cases e1;cases e2;exact .int _
 |2,e1,e2=>cases e1;cases e2;exact zkg ep ok
structure RawK(h:Heap)(b:Addr)(k:Ky):Prop where
 at_:∃p ti tn jts,IsTup h b #[.int k.1 ti, .int k.2.1 tn, .ref p]/\Vals (k.2.2.map V.str) jts/\IsTup h p jts.toArray/\(∃as,Reads h (.ref p) (.tuple (zx k.2.2)) as)/\(PyData.tuple (zx k.2.2)).canLay0=true
 rd:∃as,Reads h (.ref b) (zgW k) as
 can:(zgW k).canLay0=true
theorem zd7{h:Heap}{xs:Array Value}(x:IsTup h a xs)(k:∀b o,h.get? b=some o->h'.get? b=some o):IsTup h' a xs:=let⟨o,g,r⟩:=x;⟨o,k _ _ g,r⟩
theorem KeyO.raw(I:Inv X pins σ H s){b:Addr}{k:Ky}(x:KeyO H b k)(kp:∀b o,s.heap.get? b=some o->h'.get? b=some o):RawK h' b k:=by
 have t:=x.tr
 obtain⟨p,e,ep,ok⟩:=x
 obtain⟨its,r1,t1,_⟩:=I.tuple (SqT.of e)
 obtain⟨jts,s1,u1,_⟩:=I.tuple (SqT.of ep)
 obtain⟨_,_,_,rfl,x1,x2,x3⟩:=zrl r1
 obtain⟨ti,rfl⟩:=x1
 obtain⟨tn,rfl⟩:=x2
 cases x3
 obtain⟨as,rd1⟩:=(zkg ep ok).reads I (.ref p) rfl
 obtain⟨bs,rd2⟩:=t.reads I (.ref b) rfl
 exact⟨⟨p,ti,tn,jts,zd7 t1 kp,s1,zd7 u1 kp,⟨as,Reads.keeps kp rd1⟩,(zkg ep ok).can⟩,⟨bs,Reads.keeps kp rd2⟩,t.can⟩
theorem zpy{b:Addr}{k1 k2:Ky}(hu:A.units+63<cLine)(x:RawK s.heap a k1)(y:RawK s.heap b k2)(q:Q (.bool (ltK k1 k2)) s):wpAny `V3 A (richCompare .Lt (.ref a) (.ref b)) Q E s:=by
 obtain⟨i1,n1,ps⟩:=k1
 obtain⟨i2,n2,qs⟩:=k2
 obtain⟨p,ti1,tn1,jts,t1,s1,u1,⟨as,rd1⟩,c1⟩:=x.at_
 obtain⟨p2,ti2,tn2,jts2,t2,s2,u2,⟨bs,rd2⟩,c2⟩:=y.at_
 obtain⟨⟨c1',d1,e1,f1⟩,ho,hc,m1,hd⟩:=id t1
 obtain⟨⟨c2',d2,e2,f2⟩,ho2,hc2,m2,hd2⟩:=id t2
 simp only at hc hd hc2 hd2
 subst hc hd hc2 hd2
 have mk:∀(k:Nat) (res:Bool),k<=3->ltK (i1,n1,ps) (i2,n2,qs)=res->
  (∀prog w i x y,i<k->([.int i1 ti1, .int n1 tn1, .ref p]:List Value)[i]?=some x->([.int i2 ti2, .int n2 tn2, .ref p2]:List Value)[i]?=some y->∀(E:Value->Shared->Prop) (Q:Bool->Shared->Prop),Q true s->wpAny `V3 A.in1 (eqBool x y) Q E s)->
  ((k=3/\res=false)\/∃x y,([.int i1 ti1, .int n1 tn1, .ref p]:List Value)[k]?=some x/\([.int i2 ti2, .int n2 tn2, .ref p2]:List Value)[k]?=some y/\(∀prog w (E:Value->Shared->Prop) (Q:Bool->Shared->Prop),Q false s->wpAny `V3 A.in1 (eqBool x y) Q E s)/\∀prog w (E:Value->Shared->Prop) (Q:Value->Shared->Prop),Q (.bool res) s->wpAny `V3 A.in1 (richCompare .Lt x y) Q E s)->
  wpAny `V3 A (richCompare .Lt (.ref a) (.ref b)) Q E s:=by
  intro k res hk3 er he hk
  refine richCompare_meets_room (op:= .Lt) ⟨_,ho,rfl⟩ ⟨_,ho2,rfl⟩ F.slot_tuple_lt F.entry_tuple_lt (F.args_tuple_lt_2 _ _) (zcP a b m1 m2 d1 d2 f1 f2 [.int i1 ti1, .int n1 tn1, .ref p] [.int i2 ti2, .int n2 tn2, .ref p2] k res) ⟨ho,ho2,he,hk3,hk3,?_,⟨(λx=>nomatch x),by rw[er] at q;exact q⟩⟩ ()
  rcases hk with⟨h1,h2⟩|h
  ·exact .inl ⟨h1,by rw[h2];rfl⟩
  ·exact .inr h
 have intE:∀{i j:Int} {t t':Tok} {b:Bool} (e:(i==j)=b) (prog:Program) (w:World) (E:Value->Shared->Prop) (Q:Bool->Shared->Prop),Q b s->wpAny `V3 A.in1 (eqBool (.int i t) (.int j t')) Q E s:=λe prog w E Q hq=>wpAny_eqBool_int (by rw[e];exact hq)
 have tupE:∀{b:Bool} (e:decide (ps=qs)=b) (prog:Program) (w:World) (E:Value->Shared->Prop) (Q:Bool->Shared->Prop),Q b s->wpAny `V3 A.in1 (eqBool (.ref p) (.ref p2)) Q E s:=λ{b} e prog w E Q hq=>SeqAt.eqAt_reads _ _ A.in1 s _ _ _ _ rd1 rd2 c1 c2 (by
  have:=V1 (Nat.min_le_left (PyData.tuple (zx ps)).depth (PyData.tuple (zx qs)).depth) zfo
  show A.units+1+_<cLine
  simp only at *
  lia) prog w E Q (by rw[zdF,e];exact hq)
 by_cases hi:i1=i2
 ·by_cases hn:n1=n2
  ·by_cases hq:ps=qs
   ·refine mk 3 false (P0 _) (by unfold ltK;rw[R0 hi,R0 hn];subst hq;exact zhZ _) (λprog w i x y h3 hx hy E Q hQ=>?_) (.inl ⟨rfl,rfl⟩)
    match i,h3,hx,hy with
    |0,_,hx,hy=>cases hx;cases hy;exact intE (by simp[hi]) prog w E Q hQ
    |1,_,hx,hy=>cases hx;cases hy;exact intE (by simp[hn]) prog w E Q hQ
    |2,_,hx,hy=>cases hx;cases hy;exact tupE (Y0 hq) prog w E Q hQ
   ·refine mk 2 (ltL ps qs) () (by unfold ltK;rw[R0 hi,R0 hn]) (λprog w i x y h3 hx hy E Q hQ=>?_) (.inr ⟨_,_,rfl,rfl,tupE (E1 hq),λprog w E Q hQ=>zn9 s1 s2 u1 u2 (by show A.units+1<cLine;lia) hQ⟩)
    match i,h3,hx,hy with
    |0,_,hx,hy=>cases hx;cases hy;exact intE (by simp[hi]) prog w E Q hQ
    |1,_,hx,hy=>cases hx;cases hy;exact intE (by simp[hn]) prog w E Q hQ
  ·refine mk 1 (decide (n1<n2)) () (by unfold ltK;rw[R0 hi,N0 hn]) (λprog w i x y h3 hx hy E Q hQ=>?_) (.inr ⟨_,_,rfl,rfl,intE (by simp[hn]),λprog w E Q hQ=>(PyProof.Rows.lt_int hQ:wpAny `V3 A.in1 (compareOp .Lt (.int n1 tn1) (.int n2 tn2)) Q E s)⟩)
   match i,h3,hx,hy with
   |0,_,hx,hy=>cases hx;cases hy;exact intE (by simp[hi]) prog w E Q hQ
 ·exact mk 0 (decide (i1<i2)) () (by unfold ltK;rw[N0 hi]) (λprog w i x y h3 hx hy E Q hQ=>absurd h3 (Nat.not_lt_zero _)) (.inr ⟨_,_,rfl,rfl,intE (by simp[hi]),λprog w E Q hQ=>(PyProof.Rows.lt_int hQ:wpAny `V3 A.in1 (compareOp .Lt (.int i1 ti1) (.int i2 ti2)) Q E s)⟩)
theorem znZ{k1 k2:Ky}:(zgW k1).eqv (zgW k2)=decide (k1=k2):=by
 obtain⟨i1,n1,ps⟩:=k1
 obtain⟨i2,n2,qs⟩:=k2
 unfold zgW
 have e:=zdF (xs:=ps) (ys:=qs)
 simp only[PyData.eqv,PyData.eqvAll,Bool.and_true] at e⊢
 rw[e]
 rw[Bool.eq_iff_iff]
 simp[Prod.mk.injEq]
theorem zj0{k:Ky}:(zgW k).depth<=62:=by
 have:=zfo (xs:=k.2.2)
 unfold zgW
 simp only[PyData.depth,PyData.depthAll] at *
 lia
theorem zqu{b:Addr}{k1 k2:Ky}{Q:Bool->Shared->Prop}(hu:A.units+62<cLine)(x:RawK s.heap a k1)(y:RawK s.heap b k2)(q:Q (decide (k1=k2)) s):wpAny `V3 A (eqBool (.ref a) (.ref b)) Q E s:=by
 obtain⟨as,rd1⟩:=x.rd
 obtain⟨bs,rd2⟩:=y.rd
 exact SeqAt.eqAt_reads _ _ A s _ _ _ _ rd1 rd2 x.can y.can (by
  have:=V1 (Nat.min_le_left (zgW k1).depth (zgW k2).depth) zj0
  lia) prog w E Q (by rw[znZ];exact q)
end
section
variable[DecidableEq α]{mm:α->α->α×α}
structure MM(mm:α->α->α×α):Prop where
 two:∀a b,mm a b=(a,b)\/mm a b=(b,a)
 sym:∀a b,mm a b=mm b a
noncomputable def ed(mm:α->α->α×α):List α->List (α×α)
 |a::b::r=>mm a b::ed mm (b::r)
 |_=> []
end
noncomputable def mmS(x y:Str):Str×Str:=(if ltS y x=true then y else x,if ltS x y=true then y else x)
structure SW(g:Str)(ps:List (Str×Str))(w:List Str):Prop where
 nd:w.Nodup
 last:w.getLast?=some g
 ties:∀p∈ed mmS w,p∈ps
structure WOk(hs w:List Str):Prop where
 ne:1<=w.length
 nd:w.Nodup
 mem:∀y∈w,y∈hs
structure Bf(g:Str)(hs:List Str)(ps:List (Str×Str))(ws:List (List Str))(n:Nat):Prop where
 nd:ws.Nodup
 sw:∀w∈ws,SW g ps w
 root:[g]∈ws
 src:∀y r,y::r∈ws->r≠ []->r∈ws.take n
 cl:∀y x r,x::r∈ws.take n->y∈hs->mmS y x∈ps->y∉x::r->y::x::r∈ws
structure Df(g:Str)(ps:List (Str×Str))(M:List Str->Option (List Str))(L F:List (List Str)):Prop where
 nd:L.Nodup
 fnd:F.Nodup
 fsub:∀w∈F,w∈L
 sw:∀w∈L,SW g ps w/\M w≠none
 root:[g]∈L
 src:∀y r,y::r∈L->r≠ []->r∈L/\r∉F
 cl:∀y x r,x::r∈L->x::r∉F->mmS y x∈ps->y∉x::r->M (y::x::r)≠none->y::x::r∈L
structure DfW(g:Str)(ps:List (Str×Str))(M:List Str->Option (List Str))(x:Str)(r ds:List Str)(L F:List (List Str)):Prop where
 nd:L.Nodup
 fnd:F.Nodup
 fsub:∀w∈F,w∈L
 sw:∀w∈L,SW g ps w/\M w≠none
 root:[g]∈L
 src:∀y q,y::q∈L->q≠ []->q∈L/\q∉F
 me:x::r∈L/\x::r∉F
 kids:∀y,y::x::r∈L->y∈ds
 cl:∀y a q,a::q∈L->a::q∉F->a::q≠x::r->mmS y a∈ps->y∉a::q->M (y::a::q)≠none->y::a::q∈L
 clw:∀y∈ds,y∉x::r->M (y::x::r)≠none->y::x::r∈L
section
variable{M:List Str->Option (List Str)}{r ds:List Str}{L F:List (List Str)}
end
theorem Inv.thaw{d:Addr}{u:HO}{o:Obj}(I:Inv X pins σ H s)(e:H d=some (.frz o u))(h0:∀o' u',X.H₀ d≠some (.frz o' u')):Inv X pins σ (upd H d u) s where
 ok:=I.ok
 os:=I.os
 bare:=I.bare
 base:={
  keep:=I.base.keep
  slot:=I.base.slot
  free:=λb o h1 h2 h3=>by
   have:=I.base.free b o h1 h2 h3
   rw[zd λz=>by rw[z,e] at this;cases this];exact this
  there:=I.base.there
  tups:=λb xs h=>by
   have:=I.base.tups b xs h
   rw[zd λz=>by rw[z,e] at this;cases this];exact this
  frzs:=λb o u h=>by
   have:=I.base.frzs b o u h
   have hb:b≠d:=λz=>h0 o u (by rw[←z];exact h)
   rw[zd hb];exact this
  tbls:=λb ps h=>by
   obtain⟨more,this⟩:=I.base.tbls b ps h
   exact⟨more,by rw[zd λz=>by rw[z,e] at this;cases this];exact this⟩}
 loc:=I.loc
 cell:=I.cell
 free:=by
  have:=I.free
  rw[zd λz=>by rw[z,e] at this;cases this];exact this
 freeC:=λx c h=>by
  have:=I.freeC x c h
  rw[zd λz=>by rw[z,e] at this;cases this];exact this
 pin:=λp hp=>by
  obtain⟨h1,h2,h3⟩:=I.pin p hp
  exact⟨h1,by rw[zd λz=>by rw[z,e] at h2;cases h2];exact h2,h3⟩
 hok:=λa o' h=>by
  have st:∀{v:HO},ObjOk X.prog X.w H s.heap a v->ObjOk X.prog X.w (upd H d u) s.heap a v:=λx=>x.stay (λ_ _ _ q=>q) (λb q=>by rw[zd λz=>by rw[z,e] at q;cases q];exact q) (λb xs q=>by rw[zd λz=>by rw[z,e] at q;cases q];exact q)
  by_cases z:a=d
  ·subst z
   rw[zb] at h
   cases h
   exact st (I.hok a _ e).2
  ·rw[zd z] at h
   exact st (I.hok a _ h)
 len:=I.len
theorem zkE{e:Expr}(h:QE X e te):QE X e (λσ H Q=>te σ H λv H'=>∃d o u,H' d=some (.frz o u)/\(∀o' u',X.H₀ d≠some (.frz o' u'))/\Q v (upd H' d u)):=⟨by
 intro pins s σ H Q I q
 refine thn (h.o pins s σ H _ I q) λv s1 zq=>?_
 obtain⟨x,H1,I1,r1,q1⟩:=zq
 obtain⟨d,o,u,e,h0,q1⟩:=q1
 exact⟨x,_,I1.thaw e h0,r1,q1⟩⟩
inductive ChAt(H:Hp):List (Key×V)->List (Str×Option (List Str))->Prop
 |nil:ChAt H [] []
 |cons {x:Str} {v:V} {o:Option (List Str)} {kvs:List (Key×V)} {cs:List (Str×Option (List Str))}:zsC H v o->ChAt H kvs cs->ChAt H ((Sum.inr x,v)::kvs) ((x,o)::cs)
structure Zp3(z TI TO0 i1 i2 i3:Addr):Prop where
 TIz:TI≠z
 TOz:TO0≠z
 i1z:i1≠z
 i2z:i2≠z
 i3z:i3≠z
 TITO:TI≠TO0
 TIi1:TI≠i1
 TIi2:TI≠i2
 TIi3:TI≠i3
 TOi1:TO0≠i1
 TOi2:TO0≠i2
 TOi3:TO0≠i3
 i12:i1≠i2
 i13:i1≠i3
 i23:i2≠i3
structure Pp where
 one:Str
 to:Str
 nr:Int
 way:Option (List Str)
 marks:List Str
structure PpOk(hs:List Str)(ps:List (Str×Str))(p:Pp):Prop where
 one:p.one∈hs
 to:p.to∈hs
 tied:p.to∈zfy ps p.one
 nr:1<=p.nr
 mnm:∀x∈p.marks,zj x=true
 ml:p.marks.length<=90
 non:p.way=none->p.marks=[]
 way:∀w,p.way=some w->1<=w.length/\w.length<=10/\∀x∈w,zj x=true
inductive Ch(hs:List Str)(lks hds:List D):Str->List Str->List Pp->Prop
 |one {to g:Str} {nr:Int} {m:List Str} (h1:1<=nr) (h2:zE [g] (some to) (zp hs hds g) []=some m):Ch hs lks hds to [g] [⟨g,to,nr,some [g],m⟩]
 |more {to y x:Str} {ws:List Str} {nr:Int} {m:List Str} {q:Pp} {P:List Pp} (h:Ch hs lks hds y (x::ws) (q::P)) (h0:zb2 (zH (y::x::ws) q.marks (zp hs lks y))=false) (h1:1<=nr)
   (h2:zE (y::x::ws) (some to) (zp hs hds y) q.marks=some m):Ch hs lks hds to (y::x::ws) (⟨y,to,nr,some (y::x::ws),m⟩::q::P)
section
variable{to:Str}{w:List Str}{P:List Pp}
end
section
variable{R:Result->Shared->Prop}{n:Nat}{P:Nat->Value->Prop}{St:Nat->Heap->Prop}
end
section
open PySem.W PyProof.V
end
theorem zoQ{a b:Str}(h1:leS a b=true)(h2:leS b a=true):a=b:=by
 unfold leS at *
 rw[Bool.not_eq_true'] at *
 by_cases e:a=b
 ·exact e
 ·rw[zcI e h2] at h1;cases h1
theorem zhq:∀{ts:List Str},sortedS ts=true->ts.Pairwise (λa b=>leS a b=true)
 |[],_=> .nil
 |[a],_=>List.pairwise_singleton _ _
 |a::b::ts,h=>by
  have h':(!ltCps b.cps.toList a.cps.toList&&risingS b ts)=true:=h
  rw[W0] at h'
  have hr:sortedS (b::ts)=true:=h'.2
  have hab:leS a b=true:=by
   have h1:ltS b a=false:=by
    have:=h'.1
    rw[ltCps_eq] at this
    simpa using this
   unfold leS
   rw[h1];rfl
  have ih:=zhq hr
  refine List.pairwise_cons.mpr ⟨λz hz=>?_,ih⟩
  rcases X0.mp hz with rfl|hz
  ·exact hab
  ·exact znR a b z hab ((List.pairwise_cons.mp ih).1 z hz)
theorem zqg{l:List Str}(hp:ts.Perm l)(hs:sortedS ts=true):ts=srt l:=
 (hp.trans (zdm l).symm).eq_of_pairwise (λa b _ _ h1 h2=>zoQ h1 h2) (zhq hs) (List.pairwise_mergeSort znR zpB l)
noncomputable def zhn:Sp:=λvs H Q _=>∃(pm:Addr) (v:V) (t:List Str) (w m:Str),vs=[.ref pm,v]/\H pm=some (.tup (t.map V.str))/\Rep H v (.tup [.str w, .str m])/\(∀x∈t,zj x=true)/\zj m=true/\t.length<=60/\∀(p:Addr) (H':Hp),H' p=some (.tup ((zfi t w m).map V.str))->Same H H'->Q (.ref p) H'
def zit(rs:List D):Prop:=rs.length<=90/\∀r∈rs,∃cs x,r= .tup [.tup cs,x]/\(∀c∈cs,zC c=true)/\(x= .tup [.str "keep"]\/∃w m,x= .tup [.str w, .str m]/\(w="put"\/w="strike")/\zj m=true)
theorem zks(h:za6 d=true):∃rs,d= .tup rs/\zit rs:=by
 cases d with
 |tup rs=>
  have h:(decide (rs.length<=90)&&rs.all zbd)=true:=h
  rw[W0] at h
  refine⟨rs,rfl,S0 h.1,λr hr=>?_⟩
  obtain⟨cs,x,rfl,h4,hc,hx⟩:=zhQ (F2.mp h.2 r hr)
  exact⟨cs,x,rfl,hc,zj8 hx⟩
 |_=>cases h
structure Mst(rs:List D)(Pr:Nat->List Str->Prop):Prop where
 skip:∀i t,Pr i t->Pr (i+1) t
 next:∀i t w m cs,Pr i t->rs[i]?=some (.tup [.tup cs, .tup [.str w, .str m]])->Pr (i+1) (zfi t w m)
 ok:∀i t,i<=rs.length->Pr i t->(∀y∈t,zj y=true)/\t.length<=60
noncomputable def zhE:Sp:=λvs H Q _=>∃(v:V) (pw pm:Addr) (vt:V) (x:Str) (ws ms:List Str) (to:Option Str) (g:Str) (hs:List Str) (ps:List (Str×Str)) (lks hds:List D) (j:Nat) (rs:List D) (Pr:Nat->List Str->Prop),vs=[v, .ref pw, .ref pm,vt]/\Rep H v (zaq g hs ps lks hds)/\TownOk g hs ps lks hds/\hs[j]?=some x/\hds[j]?=some (.tup rs)/\zit rs/\Mst rs Pr/\Pr 0 ms/\H pw=some (.tup ((x::ws).map V.str))/\H pm=some (.tup (ms.map V.str))/\TO0 vt to/\(∀y∈x::ws,zj y=true)/\ws.length<=90/\∀(u:V) (H':Hp),zsC H' u (zE (x::ws) to rs ms)->Same H H'->Q u H'
theorem zoO{w m:Str}:(zfi t w m).length<=t.length+1:=by
 unfold zfi
 rw[(zdm _).length_eq]
 unfold zat
 rw[F1]
 have:=List.length_filter_le (λx=>!decide (x=m)) t
 split<;>simp<;>lia
theorem zjx{w m:Str}(h:y∈zfi t w m):y∈t\/y=m:=by
 unfold zfi at h
 rw[(zdm _).mem_iff] at h
 unfold zat at h
 rcases Q2.mp h with h|h
 ·exact .inl (O2.mp h).1
 ·split at h
  ·exact .inr (C2.mp h)
  ·cases h
def Mn(c i:Nat)(t:List Str):Prop:=(∀y∈t,zj y=true)/\t.length<=c+i
theorem zsh(h:zit rs)(hc:c+rs.length<=60):Mst rs (Mn c) where
 skip:=λi t h=>⟨h.1,by have:=h.2;lia⟩
 next:=λi t w m cs M e=>by
  obtain⟨cs',x,e1,_,hx⟩:=h.2 _ (D1 e)
  cases e1
  rcases hx with z|⟨w',m',e2,_,hm⟩
  ·cases z
  ·cases e2
   refine⟨λy hy=>?_,by have:=zoO (t:=t) (w:=w) (m:=m);have:=M.2;lia⟩
   rcases zjx hy with h|h
   ·exact M.1 y h
   ·rw[h];exact hm
 ok:=λi t hi M=>⟨M.1,by have:=M.2;lia⟩
theorem zcO{ws:List Str}{to:Option Str}:∀{rs:List D} {ms t:List Str},(∀r∈rs,∃cs x,r= .tup [.tup cs,x]/\(∀c∈cs,zC c=true)/\(x= .tup [.str "keep"]\/∃w m,x= .tup [.str w, .str m]/\(w="put"\/w="strike")/\zj m=true))->(∀y∈ms,zj y=true)->zE ws to rs ms=some t->∀y∈t,zj y=true
 |[],ms,t,_,h,e=>by rw[zE] at e;cases e;exact h
 |r::rs,ms,t,hr,h,e=>by
  obtain⟨cs,x,rfl,_,hx⟩:=hr r K1
  have hr':=λr h=>hr r (b0 _ h)
  rw[zE] at e
  split at e
  ·rcases hx with rfl|⟨w,m,rfl,_,hm⟩
   ·cases e
   ·exact zcO hr' (λy hy=>(zjx hy).elim (h y) λz=>by rw[z];exact hm) e
  ·exact zcO hr' h e
theorem ztv{N B C:St->Hp->Prop}{R:VK}(k:∀n:St->Hp->Prop,(∀σ' H',sb ⟨N,R,B,C⟩ σ' H'->n σ' H')->sa ⟨n,R,B,C⟩ σ H):zrf sa sb ⟨N,R,B,C⟩ σ H:=k _ λ_ _ h=>h
section
variable{δ ε ζ η θ:Type}
end
theorem zmF(d it:Addr)(hne:d≠it)(o:Obj)(u:HO)(vs:List V)(kvs:List (Key×Value))(ep:Nat)
 (dat:∀h:Heap,h.get? d=some o->h.DictAt (zS P w) d kvs ep) (rel:∀(i:Nat) (v:V),vs[i]?=some v->∃q,kvs[i]?=some q/\RelV v q.2) (hl:vs.length=kvs.length):
 Turn P w K tg (Itd d o u vs) [it] it (λi h=>i<=kvs.length/\h.IsValIter it d i kvs.length ep) where
 mem:=`Z3
 obj:=λi h st b hb=>by
  obtain⟨_,o,e,c,dd⟩:=st
  have:b=it:=by simpa using hb
  subst this
  exact⟨o,e,λv z=>by rw[dd] at z;cases z⟩
 keep:=λi h h' st k=>⟨st.1,st.2.at λo e=>k it `Z3 o e⟩
 item:=by
  intro X hP hw hK hc i pins s σ H E I hf st hg
  subst hP hw hK
  have hi:i<vs.length:=hg.1
  have hm:=dat s.heap ((show ObjOk X.prog X.w H s.heap d (.frz o u)from I.hok d _ hg.2)).1
  obtain⟨⟨k,u'⟩,hu,ru⟩:=rel i vs[i] (by simp[hi])
  obtain⟨f0,f1,f2,f3,f4,f5⟩:=hf it `Z3
  refine wpAny_pyNext_values_item st.2 hm hu λh' st' sb=>?_
  have I1:Inv X pins σ H {s with heap:=h'}:=I.turned (t':=s.toks) (λb o hb e=>(sb.2 b hb).trans e) f0 f1 f3 f4 f5
  obtain⟨o2,e,c,dd⟩:=id st'
  exact⟨u',rfl,zlI (s:={s with heap:=h'}) e c dd ⋯ ⟨vs[i],H,I1,ru,⟨rfl,by simp[hi]⟩,⟨(),st'⟩,λb hb=>(hf b hb).1⟩⟩
 done:=by
   intro X hP hw hK hc i pins s σ H E I hf st hg
   subst hP hw hK
   have hi:vs.length<=i:=hg.1
   have hm:=dat s.heap ((show ObjOk X.prog X.w H s.heap d (.frz o u)from I.hok d _ hg.2)).1
   obtain⟨f0,f1,f2,f3,f4,f5⟩:=hf it `Z3
   exact wpAny_pyNext_values_end (I.ok.hd hc) st.2 hm (Q0 ()) λh' eb=>⟨rfl,I.turned (t':=s.toks) (λb o hb e=>eb b o hb e) f0 f1 f3 f4 f5⟩
 self:=λA i s Q E st h=>wpAny_pyIter_valiter st.2 h
noncomputable def zs9(tl:TE):TI:=λσ H R=>tl σ H λx H1=>∃d kvs,x= .ref d/\H1 d=some (.dK kvs)/\∀(o:Obj),(kvs.map (·.1)).Nodup->R (Itd d o (.dK kvs) (kvs.map (·.2))) (upd H1 d (.frz o (.dK kvs)))
theorem zrN{o:Expr}{to:TE}(ho:QE X o to)(hbase:autoParam (attributeBase o "values" X.env (eval o X.env)=eval o X.env) v3)(hline:autoParam ((apos.endLine==cpos.line)=true) v3):QI X tg (.Call (.Attribute o "values" apos) [] [] cpos) (zs9 to):=⟨by
 intro pins s σ H R I h
 refine wpAny_Call_method0_late hbase hline (thn (ho.o pins s σ H _ I h) λv s1 zq=>?_)
 obtain⟨x,H1,I1,r1,q1⟩:=zq
 obtain⟨d,kvs,rfl,e,q⟩:=q1
 cases r1
 obtain⟨hz,nsys,vs,rel,hD⟩:=zht I1.hok e
 obtain⟨ob,es,ep,g,ex,dat,ko,pr,nd⟩:=id hD
 have ety:s1.TypeIs (.ref d) "dict":=⟨ob,g,ex.1⟩
 have dlt:d<s1.heap.objs.size:=V0 g
 have dat':∀h:Heap,h.get? d=some ob->h.DictAt (zS X.prog X.w) d vs ep:=λh e=>⟨ob,es,e,ex,dat,ko,pr,nd⟩
 have nd':(kvs.map (·.1)).Nodup:=by rw[zhR rel];exact nd
 obtain⟨hll,hget⟩:=zcM rel
 refine⟨"dict","dict.values",F.plainAttrs_dict,F.slot_dict_values,F.type_dict_values,ety,λa z=>?_,Calls.callWith_builtin rfl (PySem.evalArgs_none ?_)⟩
 ·cases z;exact⟨ob,g,ex.2.1⟩
 refine Y2 F.slot_dict_values ety F.entry_dict_values ?_ (F.args_dict_values_1 _)
 refine C0 ?_
 unfold Builtin.Dict.noArgs
 refine C0 (wpAny_notOrdered_dict ety ?_)
 show wpAny _ _ (pure d) _ _ s1
 refine K0 ?_
 show wpAny _ _ (Builtin.Dict.showsAll d>>=_) _ _ s1
 unfold Builtin.Dict.showsAll
 rw[N0 (by rw[nsys];exact L1)]
 refine C0 (K0 ?_)
 refine C0 (D2 (K0 ⟨_,rfl,?_⟩))
 have hv:Heap.IsValuesView (s1.heap.push {cls:= .type "dict_values",data:= .fields #[.ref d]}) s1.heap.objs.size d:=⟨_,O0 _ rfl,rfl,rfl⟩
 have I2:Inv X pins σ (upd H1 d (.frz ob (.dK kvs))) {s1 with heap:=s1.heap.push {cls:= .type "dict_values",data:= .fields #[.ref d]},toks:=s1.toks}:=(I1.frzK e g).kept (t':=s1.toks) λb o e=>G0 _ e
 refine wpAny_pyIter_values (s:={s1 with heap:=s1.heap.push {cls:= .type "dict_values",data:= .fields #[.ref d]}}) hv (dat' _ (G0 _ g)) ?_
 have itn:(s1.heap.push {cls:= .type "dict_values",data:= .fields #[.ref d]}).objs.size=s1.heap.objs.size+1:=Heap.size_push ..
 refine⟨_,[(s1.heap.push {cls:= .type "dict_values",data:= .fields #[.ref d]}).objs.size],_,_,upd H1 d (.frz ob (.dK kvs)),rfl,I2.kept (t':=s1.toks) λb o e=>G0 _ e,zmF d _ (by rw[itn];exact P1 (Nat.lt_succ_of_lt dlt)) ob (.dK kvs) (kvs.map (·.2)) vs ep dat' (λi v hv=>?_) (by rw[D0];exact hll),⟨W1 _,⟨_,O0 _ rfl,rfl,rfl⟩⟩,λb hb=>?_,q ob nd'⟩
 ·rw[U0] at hv
  cases hz:kvs[i]? with
  |none=>rw[hz] at hv;cases hv
  |some p=>
   rw[hz] at hv;cases hv
   have hi:i<vs.length:=by have:=(X1.mp hz).1;lia
   exact⟨vs[i],by simp[hi],(hget i p vs[i] hz (by simp[hi])).2⟩
 ·have:b=(s1.heap.push {cls:= .type "dict_values",data:= .fields #[.ref d]}).objs.size:=by simpa using hb
  subst this
  refine I2.fpOk (P0 _) ?_
  rw[zd (by rw[itn];exact Nat.ne_of_gt (Nat.lt_succ_of_lt dlt))]
  exact I1.hok.fresh (by rw[itn];exact Nat.le_succ _)⟩
section
open PySem.W
end
section
variable{R:Result->Shared->Prop}{n:Nat}{P:Nat->Value->Prop}{St:Nat->Heap->Prop}
def zoG(val:Nat->Value)(lt:Nat->Nat->Bool)(j:Nat)(items:Array Value):Prop:=(j=0/\items= #[])\/∃m<j,items= #[val m,val m]/\∀i<j,i≠m->lt m i=true
theorem zou(W:Walks prog w A.in1 I fp wr n P St)(val:Nat->Value)(lt:Nat->Nat->Bool)(OK:Heap->Prop)(hval:∀i v,P i v->v=val i)(S:Addr)(hSf:S∉fp)
 (frame:∀h h',OK h->(∀b o,b∉wr->b≠S->h.get? b=some o->h'.get? b=some o)->OK h')
 (cmp:∀i j (s':Shared) (Q E:Value->Shared->Prop),i<n->j<n->i≠j->OK s'.heap->Q (.bool (lt i j)) s'->wpAny `V3 A.in1 (richCompare .Lt (val i) (val j)) Q E s')
 (tri:∀i j,i<n->j<n->i≠j->lt i j=false->lt j i=true) (tr:∀i j k,lt i j=true->lt j k=true->lt i k=true) (hn:0<n):
 ∀(k j:Nat) (s:Shared) (items:Array Value) (c:Nat),n -j=k->j<=n->St j s.heap->OK s.heap->zoG val lt j items->s.heap.get? S=some {cls:= .type "list",dict:=none,data:= .seq items c,slots:= #[]}->
 (∀m h' tk,m<n->(∀i<n,i≠m->lt m i=true)->(∀b o,b∉wr->b≠S->s.heap.get? b=some o->h'.get? b=some o)->R (.ok (.ret (val m))) {s with heap:=h',toks:=tk})->
 codeAny `V3 A (.builtin "min.loop" ⟨[.ref I, .none, .ref S],[]⟩) R s:=by
 have hSw:S∉wr:=λh=>hSf (W.sub _ h)
 have nm:(toString "min"++toString ".loop":String)="min.loop":=⋯
 intro k
 induction k with
 |zero=>
  intro j s items c hk hj hst ok hb hS hR
  have ej:j=n:=()
  subst ej
  refine codeAny_builtin F.entry_min_loop ?_
  rw[Around.under_plainId F.plain_min_loop _]
  show wpAny _ A.in1 (seqItems? (.ref S)>>=_) _ _ s
  refine C0 (wpAny_seqItems hS rfl ?_)
  show wpAny _ A.in1 (tryCatch (pyNext (.ref I)) _>>=_) _ _ s
  refine C0 (wpAny_tryCatch (W.done s _ _ hst λh' tk hk'=>?_))
  have hS':=hk' S _ hSw hS
  rcases hb with⟨z,_⟩|⟨m,hm,rfl,hbest⟩
  ·lia
  ·show wpAny _ A.in1 (updateSeq S (λ_=> #[])>>=_) _ _ _
   refine C0 (wpAny_updateSeq hS' rfl (C0 (wpAny_letGo (K0 ?_))))
   exact hR m _ tk hm hbest λb o hbw hbS e=>(Heap.get?_update_other _ _ (Ne.symm hbS)).trans (hk' b o hbw e)
 |succ k ih=>
  intro j s items c hk hj hst ok hb hS hR
  refine codeAny_builtin F.entry_min_loop ?_
  rw[Around.under_plainId F.plain_min_loop _]
  show wpAny _ A.in1 (seqItems? (.ref S)>>=_) _ _ s
  refine C0 (wpAny_seqItems hS rfl ?_)
  show wpAny _ A.in1 (tryCatch (pyNext (.ref I)) _>>=_) _ _ s
  refine C0 (wpAny_tryCatch (W.item j s _ _ () hst λv h' tk hP hst' hk'=>?_))
  have hS':=hk' S _ hSw hS
  have ev:=hval _ _ hP
  subst ev
  have okh:OK h':=frame _ _ ok λb o b1 _ e=>hk' b o b1 e
  have go:∀(its:Array Value) (h2:Heap) (tk2 c2:Nat),zoG val lt (j+1) its->h2.get? S=some {cls:= .type "list",dict:=none,data:= .seq its c2,slots:= #[]}->St (j+1) h2->(∀b o,b∉wr->b≠S->s.heap.get? b=some o->h2.get? b=some o)->
   codeAny `V3 A (.builtin "min.loop" ⟨[.ref I, .none, .ref S],[]⟩) R {s with heap:=h2,toks:=tk2}:=λits h2 tk2 c2 hb2 hS2 st2 k2=>
   ih (j+1) {s with heap:=h2,toks:=tk2} its c2 () () st2 (frame _ _ ok k2) hb2 hS2 λm h3 tk3 hm hv k3=>hR m h3 tk3 hm hv λb o b1 b2 e=>k3 b o b1 b2 (k2 b o b1 b2 e)
  have put:∀(its:Array Value) (tk2:Nat),zoG val lt (j+1) its->codeAny `V3 A (.builtin "min.loop" ⟨[.ref I, .none, .ref S],[]⟩) R {s with heap:=h'.update S (Obj.mapSeq λ_=>its),toks:=tk2}:=λits tk2 hb2=>
   go its _ tk2 _ hb2 (Heap.get?_update_self _ hS' rfl) (W.frame _ _ _ hst' λb hbf o e=>(Heap.get?_update_other _ _ (λh:S=b=>hSf (by rw[h];exact hbf))).trans e) λb o b1 b2 e=>(Heap.get?_update_other _ _ (Ne.symm b2)).trans (hk' b o b1 e)
  rcases hb with⟨z,rfl⟩|⟨m,hm,rfl,hbest⟩
  ·subst z
   show wpAny _ A.in1 (updateSeq S (λ_=> #[val 0,val 0])>>=_) _ _ _
   refine C0 (wpAny_updateSeq hS' rfl ?_)
   rw[nm]
   exact K0 ⟨plainId_quiet F.plain_min_loop _,put _ _ (.inr ⟨0,(),rfl,λi hi ne=>()⟩)⟩
  ·show wpAny _ A.in1 (tryCatch (holding [val j,val j] (richCompare .Lt (val j) (val m)>>=_)) _>>=_) _ _ _
   refine C0 (wpAny_tryCatch (X2 (C0 (cmp j m {s with heap:=h',toks:=tk} _ _ () () () okh ?_))))
   refine C0 (X2 (wpAny_truthy_bool ?_))
   refine C0 (wpAny_letGo (K0 ?_))
   cases hbb:lt j m with
   |true=>
    simp only[if_true]
    refine C0 (wpAny_updateSeq hS' rfl (C0 (wpAny_letGo ?_)))
    rw[nm]
    refine K0 ⟨plainId_quiet F.plain_min_loop _,put _ _ (.inr ⟨j,(),rfl,λi hi ne=>?_⟩)⟩
    by_cases e:i=m
    ·rw[e];exact hbb
    ·exact tr _ _ _ hbb (hbest i () e)
   |false=>
    simp only[B3,if_false]
    refine C0 (wpAny_letGo ?_)
    rw[nm]
    refine K0 ⟨plainId_quiet F.plain_min_loop _,go _ _ _ c (.inr ⟨m,(),rfl,λi hi ne=>?_⟩) hS' hst' λb o b1 _ e=>hk' b o b1 e⟩
    by_cases e:i=j
    ·rw[e];exact tri _ _ () () () hbb
    ·exact hbest i () ne
end
theorem zmv(a:Value):argsOk "min" ⟨[a],[]⟩:=by unfold argsOk;kernel_rfl
theorem call_minL{its:Array Value}(hA:A.handled=none)(hl:s.heap.IsList l its)(val:Nat->Value)(lt:Nat->Nat->Bool)(hval:∀(i:Nat) (v:Value),its[i]?=some v->v=val i)(hn:0<its.size)
 (cmp:∀i j (s':Shared) (Q E:Value->Shared->Prop),i<its.size->j<its.size->i≠j->(∀b o,s.heap.get? b=some o->s'.heap.get? b=some o)->Q (.bool (lt i j)) s'->wpAny `V3 A.in1 (richCompare .Lt (val i) (val j)) Q E s')
 (tri:∀i j,i<its.size->j<its.size->i≠j->lt i j=false->lt j i=true) (tr:∀i j k,lt i j=true->lt j k=true->lt i k=true)
 (h:∀m h' tk,m<its.size->(∀i<its.size,i≠m->lt m i=true)->(∀b o,s.heap.get? b=some o->h'.get? b=some o)->Q (val m) {s with heap:=h',toks:=tk}):
 wpAny `V3 A (call (.builtin "min") [.ref l]) Q E s:=by
 have nm:(toString "min"++toString ".loop":String)="min.loop":=⋯
 refine wpAny_call (codeAny_call_builtin F.plain_min F.entry_min ?_)
 have ck:checkBuiltinCall "min" ⟨[.ref l],[]⟩=pure Unit.unit:=by
  simp only[checkBuiltinCall,F.kind_min]
  have ha:=zmv (.ref l)
  unfold argsOk at ha
  cases hsig:Manifest.signature? "min"with
  |none=>rfl
  |some sig=>rw[hsig] at ha;exact ha
 refine wpAny_of_eq ck ?_
 have bp:Builtin.Builtins.bindParams "min" ["key","default"] 0 ⟨[],[]⟩=pure [none,none]:=by rfl
 show wpAny _ A.in1 (Builtin.Builtins.bindParams "min" ["key","default"] 0 ⟨[],[]⟩>>=_) _ _ s
 refine C0 (wpAny_of_eq bp ?_)
 refine C0 (K0 ?_)
 refine C0 (wpAny_pyIter_list hl ?_)
 refine C0 (D2 ?_)
 rw[nm]
 have hp:l≠s.heap.objs.size:=P1 (by obtain⟨o,ho,_⟩:=hl;exact V0 ho)
 have sz:(s.heap.push {cls:= .type "list_iterator",data:= .fields #[.ref l, .int 0 0]}).objs.size=s.heap.objs.size+1:=Heap.size_push ..
 have llt:l<s.heap.objs.size:=by obtain⟨o,ho,_⟩:=hl;exact V0 ho
 refine K0 ⟨plainId_quiet F.plain_min_loop _,?_⟩
 have nw:∀{b:Addr} {o:Obj},s.heap.get? b=some o->b∉ [s.heap.objs.size]:=λ{b o} e z=>by
  have:b=s.heap.objs.size:=by simpa using z
  exact absurd (V0 e) (by rw[this];exact Nat.lt_irrefl _)
 have nS:∀{b:Addr} {o:Obj},s.heap.get? b=some o->b≠(s.heap.push {cls:= .type "list_iterator",data:= .fields #[.ref l, .int 0 0]}).objs.size:=λ{b o} e z=>by
  rw[sz] at z
  exact absurd (V0 e) (by rw[z];exact Nat.not_lt.mpr (Nat.le_succ _))
 refine zou (Walks.list (A:=A.in1) (show A.in1.handled=none from hA) s.heap.objs.size l hp its) val lt (λh=>∀b o,s.heap.get? b=some o->h.get? b=some o) (λi v e=>hval i v e) _ ?_ (λh h' ok k b o e=>k b o (nw e) (nS e) (ok b o e)) (λi j s' Q E hi hj ne ok q=>cmp i j s' Q E hi hj ne ok q) tri tr hn _ 0 _ #[] 0 rfl (W1 _) ?_ ?_ (.inl ⟨rfl,rfl⟩) (O0 _ rfl) λm h' tk hm hv k=>h m h' tk hm hv λb o e=>k b o (nw e) (nS e) (G0 _ (G0 _ e))
 ·show (s.heap.push _).objs.size∉_
  rw[sz]
  simp only[X0,E2,or_false,not_or]
  exact⟨Nat.ne_of_gt (Nat.lt_succ_self _),Nat.ne_of_gt (Nat.lt_succ_of_lt llt)⟩
 ·refine ⟨⟨_,G0 _ (O0 _ rfl),rfl,rfl⟩,?_⟩
  obtain⟨o,ho,r⟩:=hl
  exact⟨o,G0 _ (G0 _ ho),r⟩
 ·exact λb o e=>G0 _ (G0 _ e)
theorem zbQ{N:List α}(hN:N.Nodup){x:α}(a:N[i]?=some x)(b:N[j]?=some x):i=j:=by
 obtain⟨h1,e1⟩:=X1.mp a
 obtain⟨h2,e2⟩:=X1.mp b
 exact(List.getElem_inj hN).mp (e1.trans e2.symm)
def KmO(H:Hp)(b:Addr)(k:Ky)(v:V):Prop:=∃t,H b=some (.tup [.ref t,v])/\KeyO H t k
structure RawKm(h:Heap)(b:Addr)(k:Ky):Prop where
 at_:∃t u,IsTup h b #[.ref t,u]/\RawK h t k
theorem znJ{b:Addr}{k1 k2:Ky}(hu:A.units+64<cLine)(x:RawKm s.heap a k1)(y:RawKm s.heap b k2)(ne:k1≠k2)(q:Q (.bool (ltK k1 k2)) s):wpAny `V3 A (richCompare .Lt (.ref a) (.ref b)) Q E s:=by
 obtain⟨t,u,ha,x⟩:=x.at_
 obtain⟨t',u',hb,y⟩:=y.at_
 obtain⟨⟨c1,d1,e1,f1⟩,ho,hc,n,hd⟩:=id ha
 obtain⟨⟨c2,d2,e2,f2⟩,ho2,hc2,n2,hd2⟩:=id hb
 simp only at hc hd hc2 hd2
 subst hc hd hc2 hd2
 refine richCompare_meets_room (op:= .Lt) ⟨_,ho,rfl⟩ ⟨_,ho2,rfl⟩ F.slot_tuple_lt F.entry_tuple_lt (F.args_tuple_lt_2 _ _) (zcP a b n n2 d1 d2 f1 f2 [.ref t,u] [.ref t',u'] 0 (ltK k1 k2)) ⟨ho,ho2,λprog w i x y hi=>absurd hi (Nat.not_lt_zero _),W1 _,W1 _, .inr ⟨_,_,rfl,rfl,λprog w E Q hq=>?_,λprog w E Q hq=>?_⟩,⟨(λx=>nomatch x),q⟩⟩ ()
 ·refine zqu (by show A.units+1+62<cLine;lia) x y ?_
  rw[E1 ne];exact hq
 ·exact zpy (by show A.units+1+63<cLine;lia) x y hq
theorem KmO.raw(I:Inv X pins σ H s){b:Addr}{k:Ky}(x:KmO H b k v)(kp:∀b o,s.heap.get? b=some o->h'.get? b=some o):RawKm h' b k:=by
 obtain⟨t,e,o⟩:=x
 obtain⟨its,r1,t1,_⟩:=I.tuple (SqT.of e)
 obtain⟨_,_,rfl,x1,x2⟩:=zhw r1
 cases x1
 exact⟨⟨t,_,zd7 t1 kp,o.raw I kp⟩⟩
def zrG:List V->Hp->VK->Prop:=λxs H Q=>∃(l:Addr) (bs:List Addr) (ks:List Ky),xs=[.ref l]/\H l=some (.lst (bs.map V.ref))/\bs.length=ks.length/\(∀(i:Nat) (b:Addr) (k:Ky),bs[i]?=some b->ks[i]?=some k->∃v,KmO H b k v)/\ks.Nodup/\0<ks.length/\
 ∀(m:Nat) (b:Addr) (k:Ky),bs[m]?=some b->ks[m]?=some k->(∀k'∈ks,k'≠k->ltK k k'=true)->Q (.ref b) H
theorem zka(hc:X.calm=true)(hu:X.A.units+70<cLine):CallR X (.builtin "min") zrG:=by
 intro pins s σ H xs us Q I r h
 obtain⟨l,bs,ks,rfl,hl,hlen,hk,nd,h0,q⟩:=h
 obtain⟨u,rfl,ru⟩:=zc5 r
 cases ru
 obtain⟨its,rv,pl,hz⟩:=I.list (SqL.of hl)
 have ei:=zmu rv
 subst ei
 have sz:(bs.map Value.ref).toArray.size=ks.length:=by simp[hlen]
 have gb:∀i,i<ks.length->bs[i]?=some (bs.getD i 0):=λi h=>by simp[show i<bs.length by lia]
 have gk:∀i,i<ks.length->ks[i]?=some (ks.getD i (0,0,[])):=λi h=>by simp[h]
 refine call_minL (I.ok.hd hc) pl.isList (λi=> .ref (bs.getD i 0)) (λi j=>ltK (ks.getD i (0,0,[])) (ks.getD j (0,0,[]))) (λi v e=>?_) (by rw[sz];exact h0) (λi j s' Q E hi hj ne kp hq=>?_) (λi j hi hj ne e=>?_) (λi j k a b=>zol a b) λm h' tk hm hb kp=>?_
 ·rw[List.getElem?_toArray,U0] at e
  cases e2:bs[i]? with
  |none=>rw[e2] at e;cases e
  |some b=>rw[e2] at e;cases e;simp[List.getD,e2]
 ·rw[sz] at hi hj
  obtain⟨v,o1⟩:=hk i _ _ (gb i hi) (gk i hi)
  obtain⟨v',o2⟩:=hk j _ _ (gb j hj) (gk j hj)
  refine znJ (by show X.A.units+1+64<cLine;lia) (o1.raw I kp) (o2.raw I kp) (λz=>ne ?_) hq
  have h1:=gk i hi
  rw[z] at h1
  exact zbQ nd h1 (gk j hj)
 ·rw[sz] at hi hj
  refine znt (λz=>ne ?_) e
  have h1:=gk i hi
  rw[z] at h1
  exact zbQ nd h1 (gk j hj)
 ·rw[sz] at hm hb
  refine⟨.ref _,_,I.kept (t':=tk) kp,rfl,q m _ _ (gb m hm) (gk m hm) λk' hk' ne=>?_⟩
  obtain⟨i,hi,e⟩:=K2 hk'
  have:=hb i hi λz=>ne (by rw[←e,←z];simp[hi])
  rw[←e]
  simpa[List.getD,hi] using this
inductive TrX(K:W.Frag)(H:Hp):V->PyData->Prop
 |non:TrX K H .non .none
 |int (i:Int):TrX K H (.int i) (.int i)
 |str (x:Str) (h:PyData.strOk x=true):TrX K H (.str x) (.str x)
 |tup {p:Addr} {vs:List V} {ds:List PyData} (e:SqT K H p vs) (hl:vs.length=ds.length) (h:∀(i:Nat) (v:V) (d:PyData),vs[i]?=some v->ds[i]?=some d->TrX K H v d):TrX K H (.ref p) (.tuple ds)
 |lst {p:Addr} {vs:List V} {ds:List PyData} (e:H p=some (.lst vs)) (hl:vs.length=ds.length) (h:∀(i:Nat) (v:V) (d:PyData),vs[i]?=some v->ds[i]?=some d->TrX K H v d):TrX K H (.ref p) (.list ds)
noncomputable abbrev Hr:=Int×Option WM
noncomputable abbrev Tb:=List (Str×Hr)
noncomputable abbrev Lt:=Str×Hr
noncomputable def zA(m:Tb)(x:Str):Option Hr:=(m.find? λp=>decide (p.1=x)).map (·.2)
noncomputable def zc9(m:Tb)(x:Str)(r:Hr):Tb:=if(m.any λp=>decide (p.1=x))=true then m.map (λp=>if p.1=x then(p.1,r)else p)else m ++ [(x,r)]
theorem zae{p:Str×Hr}{m:Tb}(e:p.1=x):zA (p::m) x=some p.2:=by simp[zA,List.find?_cons,e]
theorem zao{p:Str×Hr}{m:Tb}(e:¬p.1=x):zA (p::m) x=zA m x:=by simp[zA,List.find?_cons,e]
theorem zcz(x:Str):∀m:Tb,(m.any λp=>decide (p.1=x))=(zA m x).isSome
 |[]=>rfl
 |p::m=>by
  rw[List.any_cons,zcz x m]
  by_cases e:p.1=x
  ·rw[zae e,Y0 e];rfl
  ·rw[zao e,E1 e];rfl
theorem zhv(x y:Str)(r:Hr):∀m:Tb,zA (m.map λp=>if p.1=x then(p.1,r)else p) y=(zA m y).map λz=>if y=x then r else z
 |[]=>rfl
 |p::m=>by
  rw[Z1]
  by_cases e:p.1=y
  ·by_cases e2:p.1=x
   ·rw[R0 e2,zae (p:=(p.1,r)) e,zae e,Option.map_some,R0 (by rw[←e];exact e2)]
   ·rw[N0 e2,zae e,zae e,Option.map_some,N0 (by rw[←e];exact e2)]
  ·rw[zao e,←zhv x y r m]
   by_cases e2:p.1=x
   ·rw[R0 e2,zao (p:=(p.1,r)) e]
   ·rw[N0 e2,zao e]
theorem zgq(x y:Str)(r:Hr):∀m:Tb,zA m x=none->zA (m ++ [(x,r)]) y=if y=x then some r else zA m y
 |[],_=>by
  by_cases e:y=x
  ·rw[R0 e,e];exact zae rfl
  ·rw[N0 e];exact zao (p:=(x,r)) (λz=>e z.symm)
 |p::m,h=>by
  by_cases e2:p.1=x
  ·rw[zae e2] at h;cases h
  ·rw[zao e2] at h
   rw[List.cons_append]
   by_cases e:p.1=y
   ·rw[zae e,zae e,N0 (by rw[←e];exact e2)]
   ·rw[zao e,zao e];exact zgq x y r m h
theorem zmD(m:Tb)(x y:Str)(r:Hr):zA (zc9 m x r) y=if y=x then some r else zA m y:=by
 unfold zc9
 rw[zcz]
 cases h:zA m x with
 |none=>rw[N0 `Z3];exact zgq x y r m h
 |some z=>
  rw[R0 (show(some z).isSome=true from rfl),zhv]
  by_cases e:y=x
  ·rw[e,h,R0 rfl,Option.map_some,R0 rfl]
  ·rw[N0 e];cases zA m y with
   |none=>rfl
   |some w=>rw[Option.map_some,N0 e]
theorem zhD(m:Tb)(x:Str)(r:Hr):(zA m x=none->zc9 m x r=m ++ [(x,r)])/\(zA m x≠none->(zc9 m x r).map (·.1)=m.map (·.1)):=by
 unfold zc9
 rw[zcz]
 refine⟨λh=>by rw[h,N0 `Z3],λh=>?_⟩
 cases e:zA m x with
 |none=>exact absurd e h
 |some z=>
  rw[R0 (show(some z).isSome=true from rfl),List.map_map]
  refine List.map_congr_left λp _=>?_
  show(if p.1=x then(p.1,r)else p).1=p.1
  split<;>rfl
theorem zfd{m:Tb}{r:Hr}(h:zA m x=some r):(x,r)∈m:=by
 unfold zA at h
 cases e:m.find? λp=>decide (p.1=x)with
 |none=>rw[e] at h;cases h
 |some p=>
  rw[e] at h
  cases h
  have:=List.mem_of_find?_eq_some e
  have h2:p.1=x:=by simpa using List.find?_some e
  rw[←h2];exact this
theorem zeN:∀{m:Tb} {x:Str} {r:Hr},(m.map (·.1)).Nodup->(x,r)∈m->zA m x=some r
 |p::m,x,r,nd,h=>by
  rw[Z1,U2] at nd
  rcases X0.mp h with h|h
  ·rw[←h];exact zae rfl
  ·rw[zao λz=>nd.1 (by rw[z];exact y1.mpr ⟨_,h,rfl⟩)]
   exact zeN nd.2 h
theorem zms{m:Tb}:x∈m.map (·.1)↔zA m x≠none:=by
 constructor
 ·intro h z
  obtain⟨p,hp,rfl⟩:=y1.mp h
  have:=zcz p.1 m
  rw[z] at this
  have h2:=List.any_eq_false.mp this p hp
  exact h2 (Y0 rfl)
 ·intro h
  cases e:zA m x with
  |none=>exact absurd e h
  |some r=>exact y1.mpr ⟨_,zfd e,rfl⟩
theorem zll{m:Tb}{r:Hr}(nd:(m.map (·.1)).Nodup):((zc9 m x r).map (·.1)).Nodup:=by
 cases e:zA m x with
 |none=>
  rw[(zhD m x r).1 e,List.map_append]
  refine List.nodup_append.mpr ⟨nd,`Z3,λa ha b hb z=>?_⟩
  rw[Z1,List.map_nil,C2] at hb
  rw[z,hb] at ha
  exact zms.mp ha e
 |some z=>rw[(zhD m x r).2 (by rw[e];exact λz=>nomatch z)];exact nd
noncomputable def zcN(r:Option Hr):Int:=match r with|none=>0|some r=>r.1
noncomputable def zdU(m:Tb)(l:Lt):Tb:=if l.2.1<=zcN (zA m l.1)then m else zc9 m l.1 l.2
noncomputable def zdw(nm:Str)(rs:List D)(p:Str×Hr):Option WM:=match p.2.2 with|none=>none|some (w,ms)=>if nm∈w\/zb2 (zH (nm::w) ms rs)=true then none else some (nm::w,ms)
noncomputable def zbU(nm:Str)(rs:List D)(m:Tb):List WM:=m.filterMap (zdw nm rs)
def zgK(rs:List D)(es:List WM):Option WM->Prop
 |none=>es=[]
 |some e=>e∈es/\∀e'∈es,kE rs e'≠kE rs e->ltK (kE rs e) (kE rs e')=true
theorem zmK{es es':List WM}(h:∀e,e∈es↔e∈es')(u:∀e∈es,∀e'∈es,e.1=e'.1->e=e'){b b':Option WM}(h1:zgK rs es b)(h2:zgK rs es' b'):b=b':=by
 cases b with
 |none=>
  cases b' with
  |none=>rfl
  |some e'=>
   have h1:es=[]:=h1
   have:=(h e').mpr h2.1
   rw[h1] at this;cases this
 |some e=>
  cases b' with
  |none=>
   have h2:es'=[]:=h2
   have:=(h e).mp h1.1
   rw[h2] at this;cases this
  |some e'=>
   by_cases c:kE rs e'=kE rs e
   ·have e1:e'.1=e.1:=Z2 (λk:Ky=>k.2.2) c
    rw[u e h1.1 e' ((h _).mpr h2.1) e1.symm]
   ·have l1:=h1.2 e' ((h _).mpr h2.1) c
    have l2:=h2.2 e ((h _).mp h1.1) (Ne.symm c)
    rw[zpC l1] at l2;cases l2
theorem zhd{nm:Str}{m:Tb}(nd:(m.map (·.1)).Nodup){e:WM}:e∈zbU nm rs m↔∃x r,zA m x=some r/\zdw nm rs (x,r)=some e:=by
 unfold zbU
 rw[List.mem_filterMap]
 exact⟨λ⟨⟨x,r⟩,h,o⟩=>⟨x,r,zeN nd h,o⟩,λ⟨x,r,h,o⟩=>⟨(x,r),zfd h,o⟩⟩
noncomputable def zdl(rs:List D)(b:Option WM)(o:Str):Option WM:=match b with|none=>none|some (w,ms)=>(zE w (some o) rs ms).map λt=>(w,t)
noncomputable def zag(tm:Tb)(o:Str):Option WM:=match zA tm o with|none=>none|some r=>r.2
noncomputable def zca(rs:List D)(b:Option WM)(tm:Tb)(o:Str):Tb:=if zdl rs b o=zag tm o then tm else zc9 tm o (zcN (zA tm o)+1,zdl rs b o)
noncomputable def zfN(rs:List D)(b:Option WM)(tm:Tb)(o:Str):List Lt:=if zdl rs b o=zag tm o then [] else [(o,zcN (zA tm o)+1,zdl rs b o)]
theorem zgc{b:Option WM}{tm:Tb}{o:Str}:zag (zca rs b tm o) y=if y=o then zdl rs b o else zag tm y:=by
 unfold zca
 split
 ·rename_i h
  by_cases e:y=o
  ·rw[R0 e,e,h]
  ·rw[N0 e]
 ·show (match zA (zc9 tm o _) y with|none=>none|some r=>r.2)=_
  rw[zmD]
  by_cases e:y=o
  ·rw[R0 e,R0 e]
  ·rw[N0 e,N0 e];rfl
noncomputable def zeM(T:List Lt)(o:Str):Option WM:=match(T.reverse.find? λp=>decide (p.1=o))with|none=>none|some p=>p.2.2
theorem zko{T:List Lt}{p:Lt}{o:Str}:zeM (T ++ [p]) o=if p.1=o then p.2.2 else zeM T o:=by
 unfold zeM
 rw[List.reverse_append,List.reverse_singleton,List.singleton_append,List.find?_cons]
 by_cases e:p.1=o
 ·rw[Y0 e,R0 e]
 ·rw[E1 e,N0 e]
theorem zl0{b:Option WM}{tm:Tb}{T:List Lt}{o:Str}(h:∀y,zeM T y=zag tm y)(y:Str):zeM (T ++zfN rs b tm o) y=zag (zca rs b tm o) y:=by
 rw[zgc]
 unfold zfN
 split
 ·rename_i e
  rw[List.append_nil,h]
  by_cases c:y=o
  ·rw[R0 c,c,e]
  ·rw[N0 c]
 ·rw[zko]
  by_cases c:y=o
  ·rw[R0 c,R0 c.symm]
  ·rw[N0 c,N0 (λz=>c z.symm),h]
noncomputable def zbm(rs:List D)(b:Option WM)(tm:Tb)(os:List Str):Tb:=os.foldl (zca rs b) tm
noncomputable def za2(rs:List D)(b:Option WM):Tb->List Str->List Lt
 |_,[]=> []
 |tm,o::os=>zfN rs b tm o ++za2 rs b (zca rs b tm o) os
theorem zkA{b:Option WM}{tm:Tb}{os:List Str}{o:Str}:zbm rs b tm (os ++ [o])=zca rs b (zbm rs b tm os) o:=by unfold zbm;rw[List.foldl_append];rfl
theorem zhl{rs:List D}{b:Option WM}{o:Str}:∀{os:List Str} {tm:Tb},za2 rs b tm (os ++ [o])=za2 rs b tm os ++zfN rs b (zbm rs b tm os) o
 |[],tm=>by rw[List.nil_append,za2,za2,za2,List.append_nil,List.nil_append];rfl
 |p::os,tm=>by rw[List.cons_append,za2,zhl (os:=os),za2,List.append_assoc];rfl
theorem znn{b:Option WM}{tm:Tb}{o:Str}:(zfN rs b tm o).length<=1:=by unfold zfN;split<;>simp
theorem zdc{rs:List D}{b:Option WM}:∀{os:List Str} {tm:Tb},(za2 rs b tm os).length<=os.length
 |[],tm=>P0 _
 |p::os,tm=>by
  rw[za2,F1,J1]
  have h1:=znn (rs:=rs) (b:=b) (tm:=tm) (o:=p)
  have h2:=zdc (rs:=rs) (b:=b) (os:=os) (tm:=zca rs b tm p)
  lia
theorem zd6{rs:List D}{b:Option WM}{y:Str}:∀{os:List Str} {tm:Tb},zag (zbm rs b tm os) y=if y∈os then zdl rs b y else zag tm y
 |[],tm=>by rw[N0 `Z3];rfl
 |p::os,tm=>by
  show zag (zbm rs b (zca rs b tm p) os) y=_
  rw[zd6 (os:=os),zgc]
  by_cases h1:y∈os
  ·rw[R0 h1,R0 (b0 _ h1)]
  ·rw[N0 h1]
   by_cases h2:y=p
   ·rw[R0 h2,R0 (by rw[h2];exact K1),h2]
   ·rw[N0 h2,N0 (λz=>(X0.mp z).elim h2 h1)]
theorem zeV{rs:List D}{b:Option WM}:∀{os:List Str} {tm:Tb} {T:List Lt},(∀y,zeM T y=zag tm y)->∀y,zeM (T ++za2 rs b tm os) y=zag (zbm rs b tm os) y
 |[],tm,T,h,y=>by rw[za2,List.append_nil];exact h y
 |p::os,tm,T,h,y=>by
  rw[za2,←List.append_assoc]
  exact zeV (os:=os) (zl0 h) y
structure TbOk(hs:List Str)(ok:Str->Hr->Prop)(tm:Tb):Prop where
 nd:(tm.map (·.1)).Nodup
 mem:∀p∈tm,p.1∈hs/\ok p.1 p.2
theorem TbOk.nil{ok:Str->Hr->Prop}:TbOk hs ok []:=⟨List.nodup_nil,λ_ z=>nomatch z⟩
theorem zhj{m:Tb}{r:Hr}{p:Str×Hr}(h:p∈zc9 m x r):p∈m\/p=(x,r):=by
 unfold zc9 at h
 split at h
 ·obtain ⟨q,hq,e⟩:=y1.mp h
  by_cases c:q.1=x
  ·rw[R0 c] at e;exact .inr (by rw[←e,c])
  ·rw[N0 c] at e;exact .inl (by rw[←e];exact hq)
 ·rcases Q2.mp h with h|h
  ·exact .inl h
  ·exact .inr (C2.mp h)
theorem TbOk.put{ok:Str->Hr->Prop}{tm:Tb}{r:Hr}(h:TbOk hs ok tm)(hx:x∈hs)(ho:ok x r):TbOk hs ok (zc9 tm x r):=
 ⟨zll h.nd,λp hp=>by
   rcases zhj hp with h1|h1
   ·exact h.mem p h1
   ·rw[h1];exact⟨hx,ho⟩⟩
theorem TbOk.len{ok:Str->Hr->Prop}{tm:Tb}(h:TbOk hs ok tm):tm.length<=hs.length:=by
 have:=zbR h.nd (m:=hs) λx hx=>by
  obtain⟨p,hp,e⟩:=y1.mp hx
  rw[←e];exact(h.mem p hp).1
 rwa[D0] at this
theorem TbOk.look{ok:Str->Hr->Prop}{tm:Tb}{r:Hr}(h:TbOk hs ok tm)(e:zA tm x=some r):ok x r:=(h.mem _ (zfd e)).2
section
variable{h:Heap}{b:Addr}{k:WKey}{xs:List (WKey×Addr×Value)}
end
inductive Alk(H:Hp):List (Key×V)->List (Key×V)->Prop
 |nil:Alk H [] []
 |cons {k:Key} {v v':V} {d:PyData} {r r':List (Key×V)}:Tr H v d->Tr H v' d->d.depth<=60->Alk H r r'->Alk H ((k,v)::r) ((k,v')::r')
theorem Alk.length{r r':List (Key×V)}(h:Alk H r r'):r.length=r'.length:=by
 induction h with
 |nil=>rfl
 |cons _ _ _ _ ih=>rw[J1,J1,ih]
theorem zlV{K:Type}[DecidableEq K]{A:Around}{s:Shared}{kb:List (K×Value)}:∀{r:List (K×Value)},(∀p∈r,∃y,valueAt kb p.1=some y/\SeqAt.EqAt A s p.2 y true)->W.KeqHits A s kb r true
 |[],_=> .nil
 |(k,v)::r,h=>by
  obtain⟨y,h1,h2⟩:=h (k,v) K1
  exact .hit (e:=true) (b:=true) h1 h2 (zlV λp hp=>h p (b0 _ hp))
noncomputable def zqn(tl:TE):TI:=λσ H R=>tl σ H λx H1=>∃d kvs,x= .ref d/\H1 d=some (.dK kvs)/\∀(o:Obj),(kvs.map (·.1)).Nodup->R (Iti d o (.dK kvs) (kvs.map λp=>(kV p.1,p.2))) (upd H1 d (.frz o (.dK kvs)))
theorem zjO{o:Expr}{to:TE}{k:Nat}{pos2:Pos}(ho:QE X o to)(hbase:autoParam (attributeBase o "items" X.env (eval o X.env)=eval o X.env) v3)(hline:autoParam ((apos.endLine==cpos.line)=true) v3):QI X (.Tuple elts k pos2) (.Call (.Attribute o "items" apos) [] [] cpos) (zqn to):=⟨by
 intro pins s σ H R I h
 refine wpAny_Call_method0_late hbase hline (thn (ho.o pins s σ H _ I h) λv s1 zq=>?_)
 obtain⟨x,H1,I1,r1,q1⟩:=zq
 obtain⟨d,kvs,rfl,e,q⟩:=q1
 cases r1
 obtain⟨hz,nsys,vs,rel,ob,es,ep,g,ex,dat,ko,pr,nd⟩:=zht I1.hok e
 have nd':(kvs.map (·.1)).Nodup:=by rw[zhR rel];exact nd
 obtain⟨hll,hget⟩:=zcM rel
 have vk:Vals (vs.map λkv=>kV kv.1) (es.toList.map (·.key)):=zgA pr
 have ety:s1.TypeIs (.ref d) "dict":=⟨ob,g,ex.1⟩
 have raw:RawE s1.heap d (es.toList.map λe=>(e.key,e.val)) ep:=⟨ob,es,g,ex,dat,rfl⟩
 have dlt:d<s1.heap.objs.size:=V0 g
 refine⟨"dict","dict.items",F.plainAttrs_dict,F.slot_dict_items,F.type_dict_items,ety,λa z=>?_,Calls.callWith_builtin rfl (PySem.evalArgs_none ?_)⟩
 ·cases z;exact⟨ob,g,ex.2.1⟩
 refine Y2 F.slot_dict_items ety F.entry_dict_items (raw_items nsys raw ?_) (F.args_dict_items_1 _)
 have hv:Heap.IsItemsView (s1.heap.push {cls:= .type "dict_items",data:= .fields #[.ref d]}) s1.heap.objs.size d:=⟨_,O0 _ rfl,rfl,rfl⟩
 have raw2:RawE (s1.heap.push {cls:= .type "dict_items",data:= .fields #[.ref d]}) d (es.toList.map λe=>(e.key,e.val)) ep:=⟨ob,es,G0 _ g,ex,dat,rfl⟩
 have I2:Inv X pins σ (upd H1 d (.frz ob (.dK kvs))) {s1 with heap:=s1.heap.push {cls:= .type "dict_items",data:= .fields #[.ref d]},toks:=s1.toks}:=(I1.frzK e g).kept (t':=s1.toks) λb o e=>G0 _ e
 refine raw_items_iter (s:={s1 with heap:=s1.heap.push {cls:= .type "dict_items",data:= .fields #[.ref d]}}) hv raw2 ?_
 have itn:(s1.heap.push {cls:= .type "dict_items",data:= .fields #[.ref d]}).objs.size=s1.heap.objs.size+1:=Heap.size_push ..
 have zl:(es.toList.map λe=>(e.key,e.val)).length=vs.length:=by rw[D0];exact pr.length
 refine⟨_,[(s1.heap.push {cls:= .type "dict_items",data:= .fields #[.ref d]}).objs.size],_,_,upd H1 d (.frz ob (.dK kvs)),rfl,I2.kept (t':=s1.toks) λb o e=>G0 _ e,zkw d _ (by rw[itn];exact P1 (Nat.lt_succ_of_lt dlt)) ob (.dK kvs) (kvs.map λp=>(kV p.1,p.2)) (es.toList.map λe=>(e.key,e.val)) ep es ex dat rfl (λi v hv=>?_) (by rw[zl,D0];exact hll),⟨W1 _,_,_,O0 _ rfl⟩,λb hb=>?_,q ob nd'⟩
 ·rw[U0] at hv
  cases hz:kvs[i]? with
  |none=>rw[hz] at hv;cases hv
  |some p=>
   rw[hz] at hv;cases hv
   have hi:i<vs.length:=by have:=(X1.mp hz).1;lia
   have hie:i<es.toList.length:=by rw[pr.length];exact hi
   obtain⟨r1,r2⟩:=hget i p vs[i] hz (by simp[hi])
   obtain⟨k1,k2⟩:=pr.get? (i:=i) (e:=es.toList[i]) (k:=(vs[i]).1) (v:=(vs[i]).2) (F0 hie) (F0 hi)
   refine⟨_,by rw[U0,F0 hie];rfl,?_,by show RelV p.2 (es.toList[i]).val;rw[k2];exact r2⟩
   obtain⟨u,hu,ru⟩:=vk.get (i:=i) (x:=kV (vs[i]).1) (by rw[U0,F0 hi];rfl)
   rw[U0,F0 hie] at hu
   cases hu
   show RelV (kV p.1) (es.toList[i]).key
   rw[show p.1=(vs[i]).1 from r1]
   exact ru
 ·have:b=(s1.heap.push {cls:= .type "dict_items",data:= .fields #[.ref d]}).objs.size:=by simpa using hb
  subst this
  refine I2.fpOk (P0 _) ?_
  rw[zd (by rw[itn];exact Nat.ne_of_gt (Nat.lt_succ_of_lt dlt))]
  exact I1.hok.fresh (by rw[itn];exact Nat.le_succ _)⟩
theorem ObjOk.there{h:Heap}{o:HO}(x:ObjOk P w H h a o):∃u,h.get? a=some u:=by
 cases o with
 |lst xs=>obtain ⟨_,_,_,_,e⟩:=x;exact⟨_,e⟩
 |tup xs=>obtain ⟨_,_,_,⟨_,e,_⟩,_⟩:=x;exact⟨_,e⟩
 |dK kvs=>obtain ⟨_,_,_,_,o,_,_,e,_⟩:=x;exact⟨_,e⟩
 |dT kvs=>obtain ⟨_,_,_,_,o,_,_,e,_⟩:=x;exact⟨_,e⟩
 |set S n=>obtain ⟨o,_,_,_,e,_⟩:=x;exact⟨_,e⟩
 |ins C dx fs=>obtain ⟨_,_,_,e,_⟩:=x;exact⟨_,e⟩
 |own y=>obtain ⟨_,e⟩:=x;exact⟨_,e⟩
 |xd fs=>obtain ⟨_,⟨_,_,_,e,_⟩,_⟩:=x;exact⟨_,e⟩
 |rng lo hi=>obtain ⟨_,_,_,e⟩:=x;exact⟨_,e⟩
 |frz ob u=>obtain ⟨e,_⟩:=x;exact⟨_,e⟩
 |tbl ps=>exact ⟨_,show h.get? a=some _ from x⟩
 |met f y=>exact ⟨_,show h.get? a=some _ from x⟩
 |ext φ=>obtain ⟨_,⟨_,e⟩,_⟩:=x;exact⟨_,e⟩
theorem HOk.off{h:Heap}(x:HOk P w H h)(e:h.get? a=none):H a=none:=by
 cases q:H a with
 |none=>rfl
 |some u=>obtain ⟨_,z⟩:=(x a u q).there;rw[e] at z;cases z
def Xtr(h0 h:Heap)(H:Hp)(e C:Addr):Prop:=h0.get? e=none/\H e=none/\∃oe vs T oT ts,h.get? e=some oe/\oe.cls= .ref C/\oe.data= .fields vs/\vs[1]?=some (.ref T)/\h0.get? T=none/\H T=none/\T≠e/\h.get? T=some oT/\oT.data= .fields ts/\ts[3]?=some .none
noncomputable def CXe(P:Program)(w:World):CXT:=λouter H s E e s'=>∃a C H',e= .ref a/\s'.os=s.os/\AllBare s'.gens/\Un (frs outer) [] H H' s.heap s'.heap/\HOk P w H' s'.heap/\Xtr s.heap s'.heap H' a C/\E (.ref C) none H'
structure Lv(l:List Addr)(e T:Addr)(h h':Heap):Prop where
 keep:∀b o,h.get? b=some o->b∉l->b≠e->b≠T->h'.get? b=some o
 slot:∀b o,h.get? b=some o->b∈l->∃sl,h'.get? b=some {o with slots:=sl}
 there:∀b o,h.get? b=some o->b≠T->∃o',h'.get? b=some o'
theorem zd4{h:Heap}{b c:Addr}{o:Obj}(q:h.get? b=some o)(e:h.get? c=none):b≠c:=λz=>by rw[z,e] at q;cases q
theorem Lv.hok{l:List Addr}{e T:Addr}{h:Heap}(L:Lv l e T h h')(x:HOk P w H h)(hl:∀b∈l,H b=none)(he:H e=none)(hT:H T=none):HOk P w H h':=λb o q=>
 (x b o q).stay (λc u hc z=>by
   have hn:H c≠none:=λz=>by
    rcases hc with rfl|hc
    ·rw[q] at z;cases z
    ·rw[hc] at z;cases z
   exact L.keep c u z (λm=>hn (hl c m)) (λe=>hn (e▸he)) λe=>hn (e▸hT)) (λ_ q=>q) λ_ _ q=>q
theorem Lv.un{l:List Addr}{e T:Addr}{H0:Hp}{h0 h:Heap}(L:Lv l e T h h')(u:Un fs [] H0 H h0 h)(he:h0.get? e=none)(hT:h0.get? T=none)(hl:∀b∈l,b∈fs\/h0.get? b=none):Un fs [] H0 H h0 h':=by
 refine⟨λb o q n0 hb hx=>?_,λb o q n0 hb hx=>?_,u.free,λb o q hx=>?_,u.tups,u.frzs,u.tbls⟩
 ·exact L.keep b o (u.keep b o q n0 hb hx) (λm=>(hl b m).elim hb λz=>zd4 q z rfl) (zd4 q he) (zd4 q hT)
 ·obtain ⟨sl,e1⟩:=u.slot b o q n0 hb hx
  by_cases m:b∈l
  ·obtain ⟨sl',e2⟩:=L.slot b _ e1 m
   exact⟨sl',e2⟩
  ·exact ⟨sl,L.keep b _ e1 m (zd4 q he) (zd4 q hT)⟩
 ·obtain ⟨o',e1⟩:=u.there b o q hx
  exact L.there b o' e1 (zd4 q hT)
theorem zjC{E:XK}{T:Addr}(J:Inv X pins σ H1 s')(hst:X.stack=X.env::X.outer)(hex:X.ex=[])
 (na:X.s₀.heap.get? a=none) (ha:H1 a=none) (nT:X.s₀.heap.get? T=none) (hT0:H1 T=none)
 (run:∀B:Heap,B.StaysIn s'.heap->s'.heap.FunFrames B (X.env::X.outer)->B.get? a=none->B.get? T=none->∀Q:Unit->Shared->Prop,(∀h',Heap.Left B (X.env::X.outer) a (.ref C) s'.heap h'->Q Unit.unit {s' with heap:=h'})->wpAny M X.A (leaving X.env (.ref a)) Q Ex s')
 (ee:E (.ref C) none H1):wpAny M X.A (leaving X.env (.ref a)) (λ_ s''=>CXe X.prog X.w X.outer X.H₀ X.s₀ E (.ref a) s'') Ex s':=by
 have FF:s'.heap.FunFrames (W.hideAll s'.heap (frs X.stack ++ [a,T])) X.stack:=W.funFrames_hide J.stack λenv he b hb=>List.mem_append_left _ (List.mem_filterMap.mpr ⟨env,he,hb⟩)
 have FF':s'.heap.FunFrames (W.hideAll s'.heap (frs X.stack ++ [a,T])) (X.env::X.outer):=by
  have FF:=FF
  generalize W.hideAll s'.heap (frs X.stack ++ [a,T])=B at FF⊢
  rw[hst] at FF
  exact FF
 refine run (W.hideAll s'.heap (frs X.stack ++ [a,T])) (λb o q=>W.of_hideAll _ q) FF' (W.hideAll_none _ `Z3) (W.hideAll_none _ `Z3) _ λh' hL=>?_
 obtain⟨k1,k2,k3,k4⟩:=hL
 rw[←hst] at k2
 have L:Lv (frs X.stack) a T s'.heap h':=by
  have sl:∀b o,s'.heap.get? b=some o->b∈frs X.stack->∃sl,h'.get? b=some {o with slots:=sl}:=λb o q m=>by
   obtain⟨_,o',e1,nf⟩:=FF.mem m
   rw[q] at e1;cases e1
   exact k4 b o q nf
  have kp:∀b o,s'.heap.get? b=some o->b∉frs X.stack->b≠a->b≠T->h'.get? b=some o:=λb o q m ne nt=>
   k1 b o (W.hideAll_get _ q (by simp[m,ne,nt]))
  refine⟨kp,sl,λb o q nt=>?_⟩
  by_cases m:b∈frs X.stack
  ·obtain ⟨sl',e⟩:=sl b o q m;exact⟨_,e⟩
  ·by_cases e:b=a
   ·subst e
    obtain⟨oe,_,_,_,_,z,_⟩:=k3
    exact⟨oe,z⟩
   ·exact ⟨o,kp b o q m e nt⟩
 have ub:=J.base
 rw[hex] at ub
 obtain⟨oe',vs',T',oT',ts',q1,q2,q3,q4,q5,q6,q7,q8,q9⟩:=k3
 have hT':X.s₀.heap.get? T'=none/\H1 T'=none:=by
  cases z:s'.heap.get? T' with
  |none=>
   refine⟨?_,J.hok.off z⟩
   cases zz:X.s₀.heap.get? T' with
   |none=>rfl
   |some o=>obtain ⟨_,z2⟩:=ub.there T' o zz `Z3;rw[z] at z2;cases z2
  |some o=>
   by_cases m:T'∈frs X.stack ++ [a,T]
   ·rcases Q2.mp m with m|m
    ·obtain ⟨_,o2,e2,nf⟩:=k2.mem m
     rw[q7] at e2;cases e2
     exact absurd q8 (nf _)
    ·rcases X0.mp m with e|m
     ·exact absurd e q6
     ·have e:T'=T:=by simpa using m
      subst e;exact⟨nT,hT0⟩
   ·rw[W.hideAll_get _ z m] at q5;cases q5
 refine⟨a,C,H1,rfl,J.os,J.bare,L.un ub na nT λb m=>?_,L.hok J.hok J.stkFree ha hT0,⟨na,ha,oe',vs',T',oT',ts',q1,q2,q3,q4,hT'.1,hT'.2,q6,q7,q8,q9⟩,ee⟩
 have m':=J.stkSub b m
 rcases X0.mp m' with e|m'
 ·rw[e];exact .inr (Heap.get?_none_of_le J.ok.above)
 ·exact .inl m'
theorem zn8{E:XK}{e:Value}(I:Inv X pins σ H s)(hst:X.stack=X.env::X.outer)(hfr:X.env.frame=some X.env.locals)(hex:X.ex=[])
 (c:CXe X.prog X.w X.stack H s E e s'):wpAny M X.A (leaving X.env e) (λ_ s''=>CXe X.prog X.w X.outer X.H₀ X.s₀ E e s'') Ex s':=by
 obtain⟨a,C,H1,rfl,os,bare,un,hok,⟨na,ha,oe,vs,T,oT,ts,he,hc,hd,h1,nT,hT0,hTe,hT,hdT,h3⟩,ee⟩:=c
 have J:Inv X pins σ H1 s':=I.call' (ch:=[]) os un hok bare (λb z=>absurd z `Z3)
 have up:∀{b:Addr},s.heap.get? b=none->X.s₀.heap.get? b=none:=λ{b} z=>by
  cases zz:X.s₀.heap.get? b with
  |none=>rfl
  |some o=>obtain ⟨_,z2⟩:=I.base.there b o zz (by rw[hex];simp);rw[z] at z2;cases z2
 exact zjC J hst hex (up na) ha (up nT) hT0 (λB st FF hen hTn Q hQ=>wpAny_leaving_next (J.ok.frames.trans (by rw[hst])) FF hfr ⟨oe,vs,T,oT,ts,he,hc,hd,h1,hTn,hTe,hT,hdT,h3⟩ st hen hQ) ee
theorem zjk{E:XK}{args:List Value}(I:Inv X pins σ H s)(hst:X.stack=X.env::X.outer)(hfr:X.env.frame=some X.env.locals)(hex:X.ex=[])
 (hx:Heap.MadeExcOf s.heap h' a (.ref C) args) (ee:E (.ref C) none H):wpAny M X.A (leaving X.env (.ref a)) (λ_ s''=>CXe X.prog X.w X.outer X.H₀ X.s₀ E (.ref a) s'') Ex {s with heap:=h'}:=by
 have J:Inv X pins σ H {s with heap:=h'}:=I.call' (ch:=[]) rfl (Un.kept hx.keeps) (I.hok.kept hx.keeps) I.bare (λb z=>absurd z `Z3)
 have up:∀{b:Addr},s.heap.get? b=none->X.s₀.heap.get? b=none:=λ{b} z=>by
  cases zz:X.s₀.heap.get? b with
  |none=>rfl
  |some o=>obtain ⟨_,z2⟩:=I.base.there b o zz (by rw[hex];simp);rw[z] at z2;cases z2
 obtain⟨t,he,_,_⟩:=hx.there
 exact zjC (T:=a) J hst hex (up hx.new) (I.hok.off hx.new) (up hx.new) (I.hok.off hx.new) (λB st FF hen _ Q hQ=>wpAny_leaving_first (J.ok.frames.trans (by rw[hst])) FF hfr he st hen rfl rfl hQ) ee
theorem ziA{h:Heap}{tb:List Value}(X:K.In h)(hm:mg x=some (.ref C))(q:W.excIn K C tb ni=true):OwnCls x C tb ni mg h:=by
 refine⟨hm,?_⟩
 unfold W.excIn at q
 split at q
 ·next dd z sl ho=>
  split at q
  ·next C1 tl j0 j1 j2 j3 nn j5 e1 e2=>
   rw[W0,W0,W0,W0,W0] at q
   obtain⟨⟨⟨⟨⟨qa,qb⟩,qc⟩,qd⟩,qe⟩,qf⟩:=q
   replace qa:C1=C:=eq_of_beq qa
   replace qb:nn=ni:=eq_of_beq qb
   replace qf:=eq_of_beq qf
   replace qc:z.hasDel=false:=by cases e:z.hasDel<;>simp[e] at qc⊢
   cases z
   dsimp only at e1 qc qe qf
   have es:sl= #[j0,j1,j2,j3,some (.builtin nn),j5]:=by
    cases sl
    exact Z2 Array.mk e2
   subst es e1 qc qa qb
   exact⟨_,_,_,_,_,_,_,_,_,_,_,_,_,_,_,_,_,X _ _ ho, .of_isNs (W.isNs_of_in X qe),W.nsMap_none_of_in X qe qf,W.tail_of_in X qd⟩
  ·cases q
 ·cases q
structure Xok(X:Cx)(E:XK):Prop where
 st8:X.stack=X.env::X.outer
 fr8:X.env.frame=some X.env.locals
 ex8:X.ex=[]
 calm8:X.calm=true
 xe8:X.xe=λe s'=>wpAny (model X.prog X.w) X.A (leaving X.env e) (λ_ s''=>CXe X.prog X.w X.outer X.H₀ X.s₀ E e s'') (λe' s''=>CXe X.prog X.w X.outer X.H₀ X.s₀ E e' s'') s'
theorem Xok.pass{E:XK}(x:Xok X E):za4 (CXe X.prog X.w) X E:=λpins σ H s e s' I c=>by
 rw[x.xe8]
 exact zn8 I x.st8 x.fr8 x.ex8 c
section
variable{E:XK}{id0 B:String}{tb:List Value}
theorem zp2(z:Xok X E)(hm:X.mg x=some (.ref C))(q:W.excIn X.K C tb ni=true)(FB:ExcBaseFacts B ni id0 tb)(hg:autoParam (Gl X x) v3)(hd:autoParam ((x==("__debug__":Str))=false) v4):
 QS X (.Raise (some (.Call (.Name x np) [] [] cpos)) none pos) (λ_ _ H=>E (.ref C) none H):=⟨by
 intro pins s σ H D I h
 obtain⟨tl,N,nm,qn,bs,hdct,sn,sub,ab,col,dd,k0,k1,k2,k3,k5,mN,hC,hN,hni,T⟩:=(ziA (x:=x) (mg:=X.mg) I.kIn hm q).obj
 refine wpAny_Raise_call_subT (C:=C) (nm:=nm) (q:=qn) (N:=N) (bs:=bs) (bm:=tl) (hdct:=hdct) (sn:=sn) (sub:=sub) (ab:=ab) (col:=col) (dd:=dd) (k0:=k0) (k1:=k1) (k2:=k2) (k3:=k3) (k5:=k5)
  FB (mN:=mN) (T.hasType FB.hasBase) (I.ok.hd z.calm8) rfl hni (zeC I hg hm ⟨rfl,?_⟩ hd)
 refine evalArgs_empty ⟨rfl,W1 _,hC,hN,T,λh' e made=>?_⟩
 rw[z.xe8]
 exact zjk I z.st8 z.fr8 z.ex8 made h⟩
end
theorem Fun.okX{st:Stmt}{ps:List Str}{k:Nat}(F:Fun K x qual st f fd)(S:FnScope N ps (ze st))(len:∀vs H Q E,sp vs H Q E->vs.length=ps.length)
 (hbody:∀(cdv:Value) (A:Around) (outer:List Env) (s:Shared) (H:Hp) (vs:List V) (Q:VK) (E:XK),Room k (A.deeper (envOfC qual (ze st) s.heap.objs.size f cdv))->sp vs H Q E->Xok (zgT (CXe P w) P w K mg base N qual (ze st) f cdv A outer s H E) E->
   ∃t,QB (zgT (CXe P w) P w K mg base N qual (ze st) f cdv A outer s H E) (zK st) t/\t {nx:=λ_ H'=>Q .non H',rt:=Q} (zdz N vs) H):FnOk P w K mg base (CXe P w) (k+1) f fd ps sp:=by
 obtain⟨oc,od,kV,doc,pm,an,cdv,ct,osl,rfl,lk,hcd⟩:=F.ex
 refine zoA lk hcd S len λA outer s H vs Q E hr hsp=>?_
 obtain⟨t,h,q⟩:=hbody cdv A outer s H vs Q E hr hsp ⟨rfl,rfl,rfl,rfl,rfl⟩
 exact⟨t,h.o,q⟩
section
variable{nm q nm' q':Str}{N CR N':Addr}{bs bm bs' bm':List Value}{hdct hdct':Bool}{sn sn':List Str}{sub sub':List Value}{ab ab':Bool}{col col':Option Bool}{dd dd':Option Addr}{k0 k1 k2 k3 k5 j0 j1 j2 j3 j5:Option Value}{ni':String}
theorem zp9{h:Heap}{g:Array GenState}{d:Drawn}{t:Nat}{os:OsState}{e:Addr}{oe:Obj}{Q:Bool->Shared->Prop}
 (hC:h.get? C=some (excClassObj nm q C N bs bm hdct sn sub ab col dd k0 k1 k2 k3 k5 ni)) (hR:h.get? CR=some (excClassObj nm' q' CR N' bs' bm' hdct' sn' sub' ab' col' dd' j0 j1 j2 j3 j5 ni'))
 (he:h.get? e=some oe) (hcls:oe.cls= .ref C) (hB:bm'.contains (.type "BaseException")=true) (hin:(Value.ref C::bm).contains (.ref CR)=true)
 (hq:Q true ⟨h,g,d,t,os⟩):wpAny M A (excMatches (.ref e) (.ref CR)) Q E ⟨h,g,d,t,os⟩:=by
 have cB:(Value.ref CR::bm').contains (.type "BaseException")=true:=by rw[List.contains_cons,hB,Bool.or_true]
 have f:=tc_notTuple
 unfold excMatches
 repeat (first
  |(with_reducible refine wpAny_loadPart_at he ?_;rw[hcls])
  |with_reducible refine wpAny_loadPart_at hR ?_
  |(with_reducible refine wpAny_isSubtype_exc hR ?_;rw[cB])
  |(with_reducible refine wpAny_isSubtype_exc hC ?_;rw[hin])
  |wp_step)
 exact hq
end
theorem zmo{Q:Unit->Shared->Prop}(I:Inv X pins σ H s)(hN:X.N.Nodup)(hi:X.N[i]?=some x)(hk:X.env.scope.names.lookup x=some .local)(hv:σ[i]?=some (some v))
 (h:∀s',Inv X pins (σ.set i none) H s'->Q Unit.unit s'):wpAny M A (unbindName X.env x) Q E s:=by
 obtain⟨m,hn,hl⟩:=id I.loc
 have hcls:(X.env.scope.kind== .class||(X.env.scope.kind== .module&&X.env.locals !=X.env.globals))=false:=by rw[I.ok.kind];rfl
 have hiσ:i<σ.length:=by rw[I.len];exact(X1.mp hi).1
 have cne:=I.cne
 obtain⟨u0,_,hu0⟩:=hl i x v hi hv (.inl hk)
 have hm:∃u,m x=some u:=by
  rcases hu0 with⟨_,e⟩|⟨k,_⟩
  ·exact ⟨_,e⟩
  ·have k:X.env.scope.names.lookup x=some .cell\/X.env.scope.names.lookup x=some .free:=k
   rw[hk] at k
   rcases k with k|k<;>cases k
 obtain⟨u,hu⟩:=hm
 refine wpAny_unbindName_local hk hn hu hcls λh' u' hn' hs=>?_
 obtain⟨oL,_,_,hoL,_⟩:=id hn
 have below:∀{b:Addr} {o:Obj},X.s₀.heap.get? b=some o->b≠X.env.locals:=λe=>P1 (O1 (V0 e) I.ok.above)
 refine h _ ⟨I.ok,I.os,I.bare,⟨λb o e n hb hx=>(hs.2 b (below e)).trans (I.base.keep b o e n hb hx),λb o e n hb hx=>?_,I.base.free,λb o e hx=>?_,I.base.tups,I.base.frzs,I.base.tbls⟩,⟨_,hn',λj y v' e1 e2 e3=>?_⟩,λy c e=>?_,I.free,I.freeC,λp hp=>?_,λb ob e=>?_,by simpa using I.len⟩
 ·obtain ⟨sl,e1⟩:=I.base.slot b o e n hb hx
  exact⟨sl,(hs.2 b (below e)).trans e1⟩
 ·obtain ⟨o',e1⟩:=I.base.there b o e hx
  exact⟨o',(hs.2 b (below e)).trans e1⟩
 ·by_cases hj:j=i
  ·subst hj
   rw[List.getElem?_set_self hiσ] at e2
   cases e2
  ·rw[List.getElem?_set_ne (Ne.symm hj)] at e2
   obtain⟨w',r',z⟩:=hl j y v' e1 e2 e3
   refine⟨w',r',?_⟩
   rcases z with⟨k,e⟩|⟨k,c,e,z⟩
   ·refine .inl ⟨k,?_⟩
    have:y≠x:=λe=>hj (zgt hN e1 (e▸hi))
    simp[this,e]
   ·exact .inr ⟨k,c,e,z.sameBut hs (cne y c e)⟩
 ·obtain ⟨w',z⟩:=I.cell y c e
  exact⟨w',z.sameBut hs (cne y c e)⟩
 ·obtain ⟨e,n,ne,nf,d⟩:=I.pin p hp
  exact⟨(hs.2 p.1 ne).trans e,n,ne,nf,d⟩
 ·refine (I.hok b ob e).stay (λc w' hc z=>(hs.2 c ?_).trans z) (λ_ z=>z) λ_ _ z=>z
  rintro rfl
  have hf:=I.free
  rcases hc with rfl|hc
  ·rw[hf] at e;cases e
  ·rw[hf] at hc;cases hc
theorem zdB{Q:Unit->Shared->Prop}(I:Inv X pins σ H s)(hN:X.N.Nodup)(hi:X.N[i]?=some x)(hk:X.env.scope.names.lookup x=some .local)
 (h:∀s',Inv X pins (σ.set i none) H s'->Q Unit.unit s'):wpAny M A (do bindName X.env x .none;unbindBehindTheSuite X.env x pos) Q E s:=by
 have hiσ:i<σ.length:=by rw[I.len];exact(X1.mp hi).1
 refine C0 (wpAny_bindName (zb7 (v:= .non) I hN hi (.inl hk) rfl (λs1 I1=>?_) (.inr hk)))
 unfold unbindBehindTheSuite
 refine wpAny_onRaise (zmo I1 hN hi hk (List.getElem?_set_self hiσ) λs2 I2=>?_)
 rw[List.set_set] at I2
 exact h s2 I2
def ExcAt(C a:Addr):Heap->Prop:=λh=>∃oe vs,h.get? a=some oe/\oe.cls= .ref C/\oe.data= .fields vs
theorem ExcAt.obj{h:Heap}(x:ExcAt C a h):ObjOk P w H h a (.ext (ExcAt C a)):=
 ⟨x,let⟨oe,_,e,_⟩:=x;⟨oe,e⟩,λh1 h2 y k=>let ⟨oe,vs,e,c,d⟩:=y;⟨oe,vs,k _ e,c,d⟩⟩
theorem Un.track{h:Heap}{o:HO}(u:Un fs [] H H1 h h')(na:h.get? a=none)(ha:H1 a=none):Un fs [] H (upd H1 a o) h h':=
 ⟨u.keep,u.slot,λb ob q n hx=>by rw[zd (zd4 q na)];exact u.free b ob q n hx,u.there,λb xs q=>by have:=u.tups b xs q;rw[zd (zg this ha)];exact this,
   λb o' x q=>by have:=u.frzs b o' x q;rw[zd (zg this ha)];exact this,λb ps q=>by obtain⟨m,this⟩:=u.tbls b ps q;exact⟨m,by rw[zd (zg this ha)];exact this⟩⟩
theorem HOk.track{h:Heap}{o:HO}(x:HOk P w H1 h)(ha:H1 a=none)(n:ObjOk P w (upd H1 a o) h a o):HOk P w (upd H1 a o) h:=λb u e=>by
 by_cases hb:b=a
 ·subst hb;rw[zb] at e;cases e;exact n
 ·rw[zd hb] at e
  exact(x b u e).stay (λ_ _ _ q=>q) (λc q=>by rw[zd (zg q ha)];exact q) λc xs q=>by rw[zd (zg q ha)];exact q
theorem Ok.re(o:X.Ok){c:Bool}(hd:c=true->A'.handled=none)(fr:A'.frames=some X.stack):Cx.Ok {X with A:=A',calm:=c,pn:=pn,xe:=xe}:=
 ⟨o.mod,o.kind,o.glob,o.blt,o.above,o.inj,o.has,o.cab,hd,fr,o.stk,o.exf,o.bs,o.bsz,o.noex,o.exfs,o.funs,o.frf⟩
theorem Inv.re(I:Inv X pins σ H s){c:Bool}(hd:c=true->A'.handled=none)(fr:A'.frames=some X.stack)
 (hp:∀p∈pn ++pins',p∈X.pn ++pins):Inv {X with A:=A',calm:=c,pn:=pn,xe:=xe} pins' σ H s:=
 ⟨Ok.re I.ok hd fr,I.os,I.bare,I.base,I.loc,I.cell,I.free,I.freeC,λp h=>I.pin p (hp p h),I.hok,I.len⟩
noncomputable def Cx.tryC(X:Cx)(pins:List (Addr×Obj))(E:XK):Cx:={X with pn:=X.pn ++pins,xe:=λe s1=>∃pins' σ H s,Inv {X with pn:=X.pn ++pins} pins' σ H s/\CXe X.prog X.w X.stack H s E e s1}
def Cx.suiteC(X:Cx)(a:Addr)(xe:Value->Shared->Prop):Cx:={X with A:=X.A.mark (some (.ref a)),calm:=false,xe:=xe}
theorem zgj{E:XK}:za4 (CXe X.prog X.w) (X.tryC pins E) E:=λpins' σ H s e s' I c=>
 ⟨pins',σ,H,s,Inv.re (X:=X.tryC pins E) I (A':=X.A) (c:=X.calm) (pn:=X.pn ++pins) (xe:=X.xe) I.ok.hd I.ok.frames λ_ h=>h,c⟩
theorem zs2{B h:Heap}{envs:List Env}{T:Addr}(FF:h.FunFrames B envs)(hB:B=W.hideAll h (frs envs ++ [a,T]))(k1:B.StaysIn h')(k4:h.UpToSlots h')(ka:∃o,h'.get? a=some o):Lv (frs envs) a T h h':=by
 have sl:∀b o,h.get? b=some o->b∈frs envs->∃sl,h'.get? b=some {o with slots:=sl}:=λb o q m=>by
  obtain⟨_,o',e1,nf⟩:=FF.mem m
  rw[q] at e1;cases e1
  exact k4 b o q nf
 have kp:∀b o,h.get? b=some o->b∉frs envs->b≠a->b≠T->h'.get? b=some o:=λb o q m ne nt=>
  k1 b o (by rw[hB];exact W.hideAll_get _ q (by simp[m,ne,nt]))
 refine⟨kp,sl,λb o q nt=>?_⟩
 by_cases m:b∈frs envs
 ·obtain ⟨sl',e⟩:=sl b o q m;exact⟨_,e⟩
 ·by_cases e:b=a
  ·subst e;exact ka
  ·exact ⟨o,kp b o q m e nt⟩
noncomputable def Ends.off(D:Ends)(i:Nat):Ends:={nx:=λσ H=>D.nx (σ.set i none) H,rt:=D.rt,bk:=λσ H=>D.bk (σ.set i none) H,ct:=λσ H=>D.ct (σ.set i none) H}
noncomputable def ztw(X:Cx)(CR:Addr)(i:Nat)(tb:XK->TS)(ts:TS):TS:=λD σ H=>∃E:XK,tb E D σ H/\∀Cv o H1,E Cv o H1->∃C,Cv= .ref C/\zlw X.K C CR/\
 ∀(σ':St) (a:Addr),σ'.length=X.N.length->H1 a=none->ts (D.off i) (σ'.set i (some (.ref a))) (upd H1 a (.ext (ExcAt C a)))
section
variable{n:Str}{CR:Addr}{tbl:List Value}{suite:List Stmt}{b₀:Stmt}{tb:XK->TS}{ts:TS}{hpos:Pos}
theorem zsF(hb:∀E pins,QB (X.tryC pins E) body (tb E))(hs:∀a xe,QB (X.suiteC a xe) (b₀::suite) ts)(hst:X.stack=X.env::X.outer)(hfr:X.env.frame=some X.env.locals)(hN:X.N.Nodup)(hi:X.N[i]?=some n)(hk:X.env.scope.names.lookup n=some .local)
 (hm:X.mg x=some (.ref CR)) (qR:W.excIn X.K CR tbl ni=true) (hbB:tbl.contains (.type "BaseException")=true) (hg:autoParam (Gl X x) v3) (hd:autoParam ((x==("__debug__":Str))=false) v4):
 QS X (.Try body [.ExceptHandler (some (.Name x np)) (some n) (b₀::suite) hpos] [] [] pos) (ztw X CR i tb ts):=⟨by
 intro pins s0 σ0 H0 D I0 h
 obtain⟨E,h1,h2⟩:=h
 have I0':Inv (X.tryC pins E) [] σ0 H0 s0:=Inv.re I0 (A':=X.A) (c:=X.calm) (pn:=X.pn ++pins) I0.ok.hd I0.ok.frames λp hp=>by simpa using hp
 have back:∀{pins' σ H s},Inv (X.tryC pins E) pins' σ H s->Inv X pins σ H s:=λJ=>Inv.re (X:=X.tryC pins E) J (A':=X.A) (c:=X.calm) (pn:=X.pn) (xe:=X.xe) J.ok.hd J.ok.frames λp hp=>List.mem_append_left _ hp
 refine wpAny_Try_except (W2 ((hb E pins).o [] s0 σ0 H0 D I0' h1) (λf s1 z=>?_) λe s1 z=>?_)
 ·cases f with
  |next=>obtain ⟨σ',H',J,q⟩:=z;exact K0 ⟨σ',H',back J,q⟩
  |brk=>obtain ⟨σ',H',J,q⟩:=z;exact⟨σ',H',back J,q⟩
  |cont=>obtain ⟨σ',H',J,q⟩:=z;exact⟨σ',H',back J,q⟩
  |ret u=>obtain ⟨v,σ',H',J,q⟩:=z;exact⟨v,σ',H',back J,q⟩
 ·obtain ⟨pins',σ,H,s,I,c⟩:=z
  have I:Inv X pins σ H s:=Inv.re (X:={X with pn:=X.pn ++pins}) I (A':=X.A) (c:=X.calm) (pn:=X.pn) (xe:=X.xe) I.ok.hd I.ok.frames λp hp=>List.mem_append_left _ hp
  obtain⟨a,Cv,H1,rfl,os,bare,un,hok,⟨na,ha,oe,vs,T,oT,ts',he,hc,hdt,h1',nT,hT0,hTe,hT,hdT,h3⟩,ee⟩:=c
  obtain⟨C,eC,hsub,hh⟩:=h2 _ _ _ ee
  cases eC
  have J:Inv X pins σ H1 s1:=I.call' (ch:=[]) os un hok bare (λb z=>absurd z `Z3)
  have FF:s1.heap.FunFrames (W.hideAll s1.heap (frs X.stack ++ [a,T])) X.stack:=W.funFrames_hide J.stack λenv he b hb=>List.mem_append_left _ (List.mem_filterMap.mpr ⟨env,he,hb⟩)
  have FF':s1.heap.FunFrames (W.hideAll s1.heap (frs X.stack ++ [a,T])) (X.env::X.outer):=by
   have FF:=FF
   generalize W.hideAll s1.heap (frs X.stack ++ [a,T])=B at FF⊢
   rw[hst] at FF
   exact FF
  obtain⟨a0,h0⟩:∃a0,vs[0]?=some a0:=⟨vs[0]'(by have:=(Array.getElem?_eq_some_iff.mp h1').1;lia),Array.getElem?_eq_getElem _⟩
  have fl:Heap.FlyingW (W.hideAll s1.heap (frs X.stack ++ [a,T])) (X.env::X.outer) a (.ref Cv) a0 s1.heap:=
   ⟨λb o q=>W.of_hideAll _ q,W.hideAll_none _ `Z3,FF',oe,vs,T,oT,ts',he,⟨hc,h0⟩,hdt,h1',W.hideAll_none _ `Z3,hTe,hT,hdT,h3⟩
  have at_:∀{h':Heap},Heap.FlyingW (W.hideAll s1.heap (frs X.stack ++ [a,T])) (X.env::X.outer) a (.ref Cv) a0 h'->s1.heap.UpToSlots h'->
   Inv X pins σ H1 {s1 with heap:=h'}/\Un (frs X.stack) [] H H1 s.heap h'/\HOk X.prog X.w H1 h':=λ{h'} f sm=>by
   have L:=zs2 FF rfl f.1 sm (let⟨o,e,_⟩:=f.there;⟨o,e⟩)
   have u:=L.un un na nT λb m=> .inl m
   have k:=L.hok hok J.stkFree ha hT0
   exact⟨I.call' (s':={s1 with heap:=h'}) (ch:=[]) os u k bare (λb z=>absurd z `Z3),u,k⟩
  refine wpAny_looks_onW (J.ok.frames.trans (by rw[hst])) hfr fl λh4 held4 sm4=>?_
  refine wpAny_landsW held4 λh5 fl5 sm5=>?_
  obtain⟨J5,_,_⟩:=at_ fl5 (sm4.trans sm5)
  have mk:∀{xe:Value->Shared->Prop} {H':Hp} {s':Shared} {σ':St},Inv X pins σ' H' s'->Inv (X.suiteC a xe) pins σ' H' s':=λK=>Inv.re K (A':=X.A.mark (some (.ref a))) (c:=false) (λz=>nomatch z) K.ok.frames λ_ z=>z
  refine wpAny_handleBy_cons (codeAny_handlers_test (zeC (X:=X.suiteC a λ_ _=>False) (mk J5) hg hm ?_ hd)) (by intro z;cases z)
  obtain⟨tb1,ni1,dd1,cd1,sl1,qC,lC,mC⟩:=hsub
  obtain⟨tl,N,nm,qn,bs,hdct,sn,sub,ab,col,dd,k0,k1,k2,k3,k5,mN,hC,_,_,_⟩:=(ziA (x:=x) (mg:=λ_=>some (.ref Cv)) J5.kIn rfl qC).obj
  obtain⟨tlR,NR,nmR,qnR,bsR,hdctR,snR,subR,abR,colR,ddR,i0,i1,i2,i3,i5,mNR,hCR,_,_,TR⟩:=(ziA (x:=x) (mg:=X.mg) J5.kIn hm qR).obj
  have eqC:=J5.kIn _ _ lC
  have e2:(some (excClassObj nm qn Cv N bs tl hdct sn sub ab col dd k0 k1 k2 k3 k5 ni1):Option Obj)=some ⟨.type "type",dd1, .cls cd1,sl1⟩:=hC.symm.trans eqC
  have mC':(Value.ref Cv::tl).contains (.ref CR)=true:=by
   have e3:=Z2 Obj.data (U1 e2)
   have e4:cd1.mro= .ref Cv::tl:=by
    unfold excClassObj at e3
    dsimp only at e3
    injection e3 with e3
    rw[←e3]
   rw[←e4];exact mC
  obtain⟨ob,hob,hobc⟩:=fl5.there
  refine zp9 hC hCR hob hobc (TR.hasType hbB) mC' (codeAny_handlers_suite_as ?_)
  refine lands_againW fl5 λh6 fl6 sm6=>?_
  obtain⟨J6,u6,k6⟩:=at_ fl6 ((sm4.trans sm5).trans sm6)
  have ea:ExcAt Cv a h6:=by
   obtain⟨_,_,_,oe6,vs6,_,_,_,e1,e2,e3,_⟩:=fl6
   exact⟨oe6,vs6,e1,e2.1,e3⟩
  have K6:Inv X pins σ (upd H1 a (.ext (ExcAt Cv a))) {s1 with heap:=h6}:=I.call' (s':={s1 with heap:=h6}) (ch:=[]) os (u6.track na ha) (k6.track ha ea.obj) bare (λb z=>absurd z `Z3)
  refine zb7 (v:= .ref a) K6 hN hi (.inl hk) rfl (λs7 K7=>?_) (.inr hk)
  refine W2 ((hs a _).o pins s7 _ _ (D.off i) (mk K7) (hh σ a I.len ha)) (λf s8 z=>?_) λe s8 z=>z
  have bk:∀{xe:Value->Shared->Prop} {H':Hp} {s':Shared} {σ':St},Inv (X.suiteC a xe) pins σ' H' s'->Inv X pins σ' H' s':=λ{xe _ _ _} K=>Inv.re (X:=X.suiteC a xe) K (A':=X.A) (c:=X.calm) (pn:=X.pn) (xe:=X.xe) I.ok.hd I.ok.frames λ_ z=>z
  cases f with
  |next=>obtain ⟨σ',H',K,q⟩:=z;exact zdB (bk K) hN hi hk λs9 K9=>⟨_,H',K9,q⟩
  |brk=>obtain ⟨σ',H',K,q⟩:=z;exact zdB (bk K) hN hi hk λs9 K9=>⟨_,H',K9,q⟩
  |cont=>obtain ⟨σ',H',K,q⟩:=z;exact zdB (bk K) hN hi hk λs9 K9=>⟨_,H',K9,q⟩
  |ret u=>obtain ⟨v,σ',H',K,r,q⟩:=z;exact zdB (bk K) hN hi hk λs9 K9=>⟨v,_,H',K9,r,q⟩⟩
end
set_option maxHeartbeats 1000000
section
open PySem.W PySem.Builtin PySem.Builtin.ObjectAttr PySem.Builtin.Getset_descriptor
theorem ziN{h:Heap}(x:ExcAt C a h):Looks M h (typeOf (.ref a)) (.ref C):=by
 obtain⟨oe,_,h1,h2,_⟩:=x
 exact h2▸(Looks.ld h1).andThen .now
theorem zpb{R:Result->Shared->Prop}{tp:Value}(X:K.In s.heap)(x:ExcAt C a s.heap)(hm:W.mroIn K C (.type "object")=some true)(q:R (.ok (.ret (.ref C))) s):
 codeAny `V3 A (.call (.builtin "getset_descriptor.__get__") ⟨[.builtin "object.__class__", .ref a,tp],[]⟩) R s:=by
 obtain⟨hh,g,dr,t,os⟩:=s
 have T0:=ziN (M:=model prog w) x
 have T1:=looks_mroIn (M:=model prog w) X hm
 refine codeAny_call_builtin KF.slot_gs.plain KF.entry_gs ?_
 refine KF.slot_gs.check _ _ _ _ _ _ _ _ KF.type_class (KF.args_gs _ _ _) ?_
 unfold Builtin.«getset_descriptor.__get__»
 unfold descrGet
 rw[dga_obj]
 refine C0 (K0 ?_)
 unfold descrGetter descrCheckInstance
 unfold descrNameAndClass isInstance
 simp only[KF.owner_class]
 repeat lk
 refine⟨Code.quiet_builtin _ `Y3,?_⟩
 refine codeAny_builtin KF.entry_class ?_
 unfold Builtin.«object.__class__»
 unfold shownTypeOf
 repeat lk
 exact q
theorem zmz{tk:Tok}{Q:Fin->Shared->Prop}(X:K.In s.heap)(x:ExcAt C a s.heap)(c:ExCls K C)(q:Q (.done (.ret (.ref C))) s):
 wpAny `V3 A (Builtin.«object.__getattribute__» ⟨[.ref a, .str "__class__" tk],[]⟩) Q E s:=by
 obtain⟨hh,g,d,t,os⟩:=s
 have Lk0:=ziN (M:=model prog w) x
 have T1:=looks_findIn (M:=model prog w) X c.fc9
 have T2:Looks `V3 hh (getOf (some (.builtin "object.__class__"))) (some (.builtin "getset_descriptor.__get__")):=looks_specialIn X c.sp9
 have T3:=looks_takesIn (M:=model prog w) X c.tk9
 have Lk1:Looks `V3 hh (find (.ref a) (.ref C) "__class__") (.bind (.builtin "getset_descriptor.__get__") (.builtin "object.__class__")):=
  T1.andThen (T2.andThen ((show Looks `V3 hh (dataDescriptor? (some (.builtin "object.__class__")) (some (.builtin "getset_descriptor.__get__"))) (some _)from T3.andThen .now).andThen (Looks.tag .now)))
 unfold Builtin.«object.__getattribute__»
 refine C0 (K0 ?_)
 refine C0 (K0 (C0 (Lk0.at (C0 (Lk1.at ?_)))))
 show wpAny _ _ (holding [Value.builtin "object.__class__"] (call (.builtin "getset_descriptor.__get__") [.builtin "object.__class__", .ref a, .ref C])>>=ret) _ _ _
 exact C0 (X2 (wpAny_call (zpb X x c.mo9 (K0 q))))
theorem zmY{Q:Option Value->Shared->Prop}(X:K.In s.heap)(x:ExcAt C a s.heap)(c:ExCls K C)(q:Q (some (.ref C)) {s with toks:=s.toks+1}):wpAny `V3 A (getAttr? (.ref a) "__class__") Q E s:=by
 obtain⟨hh,g,d,t,os⟩:=s
 have Lk0:=ziN (M:=model prog w) x
 have Lk1:=looks_findIn (M:=model prog w) X c.ga9
 have Lk2:=looks_findIn (M:=model prog w) X c.gh9
 have L3:Looks `V3 hh (isInstance (.ref a) (.type "BaseException")) true:=Lk0.andThen (looks_mroIn X c.mb9)
 unfold getAttr? getAttrBy? getAttrBy
 refine C0 (wpAny_mkText (C0 (wpAny_attempt (X2 (C0 (Lk0.at (C0 (Lk1.at ?_))))))))
 show wpAny _ _ (getAttrByItsOwn _ _ _ _ _ _) _ _ _
 unfold getAttrByItsOwn
 refine C0 (Lk2.at ?_)
 refine C0 (wpAny_attempt (X2 ?_))
 show wpAny _ _ (boundAndCalled _ _ _) _ _ _
 unfold boundAndCalled
 rw[F.attr_ValueError.ga.bind]
 refine C0 (K0 ?_)
 refine wpAny_call ?_
 refine codeAny_call_builtin (id:="BaseException.__getattribute__") (b:=Builtin.«object.__getattribute__») F.attr_ValueError.ga.plain F.entry_bexc_ga ?_
 refine W.check_slot (i:="BaseException.__getattribute__") (owner:="BaseException") (n:="__getattribute__") ?_ ?_ L3 (F.args_bexc_ga _ _) ?_
 ·decide +kernel
 ·decide +kernel
 refine zmz (s:=⟨hh,g,d,t+1,os⟩) (a:=a) (C:=C) (K:=K) X x c ?_
 refine K0 ?_
 exact K0 q
theorem zgG(c:ExCls K C):KitX K (.ref a) (.ref C) (ExcAt C a) where
 ty:=λ_ _ _ x=>ziN x
 it:=λ_ _ X _=>by
  obtain⟨_,_,_,_,ho⟩:=c.cl9
  intro A' Q' E' s' k q
  unfold isType loadHead
  exact C0 (wpAny_loadPart (k _ _ (X _ _ ho)) (K0 q))
 ne:=λh tp dd its n sl X htp=>by
  obtain⟨_,_,_,_,ho⟩:=c.cl9
  cases z:(Value.ref C==Value.ref tp)with
  |false=>rfl
  |true=>
   have e:C=tp:=Value.ref.inj (eq_of_beq z)
   subst e
   have:=(X _ _ ho).symm.trans htp
   injection this with this
   have:=Z2 Obj.data this
   cases this
 ca:=λX x q=>zmY X x c q
def ztq(K:W.Frag):List V->Hp->VK->Prop:=λxs H Q=>∃a C dv b,xs=[.ref a,dv]/\H a=some (.ext (ExcAt C a))/\ExCls K C/\
 ((∃D,dv= .ref D/\W.kitOne K (.ref C) (.ref D)=some b)\/(∃T,dv= .ty T/\W.kitOne K (.ref C) (.type T)=some b)\/
   ∃tp Ds,dv= .ref tp/\H tp=some (.tup (List.map V.ref Ds))/\W.kitAny K (.ref C) (List.map Value.ref Ds)=some b)/\Q (.bl b) H
theorem zgM:∀{Ds:List Addr} {us:List Value},Vals (Ds.map V.ref) us->us=Ds.map Value.ref
 |[],_, .nil=>rfl
 |_::_,_, .cons r t=>by rw[show _=Value.ref _ from r,zgM t];rfl
theorem zgk:CallR X (.builtin "isinstance") (ztq X.K):=by
 intro pins s σ H xs us Q I r h
 obtain⟨a,C,dv,b,rfl,ha,c,hd,q⟩:=h
 obtain⟨u,w',rfl,ru,rw'⟩:=zhw r
 cases(show u=Value.ref a from ru)
 have ea:ExcAt C a s.heap:=(show ObjOk X.prog X.w H s.heap a (.ext (ExcAt C a))from I.hok a _ ha).1
 rcases hd with⟨D,rfl,e⟩|⟨T,rfl,e⟩|⟨tp,Ds,rfl,ht,e⟩
 ·cases (show w'=Value.ref D from rw')
  exact W.kia_one (zgG c) I.kIn ea e (λz=>nomatch z) λtk=>⟨.bl b,H,I.tok _,rfl,q⟩
 ·cases (show w'=Value.type T from rw')
  exact W.kia_one (zgG c) I.kIn ea e (λz=>nomatch z) λtk=>⟨.bl b,H,I.tok _,rfl,q⟩
 ·cases (show w'=Value.ref tp from rw')
  obtain⟨_,its,rv,⟨o,h1,h2,n,h3⟩,_⟩:=(show ObjOk X.prog X.w H s.heap tp (.tup (List.map V.ref Ds))from I.hok tp _ ht)
  obtain rfl:=zgM rv
  obtain⟨oc,od,dt,sl⟩:=o
  cases(show oc=Value.type "tuple"from h2)
  cases(show dt=Data.seq _ n from h3)
  exact W.kia_tup (zgG c) I.kIn ea h1 e (λz=>nomatch z) λtk=>⟨.bl b,H,I.tok _,rfl,q⟩
end
set_option maxHeartbeats 4000000
theorem zgY:bootBuiltins "ValueError"=some (.type "ValueError"):=`Y3
inductive Eqw(H:Hp):V->V->Prop
 |tree {v v':V} {d:PyData}:Tr H v d->Tr H v' d->d.depth<=60->Eqw H v v'
 |same {a:Addr}:Eqw H (.ref a) (.ref a)
 |dict {a b:Addr} {kvs kvs':List (Key×V)}:H a=some (.dK kvs)->H b=some (.dK kvs')->Alk H kvs kvs'->Eqw H (.ref a) (.ref b)
def EqA(prog:Program)(w:World)(A:Around)(s:Shared)(y x:Value):Prop:=∀(E:Value->Shared->Prop) (Q:Bool->Shared->Prop),Q true s->wpAny `V3 A (eqBool y x) Q E s
theorem zos{b:Addr}(hne:l≠b)(h:∀(E:Value->Shared->Prop) (Q:Value->Shared->Prop),Q (.bool true) s->wpAny `V3 A (richCompare .Eq (.ref l) (.ref b)) Q E s):EqA prog w A s (.ref l) (.ref b):=λE Q hq=>by
 unfold eqBool
 refine X2 (wpAny_ite_split (λz=>absurd (Value.ref.inj (eq_of_beq z)) hne) λ_=>?_)
 exact C0 (h E _ (wpAny_truthy_bool hq))
theorem zr0{b:Addr}{xs ys:Array Value}{n:Nat}{dd dd2:Option Addr}
 (hl:s.heap.get? l=some ⟨.type "tuple",dd, .seq xs n,sl⟩) (hb:s.heap.get? b=some ⟨.type "tuple",dd2, .seq ys n2,sl2⟩) (hz:xs.size=ys.size) (hu:A.units<cLine)
 (he:∀j (h1:j<xs.size) (h2:j<ys.size),EqA prog w A.in1 s xs[j] ys[j]) (h:Q (.bool false) s):wpAny `V3 A (richCompare .NotEq (.ref l) (.ref b)) Q E s:=by
 refine wpAny_richCompare_same_room (op:= .NotEq) ⟨_,hl,rfl⟩ ⟨_,hb,rfl⟩ F.slot_tuple_ne (Y2 F.slot_tuple_ne ⟨_,hl,rfl⟩ F.entry_tuple_ne ?_ (F.args_tuple_ne_2 _ _)) hu
 obtain⟨hp,g,d,tk,os⟩:=s
 have f2:=AutoSeq1.sub_tuple_tuple
 have hZ:(xs.toList.zip ys.toList).length=xs.size:=by simp[hz]
 wp_walk using wpAny_loadPart' hl,wpAny_loadPart' hb,wpAny_forIn_list _ (λrest c s'=>c.1=none/\s'=⟨hp,g,d,tk,os⟩/\∃i,rest=(xs.toList.zip ys.toList).drop i) _
 case turn=>
  rintro⟨y,x⟩ rest c s' ⟨hc,rfl,i,hr⟩
  have hi:i<xs.size:=by
   rcases Y1 i xs.size with z|z
   ·exact z
   ·rw[List.drop_of_length_le ()] at hr;cases hr
  rw[List.drop_eq_getElem_cons ()] at hr
  injection hr with e1 e2
  have ey:y=xs[i]:=by have:=Z2 Prod.fst e1;simpa using this
  have ex:x=ys[i]'():=by have:=Z2 Prod.snd e1;simpa using this
  subst ey ex
  refine C0 (he i hi () _ _ ?_)
  wp_walk
  exact⟨rfl,rfl,i+1,e2⟩
 case fin=>
  rintro⟨c1,c2⟩ s' ⟨hc,rfl,i,hr⟩
  simp only at hc
  subst hc
  wp_walk
  exact⟨_,rfl,by simpa[Builtin.Tuple.tupleCompareSizes,hz] using h⟩
 case h=>
  exact⟨rfl,rfl,0,rfl⟩
theorem zot(I:Inv X pins σ H s)(hu:A.units+62<cLine){d:PyData}(t:Tr H v d)(t':Tr H v' d)(hd:d.depth<=60)(r:RelV v u)(r':RelV v' u'):SeqAt.EqAt A s u u' true:=by
 obtain⟨as,x1⟩:=t.reads I _ r
 obtain⟨bs,x2⟩:=t'.reads I _ r'
 have x:=SeqAt.eqAt_reads _ _ A s _ _ as bs x1 x2 t.can t'.can ()
 rw[SeqAt.eqv_refl _ t.can] at x
 exact x
theorem zrh(I:Inv X pins σ H s)(hu:A.units+62<cLine)(a:Alk H kvs kvs'):∀{vs vs':List (Key×Value)},KV kvs vs->KV kvs' vs'->
 ∀(i:Nat) (k:Key) (v:Value),vs[i]?=some (k,v)->∃y,vs'[i]?=some (k,y)/\SeqAt.EqAt A s v y true:=by
 induction a with
 |nil=>
  intro vs vs' r r' i k v e
  cases r
  cases e
 |cons t t' hd a ih=>
  intro vs vs' r r' i k v e
  cases r with
  | @cons p q ps qs r1 r=>
    cases r' with
    | @cons p' q' ps' qs' r1' r'=>
      cases i with
      |zero=>
       obtain⟨q1,q2⟩:=q
       obtain⟨q1',q2'⟩:=q'
       cases e
       obtain⟨rk,rv⟩:=r1
       obtain⟨rk',rv'⟩:=r1'
       exact⟨q2',by dsimp only at rk rk';rw[List.getElem?_cons_zero,←rk',←rk],zot I hu t t' hd rv rv'⟩
      |succ i=>exact ih r r' i k v e
theorem Eqw.at (I:Inv X pins σ H s)(hu:A.units+63<cLine)(e:Eqw H v v')(r:RelV v u)(r':RelV v' u'):EqA X.prog X.w A s u u':=by
 cases e with
 |tree t t' hd=>exact λE Q hq=>zot I () t t' hd r r' X.prog X.w E Q hq
 |same=>
  cases r
  cases r'
  exact λE Q hq=>SeqAt.EqAt.same _ X.prog X.w E Q hq
 | @dict a b kvs kvs' ea eb al=>
   cases r
   cases r'
   by_cases hab:a=b
   ·subst hab;exact λE Q hq=>SeqAt.EqAt.same _ X.prog X.w E Q hq
   ·refine zos hab λE Q hq=>?_
    obtain⟨z,sa,vs,rel,dd⟩:=zht I.hok ea
    obtain⟨z',sb,vs',rel',dd'⟩:=zht I.hok eb
    have hl:vs.length=vs'.length:=by rw[←rel.length,←rel'.length,al.length]
    have nd:(vs'.map (·.1)).Nodup:=by obtain⟨_,_,_,_,_,_,_,_,nd⟩:=dd';exact nd
    refine W.keq_eq (r:=true) sa sb dd dd' () (λ_=>zlV λp hp=>?_) ?_
    ·obtain ⟨i,hi,ei⟩:=K2 hp
     obtain⟨y,h1,h2⟩:=zrh I (A:=A.in1) (by show A.units+1+62<cLine;lia) al rel rel' i p.1 p.2 (by rw[F0 hi,ei])
     exact⟨y,valueAt_of_get nd h1,h2⟩
    ·rw[hl,beq_self_eq_true];exact hq
theorem zrw(hu:X.A.units+66<cLine):OpR X (compareOp .NotEq) (λx y H Q=>∃a b xs ys,x= .ref a/\y= .ref b/\H a=some (.tup xs)/\H b=some (.tup ys)/\xs.length=ys.length/\(∀(i:Nat) (v v':V),xs[i]?=some v->ys[i]?=some v'->Eqw H v v')/\Q (.bl false) H):=by
 intro pins s σ H x y u v Q I rx ry h
 obtain⟨a,b,xs,ys,rfl,rfl,e,e',hl,al,q⟩:=h
 cases rx
 cases ry
 obtain⟨_,its,rv,⟨⟨c1,d1,dt1,sl1⟩,o1,h1,n1,g1⟩,_⟩:=(show ObjOk X.prog X.w H s.heap a (.tup xs)from I.hok a _ e)
 obtain⟨_,its',rv',⟨⟨c2,d2,dt2,sl2⟩,o2,h2,n2,g2⟩,_⟩:=(show ObjOk X.prog X.w H s.heap b (.tup ys)from I.hok b _ e')
 cases(show c1=Value.type "tuple"from h1)
 cases(show c2=Value.type "tuple"from h2)
 cases(show dt1=Data.seq _ n1 from g1)
 cases(show dt2=Data.seq _ n2 from g2)
 have hz:its.length=its'.length:=by rw[←rv.length,←rv'.length,hl]
 refine zr0 o1 o2 (by simpa using hz) () (λj h1 h2=>?_) ⟨.bl _,H,I,rfl,q⟩
 have h1':j<its.length:=by simpa using h1
 have h2':j<its'.length:=by simpa using h2
 have k1':its[j]?=some its[j]:=F0 h1'
 have k2':its'[j]?=some its'[j]:=F0 h2'
 have hx:j<xs.length:=by rw[rv.length];exact h1'
 have hy:j<ys.length:=by rw[rv'.length];exact h2'
 obtain⟨u1,k1,r1⟩:=rv.get (F0 hx)
 obtain⟨u2,k2,r2⟩:=rv'.get (F0 hy)
 rw[k1'] at k1;cases k1
 rw[k2'] at k2;cases k2
 exact(al j _ _ (F0 hx) (F0 hy)).at I (A:=X.A.in1) (by show X.A.units+1+63<cLine;lia) r1 r2
section
variable{q:Str}{h:Heap}{st:Stmt}{ps:List Str}
theorem erA(E:Er K x st)(X:K.In h)(G:h.Ns mainGlobals mg)
 (hb:∀(kV doc pm:Value) (an:Option Addr) (cdv ct:Value) (us:List Value),us.length=ps.length->bindArgs (W.fnOf x x (z7 st) (zK st) (ze st) .none kV doc pm an cdv ct) ⟨us,[]⟩=pure (ps.zip us)):
 At K mg x st ps E.f9 (W.fnOf x x (z7 st) (zK st) (ze st) .none E.kV9 E.dc9 E.pm9 E.an9 E.cd9 E.ct9):=
 ⟨zix E.l9 E.c9 E.k9,(zix E.l9 E.c9 E.k9).binds hb,W.mg_of X G E.a9,E.k9⟩
theorem erD(E:ErD K x st)(m:Nat)(X:K.In h)(G:h.Ns mainGlobals mg)(hm:ps.length=m+1)
 (hb:∀(dt:Addr) (kV doc pm:Value) (an:Option Addr) (cdv ct:Value) (us:List Value),us.length=m+1->∃k:Option (Array Value)->Sem (List (Str×Value)),bindArgs (W.fnOf x x (z7 st) (zK st) (ze st) (.ref dt) kV doc pm an cdv ct) ⟨us,[]⟩=seqItems? (.ref dt)>>=k/\k (some #[.none])=pure (ps.zip (us ++ [])))
 (hd:∀(dt:Addr) (kV doc pm:Value) (an:Option Addr) (cdv ct:Value) (us:List Value),us.length=m->∃k:Option (Array Value)->Sem (List (Str×Value)),bindArgs (W.fnOf x x (z7 st) (zK st) (ze st) (.ref dt) kV doc pm an cdv ct) ⟨us,[]⟩=seqItems? (.ref dt)>>=k/\k (some #[.none])=pure (ps.zip (us ++ [.none]))):
 AtD K mg x st ps E.f9 (W.fnOf x x (z7 st) (zK st) (ze st) (.ref E.dt9) E.kV9 E.dc9 E.pm9 E.an9 E.cd9 E.ct9):=
 ⟨ziH E.l9 E.d9 E.c9 E.k9,(ziH E.l9 E.d9 E.c9 E.k9).binds (m+1) hm hb,(ziH E.l9 E.d9 E.c9 E.k9).binds m hm hd,W.mg_of X G E.a9,E.k9⟩
theorem erM(E:Em K C x q st)
 (hb:∀(kV doc pm:Value) (an:Option Addr) (cdv ct:Value) (us:List Value),us.length=ps.length->bindArgs (W.fnOf x q (z7 st) (zK st) (ze st) .none kV doc pm an cdv ct) ⟨us,[]⟩=pure (ps.zip us)):
 MAt K C x q st ps E.f9 (W.fnOf x q (z7 st) (zK st) (ze st) .none E.kV9 E.dc9 E.pm9 E.an9 E.cd9 E.ct9):=
 ⟨zix E.l9 E.c9 E.k9,(zix E.l9 E.c9 E.k9).binds hb,⟨E.a9,E.i9,E.k9⟩⟩
theorem erN(E:En K x)(H:Hp):SqT K H E.f9 [.int 0, .non, .ref E.e9]:= .inr ⟨_,_,E.n9,E.l9,rfl,rfl,by show 3<=sizeLine;decide, .cons ⟨E.tk9,rfl⟩ (.cons rfl (.cons rfl .nil))⟩
theorem erN0(E:En K x)(H:Hp):SqT K H E.e9 []:= .inr ⟨_,_,E.ne9,E.d9,rfl,rfl,by show 0<=sizeLine;decide, .nil⟩
end
noncomputable abbrev zjr:List Str:=["thing"]
noncomputable abbrev zaJ:List Str:=["thing"]
theorem zfj:FnScope zjr zaJ (ze zdb):=`W3
noncomputable abbrev zkX:List Str:=["thing","low","high"]
noncomputable abbrev za5:List Str:=["thing","low","high"]
theorem zgB:FnScope zkX za5 (ze zed):=`W3
noncomputable abbrev zp8:List Str:=["cond","way","marks","to","word","about"]
noncomputable abbrev zc2:List Str:=["cond","way","marks","to"]
theorem zfK:FnScope zp8 zc2 (ze ziF):=`W3
noncomputable abbrev zkO:List Str:=["conds","way","marks","to","cond"]
noncomputable abbrev zbV:List Str:=["conds","way","marks","to"]
theorem zgv:FnScope zkO zbV (ze zea):=`W3
noncomputable abbrev zh4:List Str:=["town","house"]
noncomputable abbrev zbD:List Str:=["town","house"]
theorem ziE:FnScope zh4 zbD (ze zcS):=`W3
noncomputable abbrev zkJ:List Str:=["town","house"]
noncomputable abbrev zcW:List Str:=["town","house"]
theorem zkh:FnScope zkJ zcW (ze zd3):=`W3
noncomputable abbrev zkZ:List Str:=["town","house","ties"]
noncomputable abbrev ziI:List Str:=["town","house"]
theorem znD:FnScope zkZ ziI (ze zf8):=`W3
noncomputable def znW:Scope:={kind:= .function,names:=[(".0", .local),("a", .local),("b", .local),("house", .free)],isGenerator:=false,isCoroutine:=false,more:=[]}
theorem zgE:CompOk zkZ (ze zf8) ["a","b","house"] [none,none,some 1] znW:=⟨rfl,`Y3,`Y3,`Y3,`Y3,rfl,`Y3⟩
noncomputable def znu:Scope:={kind:= .function,names:=[(".0", .local),("a", .local),("b", .local),("house", .free)],isGenerator:=false,isCoroutine:=false,more:=[]}
theorem zgz:CompOk zkZ (ze zf8) ["a","b","house"] [none,none,some 1] znu:=⟨rfl,`Y3,`Y3,`Y3,`Y3,rfl,`Y3⟩
noncomputable abbrev zdA:List Str:=["marks","act","word","mark","others"]
noncomputable abbrev za1:List Str:=["marks","act"]
theorem zaS:FnScope zdA za1 (ze zaM):=`W3
noncomputable def ze7:Scope:={kind:= .function,names:=[(".0", .local),("one", .local),("mark", .free)],isGenerator:=false,isCoroutine:=false,more:=[]}
theorem zcH:CompOk zdA (ze zaM) ["one","mark"] [none,some 3] ze7:=⟨rfl,`Y3,`Y3,`Y3,`Y3,rfl,`Y3⟩
noncomputable abbrev zoR:List Str:=["town","way","marks","to","told","conds","act"]
noncomputable abbrev zez:List Str:=["town","way","marks","to"]
theorem zdt:FnScope zoR zez (ze zgw):=`W3
noncomputable abbrev zpv:List Str:=["town","way","marks","conds","told"]
noncomputable abbrev zeH:List Str:=["town","way","marks"]
theorem zhU:FnScope zpv zeH (ze zh2):=`W3
noncomputable abbrev zif:List Str:=["town","way","marks"]
noncomputable abbrev zbJ:List Str:=["town","way","marks"]
theorem zih:FnScope zif zbJ (ze zcJ):=`W3
noncomputable abbrev zeK:List Str:=["town","marked","keys","key","marks"]
noncomputable abbrev zbO:List Str:=["town","marked"]
theorem zbE:FnScope zeK zbO (ze zbI):=`W3
noncomputable def zfU:Scope:={kind:= .function,names:=[(".0", .local),("way", .local),("marks", .local),("liking_key", .globalImplicit),("town", .free)],isGenerator:=false,isCoroutine:=false,more:=[]}
theorem zbS:CompOk zeK (ze zbI) ["way","marks","town"] [none,none,some 0] zfU:=⟨rfl,`Y3,`Y3,`Y3,`Y3,rfl,`Y3⟩
noncomputable abbrev zfc:List Str:=["self","town","name"]
noncomputable abbrev zax:List Str:=["self","town","name"]
theorem ze6:FnScope zfc zax (ze za7):=`W3
noncomputable abbrev ziO:List Str:=["self"]
noncomputable abbrev zcf:List Str:=["self"]
theorem zjI:FnScope ziO zcf (ze zde):=`W3
noncomputable abbrev zgZ:List Str:=["self","other"]
noncomputable abbrev zaz:List Str:=["self","other"]
theorem zg7:FnScope zgZ zaz (ze zcw):=`W3
noncomputable abbrev zgO:List Str:=["self"]
noncomputable abbrev zbh:List Str:=["self"]
theorem zgX:FnScope zgO zbh (ze zcq):=`W3
noncomputable abbrev ziB:List Str:=["self","letter","one","to","nr","way","marks"]
noncomputable abbrev zbK:List Str:=["self","letter"]
theorem zaw:FnScope ziB zbK (ze zc1):=`W3
noncomputable abbrev zf4:List Str:=["self"]
noncomputable abbrev zaL:List Str:=["self"]
theorem zga:FnScope zf4 zaL (ze zbZ):=`W3
noncomputable abbrev zew:List Str:=["self","found","nr","way","marks"]
noncomputable abbrev zar:List Str:=["self"]
theorem zab:FnScope zew zar (ze zaY):=`W3
noncomputable abbrev zg0:List Str:=["self","going"]
noncomputable abbrev zaB:List Str:=["self","going"]
theorem zg3:FnScope zg0 zaB (ze zcu):=`W3
noncomputable abbrev zg6:List Str:=["self","other","way","marks","told"]
noncomputable abbrev zbg:List Str:=["self","other"]
theorem zbi:FnScope zg6 zbg (ze zco):=`W3
noncomputable abbrev zfv:List Str:=["self","found","other","nr","way","marks","offer"]
noncomputable abbrev zam:List Str:=["self"]
theorem zR:FnScope zfv zam (ze zbr):=`W3
noncomputable abbrev zjX:List Str:=["road","k"]
noncomputable abbrev zb1:List Str:=["road","k"]
theorem zfO:FnScope zjX zb1 (ze zef):=`W3
noncomputable abbrev zh8:List Str:=["letter","letters"]
noncomputable abbrev zdn:List Str:=["self","town","name"]
noncomputable abbrev zaU:List Str:=["self","town"]
theorem zdh:FnScope zdn zaU (ze zaQ):=`W3
noncomputable def zeR:Scope:={kind:= .function,names:=[(".0", .local),("name", .local),("House", .globalImplicit),("town", .free)],isGenerator:=false,isCoroutine:=false,more:=[]}
theorem zcy:CompOk zdn (ze zaQ) ["name","town"] [none,some 1] zeR:=⟨rfl,`Y3,`Y3,`Y3,`Y3,rfl,`Y3⟩
noncomputable abbrev zkH:List Str:=["self"]
noncomputable abbrev zb3:List Str:=["self"]
theorem zkc:FnScope zkH zb3 (ze zd1):=`W3
noncomputable abbrev zen:List Str:=["self"]
noncomputable abbrev zby:List Str:=["self"]
theorem zia:FnScope zen zby (ze zbB):=`W3
noncomputable def zgu:Scope:={kind:= .function,names:=[(".0", .local),("name", .local),("house", .local)],isGenerator:=false,isCoroutine:=false,more:=[]}
theorem zb5:CompOk zen (ze zbB) ["name","house"] [none,none] zgu:=⟨rfl,`Y3,`Y3,`Y3,`Y3,rfl,`Y3⟩
noncomputable abbrev zdL:List Str:=["self"]
noncomputable abbrev zbf:List Str:=["self"]
theorem zg5:FnScope zdL zbf (ze zbc):=`W3
noncomputable def zfu:Scope:={kind:= .function,names:=[(".0", .local),("name", .local),("house", .local)],isGenerator:=false,isCoroutine:=false,more:=[]}
theorem zbu:CompOk zdL (ze zbc) ["name","house"] [none,none] zfu:=⟨rfl,`Y3,`Y3,`Y3,`Y3,rfl,`Y3⟩
noncomputable abbrev zkv:List Str:=["self"]
noncomputable abbrev zcR:List Str:=["self"]
theorem zkt:FnScope zkv zcR (ze zd8):=`W3
noncomputable abbrev zfx:List Str:=["self","letter","one","to","nr"]
noncomputable abbrev zaE:List Str:=["self","letter"]
theorem zaD:FnScope zfx zaE (ze zbt):=`W3
noncomputable abbrev zki:List Str:=["self","k","letter"]
noncomputable abbrev za8:List Str:=["self","k"]
theorem zcL:FnScope zki za8 (ze zd5):=`W3
noncomputable abbrev zkF:List Str:=["self","k","letter"]
noncomputable abbrev zcK:List Str:=["self","k"]
theorem zgs:FnScope zkF zcK (ze zee):=`W3
noncomputable abbrev zkV:List Str:=["self","k","letter"]
noncomputable abbrev zcV:List Str:=["self","k"]
theorem zgr:FnScope zkV zcV (ze zdV):=`W3
noncomputable abbrev zdi:List Str:=["self"]
noncomputable abbrev zaP:List Str:=["self"]
theorem zf7:FnScope zdi zaP (ze zaX):=`W3
noncomputable def ze4:Scope:={kind:= .function,names:=[(".0", .local),("letter", .local),("self", .free)],isGenerator:=false,isCoroutine:=false,more:=[]}
theorem zcE:CompOk zdi (ze zaX) ["letter","self"] [none,some 0] ze4:=⟨rfl,`Y3,`Y3,`Y3,`Y3,rfl,`Y3⟩
noncomputable abbrev zi2:List Str:=["_law_script","_law_k","_law_cell"]
noncomputable abbrev zcc:List Str:=["_law_script","_law_k"]
theorem zdx:FnScope zi2 zcc (ze zdo):=`W3
noncomputable abbrev zj5:List Str:=["_law_script","_law_hand_here","_law_digits","_law_far","_law_k","_law_other"]
noncomputable abbrev zcX:List Str:=["_law_script"]
theorem zav:FnScope zj5 zcX (ze zeh):=`W3
noncomputable abbrev zjz:List Str:=["_law_hand_here","_law_many","_law_digit","_law_turn","_law_mixed","_law_other"]
noncomputable abbrev zN:List Str:=["_law_hand_here","_law_many"]
theorem zaI:FnScope zjz zN (ze zdj):=`W3
noncomputable abbrev zji:List Str:=["_law_hand_here","_law_some"]
noncomputable abbrev zM:List Str:=["_law_hand_here","_law_some"]
theorem zi1:FnScope zji zM (ze zdg):=`W3
noncomputable abbrev zev:List Str:=["_law_hand_here","_law_many","_law_letters","_law_first","_law_step","_law_names_here","_law_kept","_law_spot","_law_k"]
noncomputable abbrev zbH:List Str:=["_law_hand_here","_law_many"]
theorem z9:FnScope zev zbH (ze zbM):=`W3
noncomputable def zgN:Scope:={kind:= .function,names:=[(".0", .local),("_law_k", .local),("_law_first", .free),("_law_letters", .free),("_law_step", .free)],isGenerator:=false,isCoroutine:=false,more:=[]}
theorem zdp:CompOk zev (ze zbM) ["_law_k","_law_first","_law_letters","_law_step"] [none,some 3,some 2,some 4] zgN:=⟨rfl,`Y3,`Y3,`Y3,`Y3,rfl,`Y3⟩
noncomputable abbrev zjn:List Str:=["_law_hand_here","_law_houses","_law_marks","_law_to","_law_way","_law_cond_here"]
noncomputable abbrev zb8:List Str:=["_law_hand_here","_law_houses","_law_marks","_law_to"]
theorem zaj:FnScope zjn zb8 (ze zdu):=`W3
noncomputable abbrev zeo:List Str:=["_law_hand_here","_law_houses","_law_marks","_law_to","_law_many"]
noncomputable abbrev zaT:List Str:=["_law_hand_here","_law_houses","_law_marks","_law_to"]
theorem zex:FnScope zeo zaT (ze zbx):=`W3
noncomputable def zf5:Scope:={kind:= .function,names:=[(".0", .local),("_law_k", .local),("_law_cond", .globalImplicit),("_law_hand_here", .free),("_law_houses", .free),("_law_marks", .free),("_law_to", .free)],isGenerator:=false,isCoroutine:=false,more:=[]}
theorem zc8:CompOk zeo (ze zbx) ["_law_k","_law_hand_here","_law_houses","_law_marks","_law_to"] [none,some 0,some 1,some 2,some 3] zf5:=⟨rfl,`Y3,`Y3,`Y3,`Y3,rfl,`Y3⟩
noncomputable abbrev zgg:List Str:=["_law_hand_here","_law_houses","_law_marks","_law_some","_law_k","_law_number"]
noncomputable abbrev zaV:List Str:=["_law_hand_here","_law_houses","_law_marks"]
theorem zaW:FnScope zgg zaV (ze zb0):=`W3
noncomputable abbrev zh1:List Str:=["_law_hand_here","_law_houses","_law_marks","_law_some","_law_k","_law_act"]
noncomputable abbrev zbF:List Str:=["_law_hand_here","_law_houses","_law_marks"]
theorem zbL:FnScope zh1 zbF (ze zc0):=`W3
noncomputable abbrev ziZ:List Str:=["_law_hand_here","_law_houses","_law_more","_law_ties_here","_law_k","_law_a","_law_b"]
noncomputable abbrev zcm:List Str:=["_law_hand_here","_law_houses","_law_more"]
theorem zaH:FnScope ziZ zcm (ze zdf):=`W3
noncomputable abbrev zdq:List Str:=["_law_hand_here","_law_many","_law_names_here","_law_houses","_law_marks","_law_ties_here","_law_goal","_law_rising","_law_likings_here","_law_hands_here"]
noncomputable abbrev zck:List Str:=["_law_hand_here"]
theorem zU:FnScope zdq zck (ze zbo):=`W3
noncomputable def zgR:Scope:={kind:= .function,names:=[(".0", .local),("_law_house", .local),("_law_likings", .globalImplicit),("_law_hand_here", .free),("_law_marks", .free),("_law_names_here", .free)],isGenerator:=false,isCoroutine:=false,more:=[]}
theorem zdN:CompOk zdq (ze zbo) ["_law_house","_law_hand_here","_law_marks","_law_names_here"] [none,some 0,some 4,some 2] zgR:=⟨rfl,`Y3,`Y3,`Y3,`Y3,rfl,`Y3⟩
noncomputable def zgQ:Scope:={kind:= .function,names:=[(".0", .local),("_law_house", .local),("_law_hands", .globalImplicit),("_law_hand_here", .free),("_law_marks", .free),("_law_names_here", .free)],isGenerator:=false,isCoroutine:=false,more:=[]}
theorem zdO:CompOk zdq (ze zbo) ["_law_house","_law_hand_here","_law_marks","_law_names_here"] [none,some 0,some 4,some 2] zgQ:=⟨rfl,`Y3,`Y3,`Y3,`Y3,rfl,`Y3⟩
noncomputable abbrev zgF:List Str:=["_law_run","_law_word","_law_k","_law_caught","e"]
noncomputable abbrev zaO:List Str:=["_law_run","_law_word","_law_k"]
theorem zaR:FnScope zgF zaO (ze zbX):=`W3
noncomputable abbrev zjG:List Str:=["_law_run"]
noncomputable abbrev zcg:List Str:=["_law_run"]
theorem zi4:FnScope zjG zcg (ze zdv):=`W3
noncomputable abbrev zs0:List Str:=["_law_script","_law_hand_here","_law_town_here","_law_run","_law_k","_law_many","_law_odd","_law_told_here","_law_turn","_law_place"]
noncomputable abbrev znI:List Str:=["_law_script"]
theorem zdS:FnScope zs0 znI (ze zlc):=`W3
set_option genInjectivity false in
set_option genSizeOfSpec false in
set_option genSizeOf false in
structure Ev(K:W.Frag)(mg:Str->Option Value) where
 c_House:Addr
 k_House:Cls K c_House
 m_House:mg "House"=some (.ref c_House)
 n_House_place:NoAttr K c_House "place"
 n_House_name:NoAttr K c_House "name"
 n_House_hearings:NoAttr K c_House "hearings"
 n_House_tellings:NoAttr K c_House "tellings"
 n_House_going:NoAttr K c_House "going"
 n_House_times:NoAttr K c_House "times"
 c_Run:Addr
 k_Run:Cls K c_Run
 m_Run:mg "Run"=some (.ref c_Run)
 n_Run_place:NoAttr K c_Run "place"
 n_Run_people:NoAttr K c_Run "people"
 n_Run_waiting:NoAttr K c_Run "waiting"
 a_is_number:Addr
 d_is_number:FuncData
 is_number:At K mg "is_number" zdb zaJ a_is_number d_is_number
 a_is_whole:Addr
 d_is_whole:FuncData
 is_whole:At K mg "is_whole" zed za5 a_is_whole d_is_whole
 a_holds:Addr
 d_holds:FuncData
 holds:AtD K mg "holds" ziF zc2 a_holds d_holds
 a_all_hold:Addr
 d_all_hold:FuncData
 all_hold:AtD K mg "all_hold" zea zbV a_all_hold d_all_hold
 a_likings_of:Addr
 d_likings_of:FuncData
 likings_of:At K mg "likings_of" zcS zbD a_likings_of d_likings_of
 a_hands_of:Addr
 d_hands_of:FuncData
 hands_of:At K mg "hands_of" zd3 zcW a_hands_of d_hands_of
 a_tied:Addr
 d_tied:FuncData
 tied:At K mg "tied" zf8 ziI a_tied d_tied
 a_marks_behind:Addr
 d_marks_behind:FuncData
 marks_behind:At K mg "marks_behind" zaM za1 a_marks_behind d_marks_behind
 a_handed:Addr
 d_handed:FuncData
 handed:At K mg "handed" zgw zez a_handed d_handed
 a_worth:Addr
 d_worth:FuncData
 worth:At K mg "worth" zh2 zeH a_worth d_worth
 a_liking_key:Addr
 d_liking_key:FuncData
 liking_key:At K mg "liking_key" zcJ zbJ a_liking_key d_liking_key
 a_most_liked:Addr
 d_most_liked:FuncData
 most_liked:At K mg "most_liked" zbI zbO a_most_liked d_most_liked
 a_House___init__:Addr
 d_House___init__:FuncData
 House___init__:MAt K c_House "__init__" "House.__init__" za7 zax a_House___init__ d_House___init__
 a_House_way:Addr
 d_House_way:FuncData
 House_way:MAt K c_House "way" "House.way" zde zcf a_House_way d_House_way
 a_House_heard:Addr
 d_House_heard:FuncData
 House_heard:MAt K c_House "heard" "House.heard" zcw zaz a_House_heard d_House_heard
 a_House_begin:Addr
 d_House_begin:FuncData
 House_begin:MAt K c_House "begin" "House.begin" zcq zbh a_House_begin d_House_begin
 a_House_hear:Addr
 d_House_hear:FuncData
 House_hear:MAt K c_House "hear" "House.hear" zc1 zbK a_House_hear d_House_hear
 a_House_choose:Addr
 d_House_choose:FuncData
 House_choose:MAt K c_House "choose" "House.choose" zbZ zaL a_House_choose d_House_choose
 a_House_open_ways:Addr
 d_House_open_ways:FuncData
 House_open_ways:MAt K c_House "open_ways" "House.open_ways" zaY zar a_House_open_ways d_House_open_ways
 a_House_go_by:Addr
 d_House_go_by:FuncData
 House_go_by:MAt K c_House "go_by" "House.go_by" zcu zaB a_House_go_by d_House_go_by
 a_House_offer:Addr
 d_House_offer:FuncData
 House_offer:MAt K c_House "offer" "House.offer" zco zbg a_House_offer d_House_offer
 a_House_letters:Addr
 d_House_letters:FuncData
 House_letters:MAt K c_House "letters" "House.letters" zbr zam a_House_letters d_House_letters
 a_at_place:Addr
 d_at_place:FuncData
 at_place:At K mg "at_place" zef zb1 a_at_place d_at_place
 a_is_outdone:Addr
 d_is_outdone:FuncData
 is_outdone:At K mg "is_outdone" zeP zh8 a_is_outdone d_is_outdone
 a_Run___init__:Addr
 d_Run___init__:FuncData
 Run___init__:MAt K c_Run "__init__" "Run.__init__" zaQ zaU a_Run___init__ d_Run___init__
 a_Run_road:Addr
 d_Run_road:FuncData
 Run_road:MAt K c_Run "road" "Run.road" zd1 zb3 a_Run_road d_Run_road
 a_Run_choice:Addr
 d_Run_choice:FuncData
 Run_choice:MAt K c_Run "choice" "Run.choice" zbB zby a_Run_choice d_Run_choice
 a_Run_changes:Addr
 d_Run_changes:FuncData
 Run_changes:MAt K c_Run "changes" "Run.changes" zbc zbf a_Run_changes d_Run_changes
 a_Run_town:Addr
 d_Run_town:FuncData
 Run_town:MAt K c_Run "town" "Run.town" zd8 zcR a_Run_town d_Run_town
 a_Run_was_heard:Addr
 d_Run_was_heard:FuncData
 Run_was_heard:MAt K c_Run "was_heard" "Run.was_heard" zbt zaE a_Run_was_heard d_Run_was_heard
 a_Run_come:Addr
 d_Run_come:FuncData
 Run_come:MAt K c_Run "come" "Run.come" zd5 za8 a_Run_come d_Run_come
 a_Run_copy:Addr
 d_Run_copy:FuncData
 Run_copy:MAt K c_Run "copy" "Run.copy" zee zcK a_Run_copy d_Run_copy
 a_Run_lose:Addr
 d_Run_lose:FuncData
 Run_lose:MAt K c_Run "lose" "Run.lose" zdV zcV a_Run_lose d_Run_lose
 a_Run_is_still:Addr
 d_Run_is_still:FuncData
 Run_is_still:MAt K c_Run "is_still" "Run.is_still" zaX zaP a_Run_is_still d_Run_is_still
 a__law_hand:Addr
 d__law_hand:FuncData
 _law_hand:At K mg "_law_hand" zdo zcc a__law_hand d__law_hand
 a__law_all:Addr
 d__law_all:FuncData
 _law_all:At K mg "_law_all" zeh zcX a__law_all d__law_all
 a__law_take:Addr
 d__law_take:FuncData
 _law_take:At K mg "_law_take" zdj zN a__law_take d__law_take
 a__law_pick:Addr
 d__law_pick:FuncData
 _law_pick:At K mg "_law_pick" zdg zM a__law_pick d__law_pick
 a__law_names:Addr
 d__law_names:FuncData
 _law_names:At K mg "_law_names" zbM zbH a__law_names d__law_names
 a__law_cond:Addr
 d__law_cond:FuncData
 _law_cond:At K mg "_law_cond" zdu zb8 a__law_cond d__law_cond
 a__law_conds:Addr
 d__law_conds:FuncData
 _law_conds:At K mg "_law_conds" zbx zaT a__law_conds d__law_conds
 a__law_likings:Addr
 d__law_likings:FuncData
 _law_likings:At K mg "_law_likings" zb0 zaV a__law_likings d__law_likings
 a__law_hands:Addr
 d__law_hands:FuncData
 _law_hands:At K mg "_law_hands" zc0 zbF a__law_hands d__law_hands
 a__law_ties:Addr
 d__law_ties:FuncData
 _law_ties:At K mg "_law_ties" zdf zcm a__law_ties d__law_ties
 a__law_town:Addr
 d__law_town:FuncData
 _law_town:At K mg "_law_town" zbo zck a__law_town d__law_town
 a__law_refused:Addr
 d__law_refused:FuncData
 _law_refused:At K mg "_law_refused" zbX zaO a__law_refused d__law_refused
 a__law_told:Addr
 d__law_told:FuncData
 _law_told:At K mg "_law_told" zdv zcg a__law_told d__law_told
 a_law:Addr
 d_law:FuncData
 law:At K mg "law" zlc znI a_law d_law
 mk_House:Mk K c_House a_House___init__
 mk_Run:Mk K c_Run a_Run___init__
 X_NoLetter:Addr
 m_NoLetter:mg "NoLetter"=some (.ref X_NoLetter)
 X_RestError:Addr
 m_RestError:mg "RestError"=some (.ref X_RestError)
 X_Forged:Addr
 m_Forged:mg "Forged"=some (.ref X_Forged)
 X_HasRing:Addr
 m_HasRing:mg "HasRing"=some (.ref X_HasRing)
 X_Needed:Addr
 m_Needed:mg "Needed"=some (.ref X_Needed)
 X_NoDeed:Addr
 m_NoDeed:mg "NoDeed"=some (.ref X_NoDeed)
 X_NoRow:Addr
 m_NoRow:mg "NoRow"=some (.ref X_NoRow)
 X_NoText:Addr
 m_NoText:mg "NoText"=some (.ref X_NoText)
 X_TooMany:Addr
 m_TooMany:mg "TooMany"=some (.ref X_TooMany)
 e_NoLetter:W.excIn K X_NoLetter [.type "ValueError", .type "Exception", .type "BaseException", .type "object"] "ValueError.__new__"=true
 e_RestError:W.excIn K X_RestError [.type "ValueError", .type "Exception", .type "BaseException", .type "object"] "ValueError.__new__"=true
 i_NoLetter:ExCls K X_NoLetter
 u_NoLetter_RestError:zlw K X_NoLetter X_RestError
 j_NoLetter:W.kitAny K (.ref X_NoLetter) [.ref X_Forged, .ref X_HasRing, .ref X_Needed, .ref X_NoDeed, .ref X_NoRow, .ref X_NoText, .ref X_TooMany]=some false
 k_NoLetter_ValueError:W.kitOne K (.ref X_NoLetter) (.type "ValueError")=some true
 a_NOTHING:Addr
 e_NOTHING:Addr
 m_NOTHING:mg "NOTHING"=some (.ref a_NOTHING)
 t_NOTHING:∀H,SqT K H a_NOTHING [.int 0, .non, .ref e_NOTHING]
 u_NOTHING:∀H,SqT K H e_NOTHING []
 ValueError:mg "ValueError"=none
 all:mg "all"=none
 bool:mg "bool"=none
 dict:mg "dict"=none
 int:mg "int"=none
 isinstance:mg "isinstance"=none
 len:mg "len"=none
 list:mg "list"=none
 max:mg "max"=none
 min:mg "min"=none
 range:mg "range"=none
 sorted:mg "sorted"=none
 str:mg "str"=none
 tuple:mg "tuple"=none
section
noncomputable def zcZ:Sp:=λvs H Q _=>∃(a:Addr) (k n:Int),vs=[.ref a, .int k]/\Hand H a n/\n<2^40/\0<k/\k<1073741824/\∀d H',0<=d->d<k->Hand H' a (n+1)->Keep a H H'->Q (.int d) H'
theorem zb9(Y:Ev K mg):FnOk P w K mg base CX0 1 Y.a__law_take Y.d__law_take zN zcZ:=by
 refine Y._law_take.fn.okQ zaI (λvs H Q E h=>?_) `X3
 ·obtain ⟨a,k,n,rfl,_⟩:=h
  rfl
 ·obtain ⟨a,k,n,rfl,⟨x,m,t,hH,m0,m1,t0,t1⟩,hn,k0,k1,q⟩:=h
  refine⟨_,(zf (zap (zL zjl (zaa zO (qv 0) zh) zh) (zf (zu 2 zaI.nd (zB zbv (zaa zO (qv 0) zh) (qv 1)))
   (zf (zcD (zB zh7 (zaa zO (qv 0) zh) (qv 1)) (zjc (qv 0) zh zds))
   (zi (zt (qv 2))))) zX)
   (zf (zcD (zB zZ (zaa zO (qv 0) zh) zh) (zjc (qv 0) zh zds))
   (zf (zu 3 zaI.nd (zaa zO (qv 0) zh))
   (zf (zu 4 zaI.nd (zB zbv (zB za0 (zaa zO (qv 0) zh) (zB zZ (zB zZ zh (zB za0 (zB za0 zh (qv 3)) (qv 3))) (zB za0 zh (qv 3)))) zh))
   (zf (zu 5 zaI.nd (zB zZ (zB zZ (zB zbv (qv 4) zh) (zB za0 (qv 3) zh)) zh))
   (zf (zu 4 zaI.nd (zB zbv (zB za0 (qv 4) (qv 5)) zh))
   (zi (zt (zB zbv (zB zZ (zB zh7 (qv 4) zh) (zB zh7 (qv 4) zh)) (qv 1)))))))))),?_⟩
  repeat (first|with_reducible_and_instances refine⟨_,rfl,?_⟩|refine⟨_,rfl,?_⟩|refine⟨_,_,rfl,rfl,?_⟩|refine⟨_,_,_,_,rfl,rfl,SqL.of (by assumption),rfl,?_⟩|refine⟨_,_,_,_,rfl,rfl,(by assumption),rfl,?_⟩|refine .inl ⟨_,rfl,?_⟩|refine .inr ⟨_,rfl,?_⟩|refine⟨(by first|assumption|decide|lia|exact few rfl|exact .inl ⟨⋯,⋯⟩|exact .inr ⟨⋯,⋯⟩|exact .inl ⟨(),()⟩|exact .inr ⟨(),()⟩|exact⟨(),()⟩),?_⟩)
  refine zbP (λhx=>?_) (λhx=>?_)
  ·repeat (first|with_reducible_and_instances refine⟨_,rfl,?_⟩|refine⟨_,rfl,?_⟩|refine⟨_,_,rfl,rfl,?_⟩|refine⟨_,_,_,_,rfl,rfl,SqL.of (by assumption),rfl,?_⟩|refine⟨_,_,_,_,rfl,rfl,(by assumption),rfl,?_⟩|refine .inl ⟨_,rfl,?_⟩|refine .inr ⟨_,rfl,?_⟩|refine⟨(by first|assumption|decide|lia|exact few rfl|exact .inl ⟨⋯,⋯⟩|exact .inr ⟨⋯,⋯⟩|exact .inl ⟨(),()⟩|exact .inr ⟨(),()⟩|exact⟨(),()⟩),?_⟩)
   exact q _ _ (Int.emod_nonneg _ ()) (Int.emod_lt_of_pos _ k0) ⟨_,m,t,zb,m0,m1,t0,()⟩ (Keep.upd _ _ _)
  ·refine ⟨_,rfl,a,_,_,_,rfl,rfl,SqL.of hH,rfl,_,_,rfl,rfl,_,rfl,a,_,_,_,rfl,rfl,hH,rfl,?_⟩
   have h2:upd H a (.lst [.int x, .int m, .int (t+1)]) a=some (.lst [.int x, .int m, .int (t+1)]):=zb
   repeat (first|with_reducible_and_instances refine⟨_,rfl,?_⟩|refine⟨_,rfl,?_⟩|refine⟨_,_,rfl,rfl,?_⟩|refine⟨_,_,_,_,rfl,rfl,SqL.of (by assumption),rfl,?_⟩|refine⟨_,_,_,_,rfl,rfl,(by assumption),rfl,?_⟩|refine .inl ⟨_,rfl,?_⟩|refine .inr ⟨_,rfl,?_⟩|refine⟨(by first|assumption|decide|lia|exact few rfl|exact .inl ⟨⋯,⋯⟩|exact .inr ⟨⋯,⋯⟩|exact .inl ⟨(),()⟩|exact .inr ⟨(),()⟩|exact⟨(),()⟩),?_⟩)
   exact q _ _ (Int.emod_nonneg _ ()) (Int.emod_lt_of_pos _ k0) ⟨_,m,_,zb,m0,m1,(),()⟩ (Keep.upd _ _ _)
noncomputable def zbs(K:W.Frag):Sp:=λvs H Q _=>∃(a:Addr) (n:Int),Hand H a n/\n<2^40/\
 ((∃(b:Addr) (xs:List V),vs=[.ref a, .ref b]/\b≠a/\SqL K H b xs/\0<xs.length/\xs.length<1000/\∀v H',v∈xs->Hand H' a (n+1)->Keep a H H'->Q v H')\/
  (∃z:Str,vs=[.ref a, .str z]/\0<z.length/\z.length<1000/\∀c H',c∈z.cps.toList->Hand H' a (n+1)->Keep a H H'->Q (.str (one c)) H'))
theorem zcb(Y:Ev K mg):FnOk P w K mg base CX0 2 Y.a__law_pick Y.d__law_pick zM (zbs K):=by
 have G__law_take:FnOk P w K mg base CX0 1 Y.a__law_take Y.d__law_take zN zcZ:=zb9 Y
 refine Y._law_pick.fn.okQ zi1 (λvs H Q E h=>?_) `X3
 ·obtain ⟨a,n,_,_,⟨b,xs,rfl,_⟩|⟨z,rfl,_⟩⟩:=h<;>rfl
 ·obtain ⟨a,n,hH,hn,h⟩:=h
  have hl:∀m:Nat,m<1000->m<=sizeLine:=λm h=>Nat.le_of_lt (zo (Nat.le_of_lt h))
  rcases h with⟨b,xs,rfl,hb,hS,x0,x1,q⟩|⟨z,rfl,z0,z1,q⟩
  ·refine ⟨_,(zi (zt (zaa zo6 (qv 1) (zk G__law_take `U3 Y._law_take.mg Y._law_take.kp Y._law_take.b .nil zm (za (qv 0) (za (zv z8 Y.len zbw (za (qv 1) zc)) zc)))))),?_⟩
   refine⟨_,rfl,_,rfl,_,rfl, .inl ⟨b,xs,rfl, .inl hS,a,_,n,rfl,hH,hn,(),(),λd H' h0 h1 hH' kp=>?_⟩⟩
   obtain⟨v,e,hv⟩:=zfD h0 h1
   exact .inl ⟨b,xs,d,v,rfl,rfl,kp.sqL hb hS,e,q v H' hv hH' kp⟩
  ·refine ⟨_,(zi (zt (zaa zo6 (qv 1) (zk G__law_take `U3 Y._law_take.mg Y._law_take.kp Y._law_take.b .nil zm (za (qv 0) (za (zv z8 Y.len zbw (za (qv 1) zc)) zc)))))),?_⟩
   refine⟨_,rfl,_,rfl,_,rfl, .inr ⟨z,rfl,hl _ z1,a,_,n,rfl,hH,hn,(),(),λd H' h0 h1 hH' kp=>?_⟩⟩
   obtain⟨c,e,hc⟩:=zfD (xs:=z.cps.toList) h0 (by simpa[Str.length] using h1)
   exact .inr (.inr ⟨z,d,c,rfl,rfl,hl _ z1,e,q c H' hc hH' kp⟩)
noncomputable def zoX(K:W.Frag):Sp:=λvs H Q _=>∃(b:Addr) (ns:List Int) (k:Int),vs=[.ref b, .int k]/\SqL K H b (ns.map V.int)/\0<=k/\k<1000/\∀a H',H a=none->Hand H' a 0->Same H H'->Q (.ref a) H'
theorem zqB(Y:Ev K mg):FnOk P w K mg base CX0 1 Y.a__law_hand Y.d__law_hand zcc (zoX K):=by
 refine Y._law_hand.fn.okQ zdx (λvs H Q E h=>?_) `X3
 ·obtain ⟨a,k,n,rfl,_⟩:=h
  rfl
 ·obtain ⟨b,ns,k,rfl,hS,k0,k1,q⟩:=h
  refine⟨_,(zf (zu 2 zdx.nd zh)
   (zf (zap (zL zs4 (qv 1) (zv z8 Y.len zbw (za (qv 0) zc))) (zi (zu 2 zdx.nd (zaa zO (qv 0) (qv 1)))) zX)
   (zi (zt (zcj (za (zB za0 (qv 2) (zaf zdG Y.int zeT (za (zdR zqO (qv 2) (zB zfa zh zh)) zc))) (za (zB zZ (zB zZ (zB zbv (qv 2) zh) (zB za0 zh (qv 1))) zh) (za zh zc)))))))),?_⟩
  refine⟨_,rfl,_,rfl, .inl ⟨b,_,rfl, .inl hS,_,_,rfl,rfl,_,rfl,?_⟩⟩
  refine zbP (λhx=>?_) (λhx=>?_)
  ·have hx':k<((ns.map V.int).length:Int):=S0 hx
   obtain⟨v,e,hv⟩:=zfD k0 hx'
   obtain⟨c,_,rfl⟩:=y1.mp hv
   refine⟨_,rfl,_,rfl,b,_,k,_,rfl,rfl,hS,e,?_⟩
   repeat (first|with_reducible_and_instances refine⟨_,rfl,?_⟩|refine⟨_,rfl,?_⟩|refine⟨_,_,rfl,rfl,?_⟩|refine⟨_,_,_,_,rfl,rfl,SqL.of (by assumption),rfl,?_⟩|refine⟨_,_,_,_,rfl,rfl,(by assumption),rfl,?_⟩|refine .inl ⟨_,rfl,?_⟩|refine .inr ⟨_,rfl,?_⟩|refine⟨(by first|assumption|decide|lia|exact few rfl|exact .inl ⟨⋯,⋯⟩|exact .inr ⟨⋯,⋯⟩|exact .inl ⟨(),()⟩|exact .inr ⟨(),()⟩|exact⟨(),()⟩),?_⟩)
   intro p hp
   exact q p _ hp ⟨_,_,_,zb,(),(),⋯,⋯⟩ (λb' o hb'=>by rw[zd (zg hb' hp)];exact hb')
  ·repeat (first|with_reducible_and_instances refine⟨_,rfl,?_⟩|refine⟨_,rfl,?_⟩|refine⟨_,_,rfl,rfl,?_⟩|refine⟨_,_,_,_,rfl,rfl,SqL.of (by assumption),rfl,?_⟩|refine⟨_,_,_,_,rfl,rfl,(by assumption),rfl,?_⟩|refine .inl ⟨_,rfl,?_⟩|refine .inr ⟨_,rfl,?_⟩|refine⟨(by first|assumption|decide|lia|exact few rfl|exact .inl ⟨⋯,⋯⟩|exact .inr ⟨⋯,⋯⟩|exact .inl ⟨(),()⟩|exact .inr ⟨(),()⟩|exact⟨(),()⟩),?_⟩)
   intro p hp
   exact q p _ hp ⟨_,_,_,zb,(),(),⋯,⋯⟩ (λb' o hb'=>by rw[zd (zg hb' hp)];exact hb')
noncomputable def zjQ:Sp:=λvs H Q _=>∃(a:Addr) (n:Int) (m:Nat),vs=[.ref a, .int m]/\Hand H a n/\n<2^39/\4<=m/\m<=13/\∀(l:Addr) (xs:List Str) (H':Hp),H l=none->H' l=some (.lst (xs.map V.str))->xs.length=m->(∀x∈xs,zj x=true)->xs.Nodup->(∀x∈xs,x≠"nowhere")->Hand H' a (n+4)->Keep a H H'->Q (.ref l) H'
theorem zmT(Y:Ev K mg):FnOk P w K mg base CX0 3 Y.a__law_names Y.d__law_names zbH zjQ:=by
 have G__law_take:FnOk P w K mg base CX0 1 Y.a__law_take Y.d__law_take zN zcZ:=zb9 Y
 have G__law_pick:FnOk P w K mg base CX0 2 Y.a__law_pick Y.d__law_pick zM (zbs K):=zcb Y
 refine Y._law_names.fn.okQ z9 (λvs H Q E h=>?_) `X3
 ·obtain ⟨a,n,m,rfl,_⟩:=h;rfl
 ·obtain ⟨a,n,m,rfl,hH,hn,m4,m13,q⟩:=h
  refine⟨_,(zf (zie 2 z9.nd zai)
   (zf (zie 3 z9.nd (zk G__law_take `U3 Y._law_take.mg Y._law_take.kp Y._law_take.b .nil zm (za (qv 0) (za zh zc))))
   (zf (zie 4 z9.nd (zk G__law_pick `U3 Y._law_pick.mg Y._law_pick.kp Y._law_pick.b .nil zm (za (qv 0) (za (zf1 [V.int 1,V.int 3,V.int 5,V.int 7,V.int 9,V.int 11] `Y3) zc))))
   (zf (ze1 5 (src:=[none,some 3,some 2,some 4]) zdp rfl rfl z9.nd (zda Y.range (za (qv 1) zc)) (λ_ _ _ _ _=>(zn 0 zdp.nd)) (λ_ _ _ _ _=>zek) (λ_ _ _ _ _=>(zB zjT (zaa zoq (qc 2) (zB zbv (zB zZ (qc 1) (zB za0 (qc 3) (qv 0))) zh)) (zB zZ zh (zB zbv (zB zZ (zB za0 (qv 0) (qv 0)) (qc 1)) zh)))))
   (zgm (zap (zL zau (zk G__law_take `U3 Y._law_take.mg Y._law_take.kp Y._law_take.b .nil zm (za (qv 0) (za zh zc))) zh) (zf (zu 6 z9.nd (zf1 [V.str "goal",V.str "to",V.str "by",V.str "houses",V.str "tie",V.str "like",V.str "hand",V.str "keep",V.str "put",V.str "mark",V.str "long",V.str "from",V.str "strike"] `Y3))
   (zf (zu 7 z9.nd (zk G__law_take `U3 Y._law_take.mg Y._law_take.kp Y._law_take.b .nil zm (za (qv 0) (za zh zc))))
   (zi (zci PassesOwn.never rfl (zda Y.range (za (zv (zfb rfl) Y.min ze8 (za (qv 1) (za zh zc))) zc)) (zn 8 z9.nd) (zi (zcD (zaa zO (qv 6) (zB zbv (zB zZ (qv 7) (zB za0 zh (qv 8))) zh)) (zjc (qv 5) (qv 8) zds))))))) zX)
   (zi (zt (qv 5)))))))),?_⟩
  refine⟨_,rfl,a,26,n,rfl,hH,(),⋯,⋯,λf' H1 f0 f26 hH1 k1=>?_⟩
  obtain⟨f,rfl⟩:∃f:Nat,f'=(f:Int):=⟨f'.toNat,()⟩
  refine⟨_,rfl,⋯,λpl hpl=>⟨a,n+1,hH1.new hpl,(), .inl ⟨pl,_,rfl,hH1.ne hpl,SqL.of zb,⋯,⋯,λv H2 hv hH2 k2=>?_⟩⟩⟩
  obtain⟨st,rfl,st0,st11⟩:∃st:Nat,v= .int (st:Int)/\st∈znw/\st<=11:=by
   simp only[X0,E2,or_false] at hv
   rcases hv with rfl|rfl|rfl|rfl|rfl|rfl
   ·exact ⟨1,rfl,⋯,⋯⟩
   ·exact ⟨3,rfl,⋯,⋯⟩
   ·exact ⟨5,rfl,⋯,⋯⟩
   ·exact ⟨7,rfl,⋯,⋯⟩
   ·exact ⟨9,rfl,⋯,⋯⟩
   ·exact ⟨11,rfl,⋯,⋯⟩
  have kp2:Keep a H H2:=k1.trans ((Keep.new hpl).trans k2)
  refine⟨_,rfl,m,rfl,(),(),?_⟩
  refine zcY zcp (λl i ys σ' H'=>(∃o,σ'=[o,some (.int (f:Int)),some (.str zbp),some (.int (st:Int))])/\ys=((List.range i).map (nmS f st)).map V.str/\Hand H' a (n+1+1)/\Keep a H2 H') ?_ (λ_ _ _ _ _ _ _=>trivial) ?_ ?_
  ·exact λl hl=>⟨⟨_,rfl⟩,rfl,hH2.new hl,Keep.new hl⟩
  ·rintro l i y ys σ' H' hl hi rfl ⟨⟨o,rfl⟩,rfl,hH',k'⟩ hl'
   have hi13:i<13:=by have:i<m:=()
                      lia
   have hr26:(f+st*i)%26<26:=Nat.mod_lt _ ⋯
   have ei:((f:Int)+(st:Int)*(0+(i:Int)))%26=(((f+st*i)%26:Nat):Int):=by rw[Int.zero_add];push_cast;rfl
   have ec:atI zbp.cps.toList (((f:Int)+(st:Int)*(0+(i:Int)))%26)=some (97+(f+st*i)%26):=by
    rw[ei];exact zT (zgI _ (List.mem_range.mpr hr26))
   have en:(1+((0+(i:Int))*(0+(i:Int))+(f:Int))%8)=((1+(i*i+f)%8:Nat):Int):=by rw[Int.zero_add];push_cast;rfl
   have g8:(i*i+f)%8<8:=Nat.mod_lt _ ⋯
   refine⟨_,rfl,_,rfl,_,rfl,_,rfl,_,_,rfl,rfl, .inl ⟨(),()⟩,_,_,rfl,rfl,_,_,rfl,rfl,(by decide:(0:Int)<26),zbp,_,_,rfl,rfl,by rw[zjb];decide,ec,_,rfl,_,rfl,_,_,rfl,rfl, .inl ⟨(),()⟩,_,rfl,_,_,rfl,rfl,_,_,rfl,rfl,(by decide:(0:Int)<8),_,_,rfl,rfl,one (97+(f+st*i)%26),_,rfl,rfl,by rw[en];lia,by rw[en];lia,by rw[zln];decide,by rw[zln];decide,?_⟩
   have nl:=hH2.ne hl
   refine⟨hl',?_,⟨_,rfl⟩,?_,hH'.updNe nl,k'.updNew hl⟩
   ·rw[D0,D0,List.length_range];exact zo ()
   ·rw[en,Int.toNat_natCast,List.range_succ,List.map_append,List.map_append];rfl
  ·rintro l ys σ' H3 hl ⟨⟨o,rfl⟩,rfl,hH3,k3⟩ hl'
   have nl:=hH2.ne hl
   rw[Int.toNat_natCast] at hl'
   have e0:(List.range m).map (nmS f st)=(List.range m).map (zaN f st 0 0):=by
    apply List.map_congr_left
    intro k _
    unfold zaN
    rw[N0 ()]
   have hln:H l=none:=by
    cases e:H l with
    |none=>rfl
    |some o=>exact absurd (kp2 l o nl e) (by rw[hl];exact λz=>nomatch z)
   refine⟨λσ' H'=>(∃o6 o7 o8,σ'=[some (.ref a),some (.int m),some (.str zbp),some (.int (f:Int)),some (.int (st:Int)),some (.ref l),o6,o7,o8])/\(∃sp j:Nat,H' l=some (.lst (((List.range m).map (zaN f st sp j)).map V.str))/\sp<13/\j<=4)/\Hand H' a (n+4)/\Keep a H H',?_,?_⟩
   ·refine ⟨_,rfl,a,6,n+1+1,rfl,hH3,(),⋯,⋯,λd H4 d0 d6 hH4 k4=>⟨rfl,_,rfl,zbP (λ_=>?_) (λ_=>?_)⟩⟩
    ·have hl4:=k4 _ _ nl hl'
     have kp4:Keep a H H4:=(kp2.trans k3).trans k4
     refine⟨⋯,λpk hpk=>?_⟩
     have npl:pk≠l:=λz=>by rw[z,hl4] at hpk;cases hpk
     have npa:=hH4.ne hpk
     refine⟨_,rfl,a,13,n+1+1+1,rfl,hH4.new hpk,(),⋯,⋯,λsp' H5 sp0 sp13 hH5 k5=>?_⟩
     obtain⟨sp,rfl⟩:∃f:Nat,sp'=(f:Int):=⟨sp'.toNat,()⟩
     refine⟨_,rfl,_,_,rfl,_,rfl,?_,?_,?_⟩
     ·split<;>lia
     ·split<;>lia
     have e4:(if(4:Int)<(m:Int)then(4:Int)else(m:Int)).toNat=4:=by split<;>lia
     rw[e4]
     refine zaZ zcp (λi σ' H'=>(∃o8,σ'=[some (.ref a),some (.int m),some (.str zbp),some (.int (f:Int)),some (.int (st:Int)),some (.ref l),some (.ref pk),some (.int (sp:Int)),o8])/\H' l=some (.lst (((List.range m).map (zaN f st sp i)).map V.str))/\Hand H' a (n+4)/\Keep a H H'/\H' pk=some (.lst (zdM.map V.str))) ?_ (λ_ _ _ _=>trivial) ?_ ?_
     ·refine ⟨⟨_,rfl⟩,?_,hH5.mono (),kp4.trans ((Keep.new hpk).trans k5),k5 _ _ npa zb⟩
      have e0':(List.range m).map (nmS f st)=(List.range m).map (zaN f st sp 0):=by
       apply List.map_congr_left
       intro k _
       unfold zaN
       rw[N0 ()]
      rw[←e0']
      exact k5 _ _ nl (by rw[zd (Ne.symm npl)];exact hl4)
     ·rintro i y σ' H6 hi4 rfl ⟨⟨o8,rfl⟩,hz,hH6,k6,hp6⟩
      have ek:((sp:Int)+3*(0+(i:Int)))%13=(((sp+3*i)%13:Nat):Int):=by rw[Int.zero_add];push_cast;rfl
      have ev:atI (zdM.map V.str) (((sp:Int)+3*(0+(i:Int)))%13)=some (.str (kwS sp i)):=by
       rw[ek];exact zT (by rw[U0,zp7];rfl)
      have hix:ixN (((List.range m).map (zaN f st sp i)).map V.str).length (0+(i:Int))=some i:=by
       unfold ixN
       rw[R0 (),R0 (by rw[D0,D0,List.length_range];lia)]
       congr 1
       lia
      refine⟨_,rfl,_,rfl,_,rfl,_,_,rfl,rfl, .inl ⟨⋯,⋯⟩,_,_,rfl,rfl,_,_,rfl,rfl,(by decide:(0:Int)<13),pk,_,_,_,rfl,rfl,SqL.of hp6,ev,_,rfl,_,rfl,l,_,_,i,rfl,rfl,hz,hix,?_⟩
      refine⟨⟨_,rfl⟩,?_,hH6.updNe nl,k6.updNew hln,by rw[zd npl];exact hp6⟩
      rw[zb,←List.map_set,znK ()]
     ·rintro σ' H6 ⟨⟨o8,rfl⟩,hz,hH6,k6,_⟩
      exact⟨⟨_,_,_,rfl⟩,⟨sp,4,hz,(),⋯⟩,hH6,k6⟩
    ·rw[e0] at hl'
     exact⟨⟨_,_,_,rfl⟩,⟨0,0,k4 _ _ nl hl',⋯,⋯⟩,hH4.mono (),(kp2.trans k3).trans k4⟩
   ·rintro σ' H' ⟨⟨o6,o7,o8,rfl⟩,⟨sp,j,hz,hsp,hj⟩,hH',k'⟩
    refine⟨_,rfl,q l _ H' hln hz (by rw[D0,List.length_range]) (λx hx=>?_) (zjL () st0 hsp hj m13) (λx hx=>?_) hH' k'⟩
    ·obtain ⟨k,_,rfl⟩:=y1.mp hx
     exact zqF _ _ _ _ _
    ·obtain ⟨k,_,rfl⟩:=y1.mp hx
     exact zm1 _ _ _ _ _
def NL(O:List Str)(H:Hp)(l:Addr):Prop:=∃xs:List Str,H l=some (.lst (xs.map V.str))/\0<xs.length/\xs.length<=100/\∀x∈xs,zj x=true/\x∈O
theorem NL.keep(h:NL O H l)(k:Keep a H H')(n:l≠a):NL O H' l:=let⟨xs,e,r⟩:=h;⟨xs,k _ _ n e,r⟩
theorem NL.same(h:NL O H l)(k:Same H H'):NL O H' l:=let⟨xs,e,r⟩:=h;⟨xs,k _ _ e,r⟩
theorem zcx{n:Int}{Q:VK}(hH:Hand H a n)(hn:n<2^40)(hl:NL O H l)(hla:l≠a)(q:∀x H',(zj x=true/\x∈O)->Hand H' a (n+1)->Keep a H H'->Q (.str x) H'):zbs K [.ref a, .ref l] H Q E0:=by
 obtain⟨xs,e,x0,x1,hx⟩:=hl
 refine⟨a,n,hH,hn, .inl ⟨l,_,rfl,hla,SqL.of e,by rw[D0];exact x0,by rw[D0];lia,λv H' hv hH' k'=>?_⟩⟩
 obtain⟨x,hxx,rfl⟩:=y1.mp hv
 exact q x H' (hx x hxx) hH' k'
theorem zas(h:zj x=true):x.length<=1000:=by
 unfold zj at h
 simp only[W0,decide_eq_true_eq] at h
 lia
theorem zdW(hy:y∈zbC)(hx:zj x=true):zD (.tup [.str y, .str x])=true:=by
 have h1:¬y="long":=by
  intro z
  subst z
  revert hy
  decide +kernel
 have h2:(zbC.any λz=>decide (z=y))=true:=List.any_eq_true.mpr ⟨y,hy,Y0 rfl⟩
 rw[zem,N0 h1,h2,zjK,hx];rfl
theorem zky(h:zD d=true):zC d=true:=by
 obtain⟨x,e,rfl⟩:=zb6 d h
 by_cases hx:x="not"
 ·subst hx;rw[zdE] at h;cases h
 ·rw[zeO,N0 hx];exact h
theorem zj2(h:zD d=true)(ha:zfm d=false):zer d=false:=by
 obtain⟨x,e,rfl⟩:=zb6 d h
 by_cases hx:x="not"
 ·subst hx;rw[zdE] at h;cases h
 ·show (if x="not"then zfm e else decide (x="to"))=false
  rw[N0 hx];exact ha
noncomputable def znQ:Sp:=λvs H Q _=>∃(a h m:Addr) (n:Int) (to:Bool) (O:List Str),vs=[.ref a, .ref h, .ref m, .bl to]/\Hand H a n/\n<2^39/\NL O H h/\NL O H m/\h≠a/\m≠a/\∀v d H',Rep H' v d->(zC d=true/\za3 O d=true)->(to=false->zer d=false)->Hand H' a (n+4)->Keep a H H'->Q v H'
theorem zpq(Y:Ev K mg):FnOk P w K mg base CX0 3 Y.a__law_cond Y.d__law_cond zb8 znQ:=by
 have G__law_take:FnOk P w K mg base CX0 1 Y.a__law_take Y.d__law_take zN zcZ:=zb9 Y
 have G__law_pick:FnOk P w K mg base CX0 2 Y.a__law_pick Y.d__law_pick zM (zbs K):=zcb Y
 refine Y._law_cond.fn.okQ zaj (λvs H Q E h=>?_) `X3
 ·obtain ⟨a,h,m,n,to,O,rfl,_⟩:=h;rfl
 ·obtain ⟨a,h,m,n,to,O,rfl,hH,hn,hh,hm,nh,nm,q⟩:=h
  refine⟨_,(zf (zu 4 zaj.nd (zk G__law_take `U3 Y._law_take.mg Y._law_take.kp Y._law_take.b .nil zm (za (qv 0) (za (zB zZ zh (zaf zdG Y.int zeT (za (qv 3) zc))) zc))))
   (zf (zu 5 zaj.nd (zG (za zai (za (zk G__law_pick `U3 Y._law_pick.mg Y._law_pick.kp Y._law_pick.b .nil zm (za (qv 0) (za (qv 1) zc))) zc))))
   (zgm (zap (t_w (zqr (zL zau (qv 4) zh) (zlb (zL zau (qv 4) zh)))) (zi (zu 5 zaj.nd (zG (za zai (za (zk G__law_pick `U3 Y._law_pick.mg Y._law_pick.kp Y._law_pick.b .nil zm (za (qv 0) (za (qv 1) zc))) zc))))) (zi (zap (zL zau (qv 4) zh) (zi (zu 5 zaj.nd (zG (za zai (za (zk G__law_pick `U3 Y._law_pick.mg Y._law_pick.kp Y._law_pick.b .nil zm (za (qv 0) (za (zf1 [V.int 0,V.int 1,V.int 2,V.int 3,V.int 4,V.int 99] `Y3) zc))) zc))))) (zi (zap (zL zau (qv 4) zh) (zi (zu 5 zaj.nd (zG (za zai (za (zk G__law_pick `U3 Y._law_pick.mg Y._law_pick.kp Y._law_pick.b .nil zm (za (qv 0) (za (qv 2) zc))) zc))))) (zi (zap (zL zau (qv 4) zh) (zi (zu 5 zaj.nd (zG (za zai (za (zk G__law_pick `U3 Y._law_pick.mg Y._law_pick.kp Y._law_pick.b .nil zm (za (qv 0) (za (qv 1) zc))) zc))))) zX)))))))
   (zgm (zap (zL zau (zk G__law_take `U3 Y._law_take.mg Y._law_take.kp Y._law_take.b .nil zm (za (qv 0) (za zh zc))) zh) (zi (zu 5 zaj.nd (zG (za zai (za (qv 5) zc))))) zX)
   (zi (zt (qv 5))))))),?_⟩
  refine⟨_,rfl,_,rfl, .inr ⟨to,rfl,_,_,rfl,rfl,a,_,n,rfl,hH,(),by split<;>lia,by split<;>lia,λt H1 t0 t5 hH1 k1=>?_⟩⟩
  refine⟨_,rfl,_,rfl,zcx hH1 () (hh.keep k1 nh) nh λx H2 hx hH2 k2=>⟨few rfl,λp2 hp2=>?_⟩⟩
  have mk2:∀{H0:Hp} {p:Addr} {y x:Str},y.length<=1000->(zj x=true/\x∈O)->Rep (upd H0 p (.tup [.str y, .str x])) (.ref p) (.tup [.str y, .str x]):=λhy hx=> .mk2 zb (.str _ hy) (.str _ (zas hx.1))
  have hh2:NL O (upd H2 p2 (.tup [.str "by", .str x])) h:=((hh.keep k1 nh).keep k2 nh).same (Same.new hp2)
  have hm2:NL O (upd H2 p2 (.tup [.str "by", .str x])) m:=((hm.keep k1 nm).keep k2 nm).same (Same.new hp2)
  have hH2':=hH2.new (o:= .tup [.str "by", .str x]) hp2
  have kp2:Keep a H (upd H2 p2 (.tup [.str "by", .str x])):=(k1.trans k2).trans (Keep.new hp2)
  refine⟨λσ' H'=>∃v d,σ'=[some (.ref a),some (.ref h),some (.ref m),some (.bl to),some (.int t),some v]/\Rep H' v d/\(zD d=true/\zP O d=true)/\(to=false->zfm d=false)/\Hand H' a (n+3)/\Keep a H H',?_,?_⟩
  ·have ap:∀{y x:Str},¬y="to"->zfm (.tup [.str y, .str x])=false:=λh=>E1 h
   have br:∀{y:Str},y.length<=1000->y∈zbC->¬y="to"->∀(l:Addr),l≠a->NL O (upd H2 p2 (.tup [.str "by", .str x])) l->∀R:V->Hp->Prop,(∀v d H',Rep H' v d->(zD d=true/\zP O d=true)->(to=false->zfm d=false)->Hand H' a (n+3)->Keep a H H'->R v H')->
    zbs K [.ref a, .ref l] (upd H2 p2 (.tup [.str "by", .str x])) (λv H3=> [V.str y,v].length<=sizeLine/\∀p,H3 p=none->R (.ref p) (upd H3 p (.tup [V.str y,v]))) E0:=by
    intro y hy hyn hyt l nl hl R hR
    refine zcx hH2' () hl nl λx3 H3 hx3 hH3 k3=>⟨few rfl,λp3 hp3=>?_⟩
    exact hR _ _ _ (mk2 hy hx3) ⟨zdW hyn hx3.1,zbq hx3.2⟩ (λ_=>ap hyt) ((hH3.new hp3).mono ()) ((kp2.trans k3).trans (Keep.new hp3))
   have fin:∀v d H',Rep H' v d->(zD d=true/\zP O d=true)->(to=false->zfm d=false)->Hand H' a (n+3)->Keep a H H'->(λ(v:V) (H':Hp)=>∃v0 d,[some (V.ref a),some (.ref h),some (.ref m),some (.bl to),some (.int t),some v]=[some (.ref a),some (.ref h),some (.ref m),some (.bl to),some (.int t),some v0]/\Rep H' v0 d/\(zD d=true/\zP O d=true)/\(to=false->zfm d=false)/\Hand H' a (n+3)/\Keep a H H') v H':=
    λv d H' h1 h2 h3 h4 h5=>⟨v,d,rfl,h1,h2,h3,h4,h5⟩
   refine⟨_,rfl,rfl,_,rfl,zbP (λ_=>?_) (λ_=>⟨_,rfl,rfl,_,rfl,zbP (λ_=>?_) (λ_=>?_)⟩)⟩
   ·exact ⟨_,rfl,_,rfl,br ⋯ ⋯ `Y3 h nh hh2 _ fin⟩
   ·exact ⟨_,rfl,_,rfl,br ⋯ ⋯ `Y3 h nh hh2 _ fin⟩
   refine⟨_,rfl,rfl,_,rfl,zbP (λ_=>?_) (λ_=>⟨_,rfl,rfl,_,rfl,zbP (λ_=>?_) (λ_=>⟨_,rfl,rfl,_,rfl,zbP (λh5=>?_) (λ_=>?_)⟩)⟩)⟩
   ·refine ⟨_,rfl,⋯,λpl hpl=>⟨a,n+2,(hH2'.mono ()).new hpl,(), .inl ⟨pl,_,rfl,hH2'.ne hpl,SqL.of zb,⋯,⋯,λv H3 hv hH3 k3=>⟨few rfl,λp3 hp3=>?_⟩⟩⟩⟩
    have hk:∃j:Int,v= .int j/\0<=j/\j<=99:=by
     simp only[X0,E2,or_false] at hv
     rcases hv with rfl|rfl|rfl|rfl|rfl|rfl<;>exact ⟨_,rfl,⋯,⋯⟩
    obtain⟨j,rfl,j0,j9⟩:=hk
    refine fin _ (.tup [.str "long", .int j]) _ (.mk2 zb (.str _ ⋯) (.int _)) ?_ (λ_=>(by decide +kernel:decide (("long":Str)="to")=false)) ((hH3.new hp3).mono ()) ((kp2.trans ((Keep.new hpl).trans k3)).trans (Keep.new hp3))
    refine⟨?_,rfl⟩
    rw[zem,R0 rfl]
    show(decide (0<=j)&&decide (j<=99))=true
    rw[Y0 j0,Y0 j9];rfl
   ·exact ⟨_,rfl,_,rfl,br ⋯ ⋯ `Y3 m nm hm2 _ fin⟩
   ·refine ⟨_,rfl,_,rfl,zcx hH2' () hh2 nh λx3 H3 hx3 hH3 k3=>⟨few rfl,λp3 hp3=>?_⟩⟩
    refine fin _ _ _ (mk2 ⋯ hx3) ⟨zdW ⋯ hx3.1,zbq hx3.2⟩ (λz=>?_) ((hH3.new hp3).mono ()) ((kp2.trans k3).trans (Keep.new hp3))
    subst z
    have e5:t=5:=V.int.inj (S0 h5)
    simp at t5
    lia
   ·exact fin _ _ _ (mk2 ⋯ hx) ⟨zdW ⋯ hx.1,zbq hx.2⟩ (λ_=>ap `Y3) (hH2'.mono ()) kp2
  ·rintro σ' H3 ⟨v,d,rfl,hv,hd,hto,hH3,k3⟩
   refine⟨λσ' H'=>∃v d,σ'=[some (.ref a),some (.ref h),some (.ref m),some (.bl to),some (.int t),some v]/\Rep H' v d/\(zC d=true/\za3 O d=true)/\(to=false->zer d=false)/\Hand H' a (n+4)/\Keep a H H',?_,?_⟩
   ·refine ⟨_,rfl,a,4,n+3,rfl,hH3,(),⋯,⋯,λd4 H4 _ _ hH4 k4=>⟨rfl,_,rfl,zbP (λ_=>?_) (λ_=>?_)⟩⟩
    ·have hv4:=hv.mono (Mono.keep k4 hH3 hH4)
     refine⟨_,rfl,few rfl,λp5 hp5=>⟨_, .tup [.str "not",d],rfl, .mk2 zb (.str _ ⋯) (hv4.mono (.new hp5)),?_,?_,(hH4.new hp5).mono (),(k3.trans k4).trans (Keep.new hp5)⟩⟩
     ·exact ⟨by rw[zeO,R0 rfl];exact hd.1,zkf hd.2⟩
     ·exact λz=>hto z
    ·refine ⟨_,d,rfl,hv.mono (Mono.keep k4 hH3 hH4),⟨zky hd.1,zmE hd.1 hd.2⟩,λz=>zj2 hd.1 (hto z),hH4.mono (),k3.trans k4⟩
   ·rintro σ' H4 ⟨v,d,rfl,hv,hd,hto,hH4,k4⟩
    exact⟨_,rfl,q v d H4 hv hd hto hH4 k4⟩
theorem zjs(hl:ds.length<=4)(h:∀d∈ds,zC d=true):zan (.tup ds)=true:=by
 rw[zi9,Y0 hl,F2.mpr h];rfl
theorem zfY{P:α->Prop}{ds:List α}(h:∀(i:Nat) (d:α),ds[i]?=some d->P d):∀d∈ds,P d:=λd hd=>by
 obtain⟨i,hi,e⟩:=K2 hd
 exact h i d (by rw[F0 hi,e])
noncomputable def zio:Sp:=λvs H Q _=>∃(a h m:Addr) (n:Int) (to:Bool) (O:List Str),vs=[.ref a, .ref h, .ref m, .bl to]/\Hand H a n/\n<2^38/\NL O H h/\NL O H m/\h≠a/\m≠a/\∀v ds H',Rep H' v (.tup ds)->ds.length<=4->(∀d∈ds,zC d=true)->(∀d∈ds,za3 O d=true)->(to=false->∀d∈ds,zer d=false)->Hand H' a (n+17)->Keep a H H'->Q v H'
theorem zjp(Y:Ev K mg):FnOk P w K mg base CX0 4 Y.a__law_conds Y.d__law_conds zaT zio:=by
 have G__law_pick:FnOk P w K mg base CX0 2 Y.a__law_pick Y.d__law_pick zM (zbs K):=zcb Y
 have G__law_cond:FnOk P w K mg base CX0 3 Y.a__law_cond Y.d__law_cond zb8 znQ:=zpq Y
 refine Y._law_conds.fn.okQ zex (λvs H Q E h=>?_) `X3
 ·obtain ⟨a,h,m,n,to,O,rfl,_⟩:=h;rfl
 ·obtain ⟨a,h,m,n,to,O,rfl,hH,hn,hh,hm,nh,nm,q⟩:=h
  refine⟨_,(zf (zu 4 zex.nd (zk G__law_pick `U3 Y._law_pick.mg Y._law_pick.kp Y._law_pick.b .nil zm (za (qc 0) (za (zf1 [V.int 1,V.int 1,V.int 1,V.int 2,V.int 0,V.int 4] `Y3) zc))))
   (zi (zt (zaf zW Y.tuple zbn (za (zeX (src:=[none,some 0,some 1,some 2,some 3]) zc8 rfl rfl (zda Y.range (za (qv 4) zc)) (λ_ _ _ _ _=>(zn 0 zc8.nd)) (λ_ _ _ _ _=>zek) (λ_ _ _ _ _=>(zk G__law_cond `U3 Y._law_cond.mg Y._law_cond.kp Y._law_cond.b .nil zm (za (qc 1) (za (qc 2) (za (qc 3) (za (qc 4) zc))))))) zc))))),?_⟩
  refine⟨_,rfl,⋯,λpl hpl=>⟨a,n,hH.new hpl,(), .inl ⟨pl,_,rfl,hH.ne hpl,SqL.of zb,⋯,⋯,λv H1 hv hH1 k1=>?_⟩⟩⟩
  obtain⟨c,rfl,c4⟩:∃c:Nat,v= .int (c:Int)/\c<=4:=by
   simp only[X0,E2,or_false] at hv
   rcases hv with rfl|rfl|rfl|rfl|rfl|rfl
   ·exact ⟨1,rfl,⋯⟩
   ·exact ⟨1,rfl,⋯⟩
   ·exact ⟨1,rfl,⋯⟩
   ·exact ⟨2,rfl,⋯⟩
   ·exact ⟨0,rfl,⋯⟩
   ·exact ⟨4,rfl,⋯⟩
  have kp1:Keep a H H1:=(Keep.new hpl).trans k1
  have hh1:=(hh.same (Same.new (o:= .lst [V.int 1,V.int 1,V.int 1,V.int 2,V.int 0,V.int 4]) hpl)).keep k1 nh
  have hm1:=(hm.same (Same.new (o:= .lst [V.int 1,V.int 1,V.int 1,V.int 2,V.int 0,V.int 4]) hpl)).keep k1 nm
  refine⟨_,rfl,c,rfl,(),(),?_⟩
  rw[Int.toNat_natCast]
  refine zkj (a:=a) (m:=n+1) (c:=4) (Pd:=λ_ d=>(zC d=true/\za3 O d=true)/\(to=false->zer d=false)) (σr:=[some (.ref a),some (.ref h),some (.ref m),some (.bl to)]) rfl hH1 () ⋯ (λj H2 Q1 hj hH2 k2 q1=>?_) (λl vs ds H2 hl hl2 r2 hds pd hH2 k2=>?_)
  ·exact ⟨_,rfl,_,rfl,_,rfl,_,rfl,a,h,m,_,to,O,rfl,hH2,(),hh1.keep k2 nh,hm1.keep k2 nm,nh,nm,λv d H3 rv hc ht hH3 k3=>q1 v d H3 rv ⟨hc,ht⟩ hH3 k3⟩
  ·refine ⟨l,vs,rfl, .inl ⟨SqL.of hl2,λp hp=>?_⟩⟩
   have pd':=zfY (P:=λd=>(zC d=true/\za3 O d=true)/\(to=false->zer d=false)) pd
   exact q _ ds _ (.mkL zb () (r2.mono (.new hp))) () (λd hd=>(pd' d hd).1.1) (λd hd=>(pd' d hd).1.2) (λz d hd=>(pd' d hd).2 z) ((hH2.new hp).mono ()) ((kp1.trans k2).trans (Keep.new hp))
def zq0(g:D->Bool)(H':Hp)(ls:Addr)(i:Nat):Prop:=∃(zs:List V) (ds:List D),H' ls=some (.lst zs)/\RepL H' zs ds/\ds.length=i/\∀d∈ds,g d=true
noncomputable def zfB(g:List Str->D->Bool):Sp:=λvs H Q _=>∃(a h m:Addr) (n:Int) (O:List Str),vs=[.ref a, .ref h, .ref m]/\Hand H a n/\n<2^37/\NL O H h/\NL O H m/\h≠a/\m≠a/\∀v ds H',Rep H' v (.tup ds)->ds.length<=12->(∀d∈ds,g O d=true)->Hand H' a (n+400)->Keep a H H'->Q v H'
theorem zmR{x:D}(hl:ds.length<=4)(h:∀d∈ds,zC d=true)(ha:∀d∈ds,zer d=false)(hx:zbl x=true):zI (.tup [.tup ds,x])=true:=by
 rw[zl9,zjs hl h,hx]
 have:zeq (.tup ds)=false:=by
  show ds.any zer=false
  rw[List.any_eq_false]
  exact λd hd z=>by rw[ha d hd] at z;cases z
 rw[this];rfl
theorem zkx(Y:Ev K mg):FnOk P w K mg base CX0 5 Y.a__law_likings Y.d__law_likings zaV (zfB zhN):=by
 have G__law_take:FnOk P w K mg base CX0 1 Y.a__law_take Y.d__law_take zN zcZ:=zb9 Y
 have G__law_pick:FnOk P w K mg base CX0 2 Y.a__law_pick Y.d__law_pick zM (zbs K):=zcb Y
 have G__law_conds:FnOk P w K mg base CX0 4 Y.a__law_conds Y.d__law_conds zaT zio:=zjp Y
 refine Y._law_likings.fn.okQ zaW (λvs H Q E h=>?_) `X3
 ·obtain ⟨a,h,m,n,O,rfl,_⟩:=h;rfl
 ·obtain ⟨a,h,m,n,O,rfl,hH,hn,hh,hm,nh,nm,q⟩:=h
  refine⟨_,(zf (zu 3 zaW.nd (zcj zc))
   (zf (zci PassesOwn.never rfl (zda Y.range (za (zB zZ (zk G__law_take `U3 Y._law_take.mg Y._law_take.kp Y._law_take.b .nil zm (za (qv 0) (za zh zc))) (zB za0 zh (zaf zdG Y.int zeT (za (zdR zau (zk G__law_take `U3 Y._law_take.mg Y._law_take.kp Y._law_take.b .nil zm (za (qv 0) (za zh zc))) zh) zc)))) zc)) (zn 4 zaW.nd) (zf (zu 5 zaW.nd (zk G__law_pick `U3 Y._law_pick.mg Y._law_pick.kp Y._law_pick.b .nil zm (za (qv 0) (za (zcj (za zh (za zh (za zh (za (zlW zeZ zh) (za zh (za zh (za (zlW zeZ zh) (za zc6 zc))))))))) zc))))
   (zi (zaK (zg4 F.plainAttrs_list F.slot_list_append F.type_list_append zba (qv 3) (za (zG (za (zk G__law_conds `U3 Y._law_conds.mg Y._law_conds.kp Y._law_conds.b .nil zm (za (qv 0) (za (qv 1) (za (qv 2) (za zfz zc))))) (za (qv 5) zc))) zc))))))
   (zi (zt (zaf zW Y.tuple zbn (za (qv 3) zc)))))),?_⟩
  refine⟨few rfl,λls hls=>?_⟩
  have nls:=hH.ne hls
  refine⟨_,rfl,a,4,n,rfl,hH.new hls,(),⋯,⋯,λt H1 t0 t4 hH1 k1=>⟨_,rfl,a,8,n+1,rfl,hH1,(),⋯,⋯,λu H2 u0 u8 hH2 k2=>?_⟩⟩
  have hl1:H1 ls=some (.lst []):=k1 _ _ nls zb
  have hl2:H2 ls=some (.lst []):=k2 _ _ nls hl1
  have kp2:Keep a H H2:=((Keep.new hls).trans k1).trans k2
  refine⟨rfl, .inr ⟨_,rfl,_,_,rfl,rfl, .inl ⟨⋯,⋯⟩,_,_,rfl,rfl,_,rfl,?_,?_,?_⟩⟩
  ·split<;>lia
  ·split<;>lia
  have hN:(t+9*(if decide (V.int u=V.int 0)=true then(1:Int)else 0)).toNat<=12:=by split<;>lia
  generalize (t+9*(if decide (V.int u=V.int 0)=true then(1:Int)else 0)).toNat=N at *
  refine zaZ zcp (λi σ' H'=>(∃o1 o2,σ'=[some (.ref a),some (.ref h),some (.ref m),some (.ref ls),o1,o2])/\zq0 (zhN O) H' ls i/\Hand H' a (n+2+18*i)/\Keep a H H') ?_ (λ_ _ _ _=>trivial) ?_ ?_
  ·exact ⟨⟨_,_,rfl⟩,⟨[],[],hl2,RepL.nil,rfl,λ_ z=>nomatch z⟩,hH2.mono (),kp2⟩
  ·rintro i y σ' H3 hi rfl ⟨⟨o1,o2,rfl⟩,⟨zs,ds,hz,rz,hdl,hds⟩,hH3,k3⟩
   have rz1:=rz.1
   refine⟨_,rfl,zrz (ds:=[.int 5, .int 5, .int 1, .int (-3), .int 0, .int 999, .int (-999), .non]) (by (repeat' (first|exact dsp_str ⋯|exact zpL|exact dsp_bl|exact zqw|exact zpU|exact znC|exact dsp_dnew|exact dsp_disp rfl|exact zpX rfl (by assumption)|refine zmL ?_ ?_|refine dsp_tup ?_ ?_|refine dsp_lst' ?_|refine n_cons ?_ ?_|exact n_nil|exact v_c|exact v_var rfl|refine v_tup ?_|refine zn0 ?_ ?_|refine dspl_cat ?_ ?_ ?_|exact dspl_var rfl (by assumption) (by assumption)|exact Nat.le_of_ble_eq_true rfl))) λl4 vs4 H4 s4 e4 r4=>?_⟩
   refine⟨a,_,hH3.same s4,(), .inl ⟨l4,_,rfl,zkN (hH3.same s4) e4 r4 ⋯,SqL.of e4,by rw[r4.1];decide,by rw[r4.1];decide,λv H5 hv hH5 k5=>?_⟩⟩
   obtain⟨dn,rn,hw,hwo⟩:∃dn,Rep H5 v dn/\zbl dn=true/\zP O dn=true:=by
    obtain⟨j,hj,ej⟩:=K2 hv
    obtain⟨d,hd,rd⟩:=r4.get (i:=j) (v:=v) (by rw[F0 hj,ej])
    refine⟨d,rd.mono (.keep k5 (hH3.same s4) hH5),?_⟩
    have key:∀d∈([.int 5, .int 5, .int 1, .int (-3), .int 0, .int 999, .int (-999), .non]:List D),zbl d=true/\zP O d=true:=by (repeat' (first|exact zkY|refine List.forall_mem_append.mpr ⟨?_,?_⟩|refine List.forall_mem_cons.mpr ⟨?_,?_⟩))<;>exact ⟨⋯,rfl⟩
    exact key d (D1 hd)
   have k35:Keep a H3 H5:=(Keep.of s4).trans k5
   have hz5:=k35 _ _ nls hz
   have hh5:=(hh.keep k3 nh).keep k35 nh
   have hm5:=(hm.keep k3 nm).keep k35 nm
   refine⟨_,rfl, .inl ⟨rfl,_,SqL.of hz5⟩,_,rfl,_,rfl,_,rfl,a,h,m,_,false,O,rfl,hH5,(),hh5,hm5,nh,nm,λvc dc H6 rc lc hc hco hto hH6 k6=>⟨_,rfl,few rfl,λp7 hp7=>?_⟩⟩
   have m36:Mono H3 H6:=(Mono.keep k35 hH3 hH5).trans (.keep k6 hH5 hH6)
   have hz7:upd H6 p7 (.tup [vc,v]) ls=some (.lst zs):=by rw[zd (zg (k6 _ _ nls hz5) hp7)];exact k6 _ _ nls hz5
   refine⟨ls,_,_,rfl,rfl,hz7,zo (),⟨_,_,rfl⟩,⟨_,ds ++ [.tup [.tup dc,dn]],zb,?_,?_,?_⟩,?_,?_⟩
   ·exact RepL.mono (.append ((rz.mono m36).mono (.new hp7)) (.cons (.mk2 zb (rc.mono (.new hp7)) ((rn.mono (.keep k6 hH5 hH6)).mono (.new hp7))) .nil)) (.lset hz7)
   ·rw[F1,hdl];rfl
   ·intro d hd
    rcases Q2.mp hd with hd|hd
    ·exact hds d hd
    ·rw[C2.mp hd];exact W0 _ _▸⟨zmR lc hc (hto rfl) hw,zhk hco hwo⟩
   ·exact ((hH6.new hp7).updNe nls).mono (by rw[show((i+1:Nat):Int)=(i:Int)+1 by lia];lia)
   ·exact Keep.updNew ((k3.trans (k35.trans k6)).trans (Keep.new hp7)) hls
  ·rintro σ' H3 ⟨⟨o1,o2,rfl⟩,⟨zs,ds,hz,rz,hdl,hds⟩,hH3,k3⟩
   refine⟨_,rfl,ls,zs,rfl, .inl ⟨SqL.of hz,λp hp=>?_⟩⟩
   exact q _ ds _ (.mkL zb () (rz.mono (.new hp))) () hds ((hH3.new hp).mono ()) (k3.trans (Keep.new hp))
theorem zpA{x:D}(hl:ds.length<=4)(h:∀d∈ds,zC d=true)(hx:zbT x=true):zbd (.tup [.tup ds,x])=true:=by
 rw[zqk,zjs hl h,hx];rfl
theorem znG(hx:zj x=true)(hy:y="put"\/y="strike"):zbT (.tup [.str y, .str x])=true:=by
 rw[zr5,zjK,hx]
 rcases hy with rfl|rfl<;>decide +kernel
theorem zog(Y:Ev K mg):FnOk P w K mg base CX0 5 Y.a__law_hands Y.d__law_hands zbF (zfB zhV):=by
 have G__law_take:FnOk P w K mg base CX0 1 Y.a__law_take Y.d__law_take zN zcZ:=zb9 Y
 have G__law_pick:FnOk P w K mg base CX0 2 Y.a__law_pick Y.d__law_pick zM (zbs K):=zcb Y
 have G__law_conds:FnOk P w K mg base CX0 4 Y.a__law_conds Y.d__law_conds zaT zio:=zjp Y
 refine Y._law_hands.fn.okQ zbL (λvs H Q E h=>?_) `X3
 ·obtain ⟨a,h,m,n,O,rfl,_⟩:=h;rfl
 ·obtain ⟨a,h,m,n,O,rfl,hH,hn,hh,hm,nh,nm,q⟩:=h
  refine⟨_,(zf (zu 3 zbL.nd (zcj zc))
   (zf (zci PassesOwn.never rfl (zda Y.range (za (zB zZ (zk G__law_pick `U3 Y._law_pick.mg Y._law_pick.kp Y._law_pick.b .nil zm (za (qv 0) (za (zf1 [V.int 0,V.int 0,V.int 1,V.int 2] `Y3) zc))) (zB za0 zh (zaf zdG Y.int zeT (za (zdR zau (zk G__law_take `U3 Y._law_take.mg Y._law_take.kp Y._law_take.b .nil zm (za (qv 0) (za zh zc))) zh) zc)))) zc)) (zn 4 zbL.nd) (zf (zu 5 zbL.nd (zk G__law_pick `U3 Y._law_pick.mg Y._law_pick.kp Y._law_pick.b .nil zm (za (qv 0) (za (zcj (za (zG (za zai zc)) (za (zG (za zai (za (zk G__law_pick `U3 Y._law_pick.mg Y._law_pick.kp Y._law_pick.b .nil zm (za (qv 0) (za (qv 2) zc))) zc))) (za (zG (za zai (za (zk G__law_pick `U3 Y._law_pick.mg Y._law_pick.kp Y._law_pick.b .nil zm (za (qv 0) (za (qv 2) zc))) zc))) zc)))) zc))))
   (zi (zaK (zg4 F.plainAttrs_list F.slot_list_append F.type_list_append zba (qv 3) (za (zG (za (zk G__law_conds `U3 Y._law_conds.mg Y._law_conds.kp Y._law_conds.b .nil zm (za (qv 0) (za (qv 1) (za (qv 2) (za zfz zc))))) (za (qv 5) zc))) zc))))))
   (zi (zt (zaf zW Y.tuple zbn (za (qv 3) zc)))))),?_⟩
  refine⟨few rfl,λls hls=>?_⟩
  have nls:=hH.ne hls
  have hH0:=hH.new (o:= .lst []) hls
  refine⟨_,rfl,⋯,λpk hpk=>⟨a,n,hH0.new hpk,(), .inl ⟨pk,_,rfl,hH0.ne hpk,SqL.of zb,⋯,⋯,λv H1 hv hH1 k1=>?_⟩⟩⟩
  obtain⟨c,rfl,c0,c4⟩:∃c:Int,v= .int c/\0<=c/\c<=4:=by
   simp only[X0,E2,or_false] at hv
   rcases hv with rfl|rfl|rfl|rfl<;>exact ⟨_,rfl,⋯,⋯⟩
  refine⟨_,rfl,a,8,n+1,rfl,hH1,(),⋯,⋯,λu H2 u0 u8 hH2 k2=>?_⟩
  have hl0:upd H ls (.lst []) ls=some (.lst []):=zb
  have hl1:H1 ls=some (.lst []):=k1 _ _ nls (by rw[zd (zg hl0 hpk)];exact hl0)
  have hl2:H2 ls=some (.lst []):=k2 _ _ nls hl1
  have kp2:Keep a H H2:=((Keep.new hls).trans ((Keep.new hpk).trans k1)).trans k2
  refine⟨rfl, .inr ⟨_,rfl,_,_,rfl,rfl, .inl ⟨⋯,⋯⟩,_,_,rfl,rfl,_,rfl,?_,?_,?_⟩⟩
  ·split<;>lia
  ·split<;>lia
  have hN:(c+8*(if decide (V.int u=V.int 0)=true then(1:Int)else 0)).toNat<=12:=by split<;>lia
  generalize (c+8*(if decide (V.int u=V.int 0)=true then(1:Int)else 0)).toNat=N at *
  refine zaZ zcp (λi σ' H'=>(∃o1 o2,σ'=[some (.ref a),some (.ref h),some (.ref m),some (.ref ls),o1,o2])/\zq0 (zhV O) H' ls i/\Hand H' a (n+2+20*i)/\Keep a H H') ?_ (λ_ _ _ _=>trivial) ?_ ?_
  ·exact ⟨⟨_,_,rfl⟩,⟨[],[],hl2,RepL.nil,rfl,λ_ z=>nomatch z⟩,hH2.mono (),kp2⟩
  ·rintro i y σ' H3 hi rfl ⟨⟨o1,o2,rfl⟩,⟨zs,ds,hz,rz,hdl,hds⟩,hH3,k3⟩
   have rz1:=rz.1
   refine⟨_,rfl,few rfl,λp1 hp1=>?_⟩
   have S1:Same H3 (upd H3 p1 (.tup [.str "keep"])):=Same.new hp1
   have hm3:=hm.keep k3 nm
   have hh3:=hh.keep k3 nh
   refine⟨_,rfl,_,rfl,zcx (hH3.new hp1) () (hm3.same S1) nm λx H4 hx hH4 k4=>⟨few rfl,λp2 hp2=>?_⟩⟩
   have S2:Same H4 (upd H4 p2 (.tup [.str "put", .str x])):=Same.new hp2
   refine⟨_,rfl,_,rfl,zcx (hH4.new hp2) () (((hm3.same S1).keep k4 nm).same S2) nm λy H5 hy hH5 k5=>⟨few rfl,λp3 hp3=>⟨few rfl,λp4 hp4=>?_⟩⟩⟩
   have S3:Same H5 (upd H5 p3 (.tup [.str "strike", .str y])):=Same.new hp3
   have S4:Same (upd H5 p3 (.tup [.str "strike", .str y])) (upd (upd H5 p3 (.tup [.str "strike", .str y])) p4 (.lst [.ref p1, .ref p2, .ref p3])):=Same.new hp4
   have hH6:=(hH5.new (o:= .tup [.str "strike", .str y]) hp3).new (o:= .lst [.ref p1, .ref p2, .ref p3]) hp4
   refine⟨a,_,hH6,(), .inl ⟨p4,_,rfl,Hand.ne (hH5.new hp3) hp4,SqL.of zb,(by decide:0<3),(by decide:3<1000),λv H7 hv hH7 k7=>?_⟩⟩
   have M2:Mono (upd H3 p1 (.tup [.str "keep"])) H4:=Mono.keep k4 (hH3.new hp1) hH4
   have M3:=Mono.keep k5 (hH4.new hp2) hH5
   have M5:=Mono.keep k7 hH6 hH7
   have M45:=((Mono.of S3).trans (Mono.of S4)).trans M5
   have k37:Keep a H3 H7:=(((((Keep.of S1).trans k4).trans (Keep.of S2)).trans k5).trans ((Keep.of S3).trans (Keep.of S4))).trans k7
   obtain⟨da,ra,haa,hao⟩:∃da,Rep H7 v da/\zbT da=true/\zP O da=true:=by
    simp only[X0,E2,or_false] at hv
    rcases hv with rfl|rfl|rfl
    ·exact ⟨.tup [.str "keep"],Rep.mono (.mk1 zb (.str _ ⋯)) (((M2.trans (.of S2)).trans M3).trans M45),`Y3,rfl⟩
    ·exact ⟨.tup [.str "put", .str x],Rep.mono (.mk2 zb (.str _ ⋯) (.str _ (zas hx.1))) (M3.trans M45),znG hx.1 (.inl rfl),zbq hx.2⟩
    ·exact ⟨.tup [.str "strike", .str y],Rep.mono (.mk2 zb (.str _ ⋯) (.str _ (zas hy.1))) ((Mono.of S4).trans M5),znG hy.1 (.inr rfl),zbq hy.2⟩
   have hz7:=k37 _ _ nls hz
   refine⟨_,rfl, .inl ⟨rfl,_,SqL.of hz7⟩,_,rfl,_,rfl,_,rfl,a,h,m,_,true,O,rfl,hH7,(),hh3.keep k37 nh,hm3.keep k37 nm,nh,nm,λvc dc H8 rc lc hc hco hto hH8 k8=>⟨_,rfl,few rfl,λp9 hp9=>?_⟩⟩
   have m38:Mono H3 H8:=(Mono.keep k37 hH3 hH7).trans (.keep k8 hH7 hH8)
   have hz9:upd H8 p9 (.tup [vc,v]) ls=some (.lst zs):=by rw[zd (zg (k8 _ _ nls hz7) hp9)];exact k8 _ _ nls hz7
   refine⟨ls,_,_,rfl,rfl,hz9,zo (),⟨_,_,rfl⟩,⟨_,ds ++ [.tup [.tup dc,da]],zb,?_,?_,?_⟩,?_,?_⟩
   ·exact RepL.mono (.append ((rz.mono m38).mono (.new hp9)) (.cons (.mk2 zb (rc.mono (.new hp9)) ((ra.mono (.keep k8 hH7 hH8)).mono (.new hp9))) .nil)) (.lset hz9)
   ·rw[F1,hdl];rfl
   ·intro d hd
    rcases Q2.mp hd with hd|hd
    ·exact hds d hd
    ·rw[C2.mp hd];exact W0 _ _▸⟨zpA lc hc haa,zhk hco hao⟩
   ·exact ((hH8.new hp9).updNe nls).mono (by rw[show((i+1:Nat):Int)=(i:Int)+1 by lia];lia)
   ·exact Keep.updNew ((k3.trans (k37.trans k8)).trans (Keep.new hp9)) hls
  ·rintro σ' H3 ⟨⟨o1,o2,rfl⟩,⟨zs,ds,hz,rz,hdl,hds⟩,hH3,k3⟩
   refine⟨_,rfl,ls,zs,rfl, .inl ⟨SqL.of hz,λp hp=>?_⟩⟩
   exact q _ ds _ (.mkL zb () (rz.mono (.new hp))) () hds ((hH3.new hp).mono ()) (k3.trans (Keep.new hp))
def TD(H:Hp)(d:Addr)(xs:List Str)(c:Nat):Prop:=∃(kvs:List (List Key×V)) (ps:List (Str×Str)),H d=some (.dT kvs)/\kvs.map (·.1)=ps.map zg1/\ps.length<=c/\∀p∈ps,p.1∈xs/\p.2∈xs/\ltS p.1 p.2=true
theorem zmN{kvs:List (List Key×V)}{k:List Key}:(zah kvs k v).map (·.1)=kvs.map (·.1)\/(zah kvs k v).map (·.1)=kvs.map (·.1)++ [k]:=by
 unfold zah
 by_cases h:(kvs.any λkv=>decide (kv.1=k))=true
 ·rw[R0 h]
  refine .inl ?_
  rw[List.map_map]
  apply List.map_congr_left
  intro x _
  show(if x.1=k then(x.1,v)else x).1=x.1
  split<;>rfl
 ·rw[N0 h,List.map_append]
  exact .inr rfl
theorem TD.put{d:Addr}{xs:List Str}{p:Str×Str}{kvs:List (List Key×V)}(h1:kvs.map (·.1)=ps.map zg1)(h2:ps.length<=c)(h3:∀p∈ps,p.1∈xs/\p.2∈xs/\ltS p.1 p.2=true)(hp:p.1∈xs/\p.2∈xs/\ltS p.1 p.2=true):
 TD (upd H d (.dT (zah kvs (zg1 p) v))) d xs (c+1):=by
 rcases zmN (kvs:=kvs) (k:=zg1 p) (v:=v)with e|e
 ·exact ⟨_,ps,zb,e.trans h1,(),h3⟩
 ·refine ⟨_,ps ++ [p],zb,by rw[e,h1,List.map_append];rfl,by rw[F1];show ps.length+1<=_;lia,λq hq=>?_⟩
  rcases Q2.mp hq with hq|hq
  ·exact h3 q hq
  ·rw[C2.mp hq];exact hp
theorem TD.keep{d:Addr}{xs:List Str}(h:TD H d xs c)(k:Keep a H H')(n:d≠a):TD H' d xs c:=let⟨kvs,ps,e,r⟩:=h;⟨kvs,ps,k _ _ n e,r⟩
theorem TD.mono{d:Addr}{xs:List Str}(h:TD H d xs c)(l:c<=c'):TD H d xs c':=let⟨kvs,ps,e,f,g,r⟩:=h;⟨kvs,ps,e,f,V1 g l,r⟩
theorem znp(h:x≠y):ltS (if ltS y x=true then y else x) (if ltS x y=true then y else x)=true:=by
 cases e:ltS x y with
 |true=>rw[zfA e];simp only[B3,if_false,if_true];exact e
 |false=>
  have:=zcI h e
  rw[this];simp only[B3,if_false,if_true];exact this
noncomputable def zlS:Sp:=λvs H Q _=>∃(a h:Addr) (n:Int) (more:Nat) (xs:List Str),vs=[.ref a, .ref h, .int more]/\Hand H a n/\n<2^38/\H h=some (.lst (xs.map V.str))/\h≠a/\1<=xs.length/\xs.length<=10/\xs.Nodup/\(∀x∈xs,zj x=true)/\more<=30/\
 ∀(v:V) (ps:List (Str×Str)) (H':Hp),Rep H' v (.tup (ps.map pairD))->ps.Pairwise (λa b=>ltP a b=true)->(∀p∈ps,p.1∈xs/\p.2∈xs/\ltS p.1 p.2=true)->Hand H' a (n+100)->Keep a H H'->Q v H'
theorem zqv(Y:Ev K mg):FnOk P w K mg base CX0 3 Y.a__law_ties Y.d__law_ties zcm zlS:=by
 have G__law_take:FnOk P w K mg base CX0 1 Y.a__law_take Y.d__law_take zN zcZ:=zb9 Y
 have G__law_pick:FnOk P w K mg base CX0 2 Y.a__law_pick Y.d__law_pick zM (zbs K):=zcb Y
 refine Y._law_ties.fn.okQ zaH (λvs H Q E h=>?_) `X3
 ·obtain ⟨a,h,n,more,xs,rfl,_⟩:=h;rfl
 ·obtain ⟨a,h,n,more,xs,rfl,hH,hn,hh,nh,x1,x10,hnd,hxn,hmore,q⟩:=h
  refine⟨_,(zf (zu 3 zaH.nd zqp)
   (zf (zci PassesOwn.never rfl (zop Y.range (za zh (za (zv z8 Y.len zbw (za (qv 1) zc)) zc))) (zn 4 zaH.nd) (zf (zqW 5 6 zaH.nd (za (zaa zO (qv 1) (qv 4)) (za (zaa zO (qv 1) (zk G__law_take `U3 Y._law_take.mg Y._law_take.kp Y._law_take.b .nil zm (za (qv 0) (za (qv 4) zc)))) zc)))
   (zi (zap (zL zjl (zk G__law_take `U3 Y._law_take.mg Y._law_take.kp Y._law_take.b .nil zm (za (qv 0) (za zh zc))) zh) (zi (zim (hu1 hr) (qv 3) (zG (za (zv (zfX rfl) Y.min ze8 (za (qv 5) (za (qv 6) zc))) (za (zv (zgH rfl) Y.max zoL (za (qv 5) (za (qv 6) zc))) zc))) zfz)) zX))))
   (zf (zci PassesOwn.never rfl (zda Y.range (za (qv 2) zc)) (zn 4 zaH.nd) (zf (zqW 5 6 zaH.nd (za (zk G__law_pick `U3 Y._law_pick.mg Y._law_pick.kp Y._law_pick.b .nil zm (za (qv 0) (za (qv 1) zc))) (za (zk G__law_pick `U3 Y._law_pick.mg Y._law_pick.kp Y._law_pick.b .nil zm (za (qv 0) (za (qv 1) zc))) zc)))
   (zi (zap (zL zny (qv 5) (qv 6)) (zi (zim (hu1 hr) (qv 3) (zG (za (zv (zfX rfl) Y.min ze8 (za (qv 5) (za (qv 6) zc))) (za (zv (zgH rfl) Y.max zoL (za (qv 5) (za (qv 6) zc))) zc))) zfz)) zX))))
   (zi (zt (zaf zW Y.tuple zbn (za (zv (ziC rfl) Y.sorted zdJ (za (qv 3) zc)) zc))))))),?_⟩
  intro d hd
  have nd:=hH.ne hd
  have ndh:d≠h:=λz=>by rw[z,hh] at hd;cases hd
  have hh0:upd H d (.dT []) h=some (.lst (xs.map V.str)):=by rw[zd (Ne.symm ndh)];exact hh
  refine⟨_,rfl, .inl ⟨h,_,rfl, .inl (SqL.of hh0),1,_,rfl,⟨⋯,⋯,(),by rw[D0];lia⟩,?_⟩⟩
  have hN:(((xs.map V.str).length:Int) -1).toNat=xs.length -1:=by rw[D0];lia
  rw[hN]
  refine zaZ zcp (λi σ' H'=>(∃o1 o2 o3,σ'=[some (.ref a),some (.ref h),some (.int more),some (.ref d),o1,o2,o3])/\TD H' d xs i/\Hand H' a (n+2*i)/\Keep a H H') ?_ (λ_ _ _ _=>trivial) ?_ ?_
  ·exact ⟨⟨_,_,_,rfl⟩,⟨[],[],zb,rfl,P0 _,λ_ z=>nomatch z⟩,(hH.new hd).mono (),Keep.new hd⟩
  ·rintro i y σ' H1 hi rfl ⟨⟨o1,o2,o3,rfl⟩,td,hH1,k1⟩
   have hh1:=k1 _ _ nh hh
   have g1:atI (xs.map V.str) (1+(i:Int))=some (.str (xs.getD (i+1) "")):=by
    have hi1:i+1<xs.length:=()
    rw[Int.add_comm]
    exact zT (j:=i+1) (by simp[hi1,List.getD])
   refine⟨_,rfl,_,rfl,h,_,_,_,rfl,rfl,SqL.of hh1,g1,_,rfl,_,rfl,_,rfl,a,_,_,rfl,hH1,(),(),(),λt' H2 t0 t1 hH2 k2=>?_⟩
   obtain⟨t,rfl⟩:∃t:Nat,t'=(t:Int):=⟨t'.toNat,()⟩
   have hh2:=k2 _ _ nh hh1
   have ht:t<xs.length:=()
   have g2:atI (xs.map V.str) (t:Int)=some (.str (xs.getD t "")):=zT (by simp[ht,List.getD])
   have hne:xs.getD (i+1) ""≠xs.getD t "":=by
    have hi1:i+1<xs.length:=()
    have:=zn4 hnd hi1 ht ()
    simpa[List.getD,hi1,ht] using this
   have mx1:xs.getD (i+1) ""∈xs:=by have hi1:i+1<xs.length:=()
                                    simp[List.getD,hi1]
   have mx2:xs.getD t ""∈xs:=by simp[List.getD,ht]
   generalize xs.getD (i+1) ""=x at *
   generalize xs.getD t ""=y at *
   refine⟨h,_,_,_,rfl,rfl,SqL.of hh2,g2,_,_,rfl,?_⟩
   have td2:=td.keep k2 nd
   refine⟨_,rfl,a,9,_,rfl,hH2,(),⋯,⋯,λu H3 u0 u9 hH3 k3=>⟨_,_,rfl,rfl,_,rfl,zbP (λ_=>?_) (λ_=>?_)⟩⟩
   ·obtain ⟨kvs,ps,hkv,hkk,hpl,hpg⟩:=td2.keep k3 nd
    refine⟨_,rfl,_,rfl,_,rfl,x,y,rfl,_,rfl,_,rfl,x,y,rfl,few rfl,λp hp=>?_⟩
    have hkv4:upd H3 p (.tup [.str (if ltS y x=true then y else x), .str (if ltS x y=true then y else x)]) d=some (.dT kvs):=by rw[zd (zg hkv hp)];exact hkv
    have hlk:kvs.length=ps.length:=by have:=Z2 List.length hkk;simpa using this
    refine⟨d,_,rfl,DPut.t (k:=zg1 (if ltS y x=true then y else x,if ltS x y=true then y else x)) hkv4 zb (zo ()),⟨_,_,_,rfl⟩,TD.put hkk hpl hpg ⟨?_,?_,znp hne⟩,?_,?_⟩
    ·dsimp only;split<;>assumption
    ·dsimp only;split<;>assumption
    ·exact ((hH3.new hp).updNe nd).mono (by rw[show((i+1:Nat):Int)=(i:Int)+1 by lia];lia)
    ·exact Keep.updNew (((k1.trans k2).trans k3).trans (Keep.new hp)) hd
   ·exact ⟨⟨_,_,_,rfl⟩,(td2.keep k3 nd).mono (),hH3.mono (by rw[show((i+1:Nat):Int)=(i:Int)+1 by lia];lia),(k1.trans k2).trans k3⟩
  ·rintro σ' H1 ⟨⟨o1,o2,o3,rfl⟩,td,hH1,k1⟩
   refine⟨_,rfl,more,rfl,(),(),?_⟩
   rw[Int.toNat_natCast]
   refine zaZ zcp (λi σ' H'=>(∃o1 o2 o3,σ'=[some (.ref a),some (.ref h),some (.int more),some (.ref d),o1,o2,o3])/\TD H' d xs (9+i)/\Hand H' a (n+20+2*i)/\Keep a H H') ?_ (λ_ _ _ _=>trivial) ?_ ?_
   ·exact ⟨⟨_,_,_,rfl⟩,td.mono (),hH1.mono (),k1⟩
   ·rintro i y σ' H2 hi rfl ⟨⟨o1,o2,o3,rfl⟩,td2,hH2,k2⟩
    have pk:∀{H0:Hp} {n0:Int} {R:VK},Hand H0 a n0->n0<2^40->H0 h=some (.lst (xs.map V.str))->(∀x H',x∈xs->Hand H' a (n0+1)->Keep a H0 H'->R (.str x) H')->zbs K [.ref a, .ref h] H0 R E0:=λhH0 hn0 e0 qq=>
     ⟨a,_,hH0,hn0, .inl ⟨h,_,rfl,nh,SqL.of e0,by rw[D0];lia,by rw[D0];lia,λv H' hv hH' k'=>by
       obtain⟨x,hx,rfl⟩:=y1.mp hv
       exact qq x H' hx hH' k'⟩⟩
    have hh2:=k2 _ _ nh hh
    refine⟨_,rfl,_,rfl,pk hH2 () hh2 λx H3 hx hH3 k3=>⟨_,rfl,_,rfl,pk hH3 () (k3 _ _ nh hh2) λy H4 hy hH4 k4=>⟨_,_,rfl,_,rfl,_,rfl,rfl,_,rfl,zbP (λhc=>?_) (λ_=>?_)⟩⟩⟩
    ·have hne:x≠y:=λz=>by rw[z] at hc;simp at hc
     obtain⟨kvs,ps,hkv,hkk,hpl,hpg⟩:=(td2.keep k3 nd).keep k4 nd
     refine⟨_,rfl,_,rfl,_,rfl,x,y,rfl,_,rfl,_,rfl,x,y,rfl,few rfl,λp hp=>?_⟩
     have hkv4:upd H4 p (.tup [.str (if ltS y x=true then y else x), .str (if ltS x y=true then y else x)]) d=some (.dT kvs):=by rw[zd (zg hkv hp)];exact hkv
     have hlk:kvs.length=ps.length:=by have:=Z2 List.length hkk;simpa using this
     refine⟨d,_,rfl,DPut.t (k:=zg1 (if ltS y x=true then y else x,if ltS x y=true then y else x)) hkv4 zb (zo ()),⟨_,_,_,rfl⟩,TD.put hkk hpl hpg ⟨?_,?_,znp hne⟩,?_,?_⟩
     ·dsimp only;split<;>assumption
     ·dsimp only;split<;>assumption
     ·exact ((hH4.new hp).updNe nd).mono (by rw[show((i+1:Nat):Int)=(i:Int)+1 by lia];lia)
     ·exact Keep.updNew (((k2.trans k3).trans k4).trans (Keep.new hp)) hd
    ·exact ⟨⟨_,_,_,rfl⟩,((td2.keep k3 nd).keep k4 nd).mono (),hH4.mono (by rw[show((i+1:Nat):Int)=(i:Int)+1 by lia];lia),(k2.trans k3).trans k4⟩
   ·rintro σ' H2 ⟨⟨o1,o2,o3,rfl⟩,⟨kvs,ps,hkv,hkk,hpl,hpg⟩,hH2,k2⟩
    refine⟨_,rfl,d,kvs,ps,rfl,hkv,hkk,(),λps' vs l hperm hpw hpa hl=>⟨l,vs,rfl, .inl ⟨SqL.of zb,λp hp=>?_⟩⟩⟩
    have S:Same H2 (upd (upd H2 l (.lst vs)) p (.tup vs)):=(Same.new hl).trans (Same.new hp)
    refine q _ ps' _ (.mkL zb (by rw[D0,hperm.length_eq];lia) ⟨by rw[D0];exact hpa.1,λi v dd e1 e2=>?_⟩) hpw (λp hp=>hpg p (hperm.mem_iff.mp hp)) ((hH2.same S).mono ()) (k2.trans (Keep.of S))
    rw[U0] at e2
    cases e3:ps'[i]? with
    |none=>rw[e3] at e2;cases e2
    |some pr=>
     rw[e3] at e2
     cases e2
     obtain⟨b,rfl,hb⟩:=hpa.2 i v pr e1 e3
     have hpr:=hpg pr (hperm.mem_iff.mp (D1 e3))
     exact .mk2 (S _ _ hb) (.str _ (zas (hxn _ hpr.1))) (.str _ (zas (hxn _ hpr.2.1)))
noncomputable def znv:Sp:=λvs H Q _=>∃(a:Addr) (n:Int),vs=[.ref a]/\Hand H a n/\n<2^36/\∀(v:V) (g:Str) (hs:List Str) (ps:List (Str×Str)) (lks hds:List D) (H':Hp),Rep H' v (zaq g hs ps lks hds)->TownOk g hs ps lks hds->(∀x∈hs,x≠"nowhere")->(∃O,Pool hs lks hds O)->(∀d∈lks,∃ds,d= .tup ds/\ds.length<=12)->(∀d∈hds,∃ds,d= .tup ds/\ds.length<=12)->Hand H' a (n+9000)->Keep a H H'->Q v H'
theorem zg8(e:d= .tup ds)(h:ds.length<=12)(h2:∀d∈ds,zhN O d=true):zbj d=true/\zbN O d=true/\∃es,d= .tup es/\es.length<=12:=by
 subst e
 refine⟨?_,F2.mpr λd hd=>((W0 _ _).mp (h2 d hd)).2,ds,rfl,h⟩
 show(decide (ds.length<=90)&&ds.all zI)=true
 rw[Y0 (),F2.mpr λd hd=>((W0 _ _).mp (h2 d hd)).1];rfl
theorem zjB(e:d= .tup ds)(h:ds.length<=12)(h2:∀d∈ds,zhV O d=true):za6 d=true/\zbN O d=true/\∃es,d= .tup es/\es.length<=12:=by
 subst e
 refine⟨?_,F2.mpr λd hd=>((W0 _ _).mp (h2 d hd)).2,ds,rfl,h⟩
 show(decide (ds.length<=90)&&ds.all zbd)=true
 rw[Y0 (),F2.mpr λd hd=>((W0 _ _).mp (h2 d hd)).1];rfl
theorem zp4(Y:Ev K mg):FnOk P w K mg base CX0 6 Y.a__law_town Y.d__law_town zck znv:=by
 have G__law_take:FnOk P w K mg base CX0 1 Y.a__law_take Y.d__law_take zN zcZ:=zb9 Y
 have G__law_pick:FnOk P w K mg base CX0 2 Y.a__law_pick Y.d__law_pick zM (zbs K):=zcb Y
 have G__law_names:FnOk P w K mg base CX0 3 Y.a__law_names Y.d__law_names zbH zjQ:=zmT Y
 have G__law_ties:FnOk P w K mg base CX0 3 Y.a__law_ties Y.d__law_ties zcm zlS:=zqv Y
 have G__law_likings:FnOk P w K mg base CX0 5 Y.a__law_likings Y.d__law_likings zaV (zfB zhN):=zkx Y
 have G__law_hands:FnOk P w K mg base CX0 5 Y.a__law_hands Y.d__law_hands zbF (zfB zhV):=zog Y
 refine Y._law_town.fn.okQ zU (λvs H Q E h=>?_) `X3
 ·obtain ⟨a,n,rfl,_⟩:=h;rfl
 ·obtain ⟨a,n,rfl,hH,hn,q⟩:=h
  refine⟨_,(zf (zu 1 zU.nd (zaa zO (zcj (za zh (za zh (za zh (za zh (za zh (za zh (za zh (za (zB zZ zh (zk G__law_take `U3 Y._law_take.mg Y._law_take.kp Y._law_take.b .nil zm (za (qc 0) (za zh zc)))) zc))))))))) (zk G__law_take `U3 Y._law_take.mg Y._law_take.kp Y._law_take.b .nil zm (za (qc 0) (za zh zc)))))
   (zf (zie 2 zU.nd (zk G__law_names `U3 Y._law_names.mg Y._law_names.kp Y._law_names.b .nil zm (za (qc 0) (za (zB zZ (qv 1) zh) zc))))
   (zf (zcD (zG (za (zrM zlB (qc 2) zkG (zkR (qv 1))) (za (zrM zlB (qc 2) (zkR (qv 1)) zkG) zc))) (zc4 2 rfl (zr (zn 3 zU.nd) (zr (zlL 4 zU.nd) zay))))
   (zf (zu 5 zU.nd (zk G__law_ties `U3 Y._law_ties.mg Y._law_ties.kp Y._law_ties.b .nil zm (za (qc 0) (za (qv 3) (za (zk G__law_take `U3 Y._law_take.mg Y._law_take.kp Y._law_take.b .nil zm (za (qc 0) (za zh zc))) zc)))))
   (zf (zu 6 zU.nd (zk G__law_pick `U3 Y._law_pick.mg Y._law_pick.kp Y._law_pick.b .nil zm (za (qc 0) (za (qv 3) zc))))
   (zf (zu 7 zU.nd (zaf zW Y.tuple zbn (za (zv ziM Y.sorted zdJ (za (qv 3) zc)) zc)))
   (zf (zu 8 zU.nd (zaf zW Y.tuple zbn (za (zeX (src:=[none,some 0,some 4,some 2]) zdN rfl rfl (zdP (qv 7)) (λ_ _ _ _ _=>(zn 0 zdN.nd)) (λ_ _ _ _ _=>zek) (λ_ _ _ _ _=>(zk G__law_likings `U3 Y._law_likings.mg Y._law_likings.kp Y._law_likings.b .nil zm (za (qc 1) (za (qc 3) (za (qc 2) zc)))))) zc)))
   (zf (zu 9 zU.nd (zaf zW Y.tuple zbn (za (zeX (src:=[none,some 0,some 4,some 2]) zdO rfl rfl (zdP (qv 7)) (λ_ _ _ _ _=>(zn 0 zdO.nd)) (λ_ _ _ _ _=>zek) (λ_ _ _ _ _=>(zk G__law_hands `U3 Y._law_hands.mg Y._law_hands.kp Y._law_hands.b .nil zm (za (qc 1) (za (qc 3) (za (qc 2) zc)))))) zc)))
   (zi (zt (zG (za (qv 6) (za (qv 7) (za (qv 5) (za (qv 8) (za (qv 9) zc)))))))))))))))),?_⟩
  refine⟨_,rfl,a,5,n,rfl,hH,(),⋯,⋯,λt H1 t0 t5 hH1 k1=>⟨_,_,rfl,rfl,few rfl,λpl hpl=>⟨_,rfl,a,8,n+1,rfl,hH1.new hpl,(),⋯,⋯,λu H2 u0 u8 hH2 k2=>?_⟩⟩⟩
  have hpl2:=k2 _ _ (hH1.ne hpl) (zb (o:= .lst [V.int 2,V.int 3,V.int 3,V.int 4,V.int 4,V.int 5,V.int 1,V.int (6+t)]))
  obtain⟨v,ev,hv⟩:=zfD (xs:=[V.int 2,V.int 3,V.int 3,V.int 4,V.int 4,V.int 5,V.int 1,V.int (6+t)]) u0 u8
  obtain⟨m,rfl,m1,m10⟩:∃m:Nat,v= .int (m:Int)/\1<=m/\m<=10:=by
   simp only[X0,E2,or_false] at hv
   rcases hv with rfl|rfl|rfl|rfl|rfl|rfl|rfl|rfl
   ·exact ⟨2,rfl,⋯,⋯⟩
   ·exact ⟨3,rfl,⋯,⋯⟩
   ·exact ⟨3,rfl,⋯,⋯⟩
   ·exact ⟨4,rfl,⋯,⋯⟩
   ·exact ⟨4,rfl,⋯,⋯⟩
   ·exact ⟨5,rfl,⋯,⋯⟩
   ·exact ⟨1,rfl,⋯,⋯⟩
   ·exact ⟨(6+t).toNat,by congr 1;lia,(),()⟩
  have kp2:Keep a H H2:=(k1.trans (Keep.new hpl)).trans k2
  refine⟨pl,_,_,_,rfl,rfl,SqL.of hpl2,ev,?_⟩
  refine⟨_,rfl,_,rfl,_,_,rfl,rfl,a,n+1+1,m+3,by push_cast;rfl,hH2,(),(),(),λln xs H3 hln hl3 hlen hxn hxd hxw hH3 k3=>?_⟩
  have nln:ln≠a:=hH2.ne hln
  refine⟨_,rfl,_,rfl,_,rfl,ln,_,rfl,SqL.of hl3,λp1 hp1=>?_⟩
  have S1:Same H3 (upd H3 p1 (.lst (zcs (xs.map V.str) none (some (m:Int))))):=Same.new hp1
  refine⟨_,rfl,_,rfl,_,rfl,ln,_,rfl,SqL.of (S1 _ _ hl3),λp2 hp2=>⟨few rfl,λp3 hp3=>?_⟩⟩
  have S2:=Same.new (o:= .lst (zcs (xs.map V.str) (some (m:Int)) none)) hp2
  have S3:=Same.new (o:= .tup [V.ref p1,V.ref p2]) hp3
  have S13:=(S1.trans S2).trans S3
  have hp1':=S3 _ _ (S2 _ _ (zb (H:=H3) (a:=p1) (o:= .lst (zcs (xs.map V.str) none (some (m:Int))))))
  have hp2':=S3 _ _ (zb (H:=upd H3 p1 (.lst (zcs (xs.map V.str) none (some (m:Int))))) (a:=p2) (o:= .lst (zcs (xs.map V.str) (some (m:Int)) none)))
  refine⟨p3,_,rfl, .inl (.inl zb),rfl,_,_,rfl,_,_,rfl,rfl,?_⟩
  have hl4:=S13 _ _ hl3
  have hH4:=hH3.same S13
  have np1:p1≠a:=hH3.ne hp1
  have np2:p2≠a:=(hH3.same S1).ne hp2
  have kp4:=(kp2.trans k3).trans (Keep.of S13)
  generalize (upd (upd (upd H3 p1 (HO.lst (zcs (xs.map V.str) none (some (m:Int))))) p2 (HO.lst (zcs (xs.map V.str) (some (m:Int)) none))) p3 (HO.tup [V.ref p1,V.ref p2]))=H4 at *
  rw[zm3,←List.map_take] at hp1'
  rw[zng,←List.map_drop] at hp2'
  have hth:(xs.take m).length=m:=by rw[J2];lia
  have htn:∀x∈xs.take m,zj x=true:=λx hx=>hxn x (List.mem_of_mem_take hx)
  have htw:∀x∈xs.take m,x≠"nowhere":=λx hx=>hxw x (List.mem_of_mem_take hx)
  have htd:(xs.take m).Nodup:=hxd.sublist (List.take_sublist m xs)
  have hdn:∀x∈xs.drop m,zj x=true:=λx hx=>hxn x (List.mem_of_mem_drop hx)
  have hdl:(xs.drop m).length=3:=by rw[List.length_drop];lia
  have hto:∀x∈xs.take m,x∈xs:=λx hx=>List.mem_of_mem_take hx
  have hdo:∀x∈xs.drop m,x∈xs:=λx hx=>List.mem_of_mem_drop hx
  generalize xs.take m=hs at *
  generalize xs.drop m=ms at *
  have NLn:NL xs H4 ln:=⟨xs,hl4,(),(),λx hx=>⟨hxn x hx,hx⟩⟩
  have NLm:NL xs H4 p2:=⟨ms,hp2',(),(),λx hx=>⟨hdn x hx,hdo x hx⟩⟩
  refine⟨_,rfl,_,rfl,_,rfl,a,5,_,rfl,hH4,(),⋯,⋯,λmo' H5 mo0 mo5 hH5 k45=>?_⟩
  obtain⟨mo,rfl⟩:∃mo:Nat,mo'=(mo:Int):=⟨mo'.toNat,()⟩
  have mo30:mo<=30:=()
  have hp15:=k45 _ _ np1 hp1'
  refine⟨a,p1,_,mo,hs,rfl,hH5,(),hp15,np1,(),(),htd,htn,mo30,λvt ps H6 rt hpw hpg hH6 k6=>?_⟩
  have hp16:=k6 _ _ np1 hp15
  refine⟨_,rfl,_,rfl,a,_,hH6,(), .inl ⟨p1,_,rfl,np1,SqL.of hp16,by rw[D0];lia,by rw[D0];lia,λvg H7 hvg hH7 k7=>?_⟩⟩
  obtain⟨g,hg,rfl⟩:=y1.mp hvg
  have hp17:=k7 _ _ np1 hp16
  have rt7:=rt.mono (.keep k7 hH6 hH7)
  refine⟨_,rfl,p1,hs,rfl,SqL.of hp17,(),htd,λhs' l hperm hrise hl=>⟨l,_,rfl, .inl ⟨SqL.of zb,λpr hpr=>?_⟩⟩⟩
  have S8:Same H7 (upd (upd H7 l (.lst (hs'.map V.str))) pr (.tup (hs'.map V.str))):=(Same.new hl).trans (Same.new hpr)
  have hpr8:(upd (upd H7 l (.lst (hs'.map V.str))) pr (.tup (hs'.map V.str))) pr=some (.tup (hs'.map V.str)):=zb
  have hH8:=hH7.same S8
  have rt8:=rt7.same S8
  have npr:pr≠a:=(hH7.new hl).ne hpr
  have k48:Keep a H4 (upd (upd H7 l (.lst (hs'.map V.str))) pr (.tup (hs'.map V.str))):=((k45.trans k6).trans k7).trans (Keep.of S8)
  have hlen':hs'.length=m:=by rw[hperm.length_eq];exact hth
  generalize (upd (upd H7 l (HO.lst (hs'.map V.str))) pr (HO.tup (hs'.map V.str)))=H8 at *
  have NLn8:=NLn.keep k48 nln
  have NLm8:=NLm.keep k48 np2
  refine⟨_,rfl,pr,rfl,⟨_, .inl (.inl hpr8)⟩,?_⟩
  refine zfl (a:=a) (m:=n+300) (c:=400) (Pd:=λ_ d=>zbj d=true/\zbN xs d=true/\∃es,d= .tup es/\es.length<=12) (σr:=[some (.ref a),some (.ref p2),some (.ref ln)]) (zcv (K:=K) (xs:=hs'.map V.str)) (λH' k=> .inl (.inl (k _ _ npr hpr8))) rfl (hH8.mono ()) (by rw[D0];lia) ⋯ (λi x H9 Q1 hi hH9 k9 q1=>?_) (λl1 vl lks H9 hl1 hl1' rl hll pl9 hH9 k9=>?_)
  ·rw[D0] at hi
   exact⟨_,rfl,_,rfl,_,rfl,a,ln,p2,_,xs,rfl,hH9,(),NLn8.keep k9 nln,NLm8.keep k9 np2,nln,np2,λv ds H10 rv hds hg10 hH10 k10=>q1 v _ H10 rv (zg8 rfl hds hg10) hH10 k10⟩
  refine⟨l1,vl,rfl, .inl ⟨SqL.of hl1',λpA hpA=>?_⟩⟩
  rw[D0] at hll hH9
  have SA:=Same.new (o:= .tup vl) hpA
  have rlA:Rep (upd H9 pA (.tup vl)) (.ref pA) (.tup lks):= .mkL zb () (rl.mono (.new hpA))
  have hHA:=hH9.new (o:= .tup vl) hpA
  have k8A:Keep a H8 (upd H9 pA (.tup vl)):=k9.trans (Keep.of SA)
  generalize (upd H9 pA (HO.tup vl))=HA at *
  have hprA:=k8A _ _ npr hpr8
  refine⟨_,rfl,pr,rfl,⟨_, .inl (.inl hprA)⟩,?_⟩
  refine zfl (a:=a) (m:=n+300+400*hs'.length) (c:=400) (Pd:=λ_ d=>za6 d=true/\zbN xs d=true/\∃es,d= .tup es/\es.length<=12) (σr:=[some (.ref a),some (.ref p2),some (.ref ln)]) (zcv (K:=K) (xs:=hs'.map V.str)) (λH' k=> .inl (.inl (k _ _ npr hprA))) rfl hHA (by rw[D0];lia) ⋯ (λi x HB Q1 hi hHB kB q1=>?_) (λl2 va hds HB hl2 hl2' ra hla plB hHB kB=>?_)
  ·rw[D0] at hi
   exact⟨_,rfl,_,rfl,_,rfl,a,ln,p2,_,xs,rfl,hHB,(),(NLn8.keep k8A nln).keep kB nln,(NLm8.keep k8A np2).keep kB np2,nln,np2,λv ds H10 rv hds hg10 hH10 k10=>q1 v _ H10 rv (zjB rfl hds hg10) hH10 k10⟩
  refine⟨l2,va,rfl, .inl ⟨SqL.of hl2',λpB hpB=>?_⟩⟩
  rw[D0] at hla hHB
  have SB:=Same.new (o:= .tup va) hpB
  have mAB:Mono HA (upd HB pB (.tup va)):=(Mono.keep kB hHA hHB).trans (.of SB)
  have raB:Rep (upd HB pB (.tup va)) (.ref pB) (.tup hds):= .mkL zb () (ra.mono (.new hpB))
  have kAB:Keep a HA (upd HB pB (.tup va)):=kB.trans (Keep.of SB)
  have hHB':=hHB.new (o:= .tup va) hpB
  have rlB:=rlA.mono mAB
  have rtB:=(rt8.mono (.keep k8A hH8 hHA)).mono mAB
  have hprB:=kAB _ _ npr hprA
  refine⟨_,rfl,_,rfl,_,rfl,_,rfl,_,rfl,few rfl,λpT hpT=>?_⟩
  have rr:Rep (upd HB pB (.tup va)) (.ref pr) (.tup (hs'.map D.str)):=by
   refine .mkL hprB (by rw[D0];lia) ⟨by rw[D0,D0],λi v d e1 e2=>?_⟩
   rw[U0] at e1 e2
   cases e3:hs'[i]? with
   |none=>rw[e3] at e1;cases e1
   |some x=>
    rw[e3] at e1 e2
    cases e1
    cases e2
    exact .str x (zas (htn x (hperm.mem_iff.mp (D1 e3))))
  have ST:=Mono.new (o:= .tup [.str g, .ref pr,vt, .ref pA, .ref pB]) hpT
  have rtown:=Rep.mkL (H:=upd (upd HB pB (.tup va)) pT (.tup [.str g, .ref pr,vt, .ref pA, .ref pB])) (p:=pT) (vs:=[.str g, .ref pr,vt, .ref pA, .ref pB]) (ds:=[.str g, .tup (hs'.map D.str), .tup (ps.map pairD), .tup lks, .tup hds]) zb (Nat.le_of_ble_eq_true rfl) (.cons (.str g (zas (htn g hg))) (.cons (rr.mono ST) (.cons (rtB.mono ST) (.cons (rlB.mono ST) (.cons (raB.mono ST) .nil)))))
  have pl9':=zfY (P:=λd=>zbj d=true/\zbN xs d=true/\∃es,d= .tup es/\es.length<=12) pl9
  have plB':=zfY (P:=λd=>za6 d=true/\zbN xs d=true/\∃es,d= .tup es/\es.length<=12) plB
  refine q _ g hs' ps lks hds _ rtown ⟨hrise,(),(),λx hx=>htn x (hperm.mem_iff.mp hx),hperm.mem_iff.mpr hg,hpw,λp hp=>?_,(),(),λd hd=>(pl9' d hd).1,λd hd=>(plB' d hd).1⟩ (λx hx=>htw x (hperm.mem_iff.mp hx)) ⟨xs,⟨(),hxn,λx hx=>hto x (hperm.mem_iff.mp hx),λd hd=>(pl9' d hd).2.1,λd hd=>(plB' d hd).2.1⟩⟩ (λd hd=>(pl9' d hd).2.2) (λd hd=>(plB' d hd).2.2) ((hHB'.new hpT).mono ()) (((kp4.trans k48).trans (k8A.trans kAB)).trans (Keep.new hpT))
  obtain⟨h1,h2,h3⟩:=hpg p hp
  exact⟨hperm.mem_iff.mpr h1,hperm.mem_iff.mpr h2,h3⟩
theorem zdT{k:Nat}{c:D->Bool}{g:List Str->List Str->Option Str->D->Bool}(Y:Ev K mg)(G_holds:FnOk P w K mg base CX0 k Y.a_holds Y.d_holds zc2 (zeu c g))(c':D->Bool)(g':List Str->List Str->Option Str->D->Bool)
 (hc:∀d,c' d=true->∃x e,d= .tup [.str x,e]) (h1:∀ws ms to x e,c' (.tup [.str x,e])=true->x="not"->c e=true/\(!g ws ms to e)=g' ws ms to (.tup [.str x,e]))
 (h2:∀x e,c' (.tup [.str x,e])=true->¬x="not"->zD (.tup [.str x,e])=true/\∀ws ms to,phB ws ms to x e=g' ws ms to (.tup [.str x,e])):
 FnOk P w K mg base CX0 (k+1) Y.a_holds Y.d_holds zc2 (zeu c' g'):=by
 refine Y.holds.fn.okQ zfK (λvs H Q E h=>?_) `X3
 ·obtain ⟨v,d,pw,pm,vt,ws,ms,to,rfl,_⟩:=h;rfl
 ·obtain ⟨v,d,pw,pm,vt,ws,ms,to,rfl,hd,hcd,hpw,hpm,hto,nw,nm,w1,lw,lm,q⟩:=h
  obtain⟨x,e,rfl⟩:=hc d hcd
  obtain⟨p,v0,v1,rfl,hp,r0,r1⟩:=hd.of2
  cases r0 with
  |str _ hx=>
  refine⟨_,(zf (zcD (qv 0) (zc4 2 rfl (zr (zn 4 zfK.nd) (zr (zn 5 zfK.nd) zay))))
   (zf (zap (zL zau (qv 4) zai) (zi (zt (zlz (zk G_holds hr Y.holds.mg Y.holds.kp Y.holds.b .nil zm (za (qv 5) (za (qv 1) (za (qv 2) (za (qv 3) zc)))))))) zX)
   (zf (zap (zL zau (qv 4) zai) (zi (zt (zdR zeS (qv 5) (qv 1)))) zX)
   (zf (zap (zL zau (qv 4) zai) (zi (zt (ziY (zdR zjl (zv z8 Y.len zbw (za (qv 1) zc)) zh) (zjf (zdR zau (zaa zY (qv 1) zh) (qv 5)))))) zX)
   (zf (zap (zL zau (qv 4) zai) (zi (zt (zdR zau (qv 3) (qv 5)))) zX)
   (zf (zap (zL zau (qv 4) zai) (zi (zt (zdR zeS (qv 5) (qv 2)))) zX)
   (zi (zt (zdR zqO (zB zhX (zv z8 Y.len zbw (za (qv 1) zc)) zh) (qv 5)))))))))),?_⟩
  refine⟨_,rfl,p,_,rfl, .inl (.inl hp),rfl,_,_,rfl,_,_,rfl,rfl,?_⟩
  refine⟨_,rfl,rfl,_,rfl,zbP (λel=>?_) (λel=>?_)⟩
  ·obtain ⟨ce,ge⟩:=h1 ws ms to x e hcd (V.str.inj (S0 el))
   refine⟨_,rfl,_,rfl,_,rfl,_,rfl,v1,e,pw,pm,vt,ws,ms,to,rfl,r1,ce,hpw,hpm,hto,nw,nm,w1,lw,lm,λH' s'=>⟨_,rfl,?_⟩⟩
   have q:=q H' s'
   rw[←ge] at q
   exact q
  have q:=q H (Same.refl H)
  obtain⟨hpl,ge⟩:=h2 x e hcd λz=>el (Y0 (by rw[z]))
  rw[←ge ws ms to] at q
  have bad:∀{y z:Str},y=z->¬decide (V.str y=V.str z)=true->False:=λe h=>h (by rw[e];exact Y0 rfl)
  refine⟨_,rfl,rfl,_,rfl,zbP (λe1=>?_) (λe1=>?_)⟩
  ·have e1:=V.str.inj (S0 e1)
   subst e1
   rcases zaG hpl with⟨z,_⟩|⟨_,y,rfl,ny⟩
   ·exact absurd z `Y3
   cases r1 with|str _ _=>
   rw[zst,←zik] at q
   exact⟨_,rfl,_,rfl,pw,_,rfl, .inr (.inl (.inl hpw)),rfl,ze0,q⟩
  refine⟨_,rfl,rfl,_,rfl,zbP (λe2=>?_) (λe2=>?_)⟩
  ·have e2:=V.str.inj (S0 e2)
   subst e2
   rcases zaG hpl with⟨z,_⟩|⟨_,y,rfl,ny⟩
   ·exact absurd z `Y3
   cases r1 with|str _ _=>
   rw[zqo] at q
   refine⟨_,rfl, .inl ⟨pw,_,rfl, .inr (.inl (.inl hpw)),_,_,rfl,rfl,_,rfl,?_⟩⟩
   match ws,hpw,q with
   |[],hpw,q=>exact zbG rfl q
   |[a],hpw,q=>exact zbG rfl q
   |a::b::r,hpw,q=>
    refine zbW (Y0 (by rw[D0,J1,J1];lia)) ?_
    refine⟨_,rfl,pw,_,1,_,rfl,rfl, .inl (.inl hpw),at1,_,rfl,rfl,?_⟩
    rw[zcC]
    have eb:decide ((a::b::r)[1]?=some y)=decide (b=y):=by
     rw[Bool.eq_iff_iff,C3,C3];simp
    rw[eb] at q
    exact q
  refine⟨_,rfl,rfl,_,rfl,zbP (λe3=>?_) (λe3=>?_)⟩
  ·have e3:=V.str.inj (S0 e3)
   subst e3
   rcases zaG hpl with⟨z,_⟩|⟨_,y,rfl,ny⟩
   ·exact absurd z `Y3
   cases r1 with|str _ _=>
   obtain⟨hsc,hde⟩:=hto.eq (y:=y)
   rw[zsX,←hde] at q
   exact⟨_,rfl,_,rfl,hsc,q⟩
  refine⟨_,rfl,rfl,_,rfl,zbP (λe4=>?_) (λe4=>?_)⟩
  ·have e4:=V.str.inj (S0 e4)
   subst e4
   rcases zaG hpl with⟨z,_⟩|⟨_,y,rfl,ny⟩
   ·exact absurd z `Y3
   cases r1 with|str _ _=>
   rw[zqt,←zik] at q
   exact⟨_,rfl,_,rfl,pm,_,rfl, .inr (.inl (.inl hpm)),rfl,ze0,q⟩
  rcases zaG hpl with⟨rfl,i,rfl,i0,i9⟩|⟨hn,y,rfl,ny⟩
  ·cases r1 with|int _=>
   rw[zqe] at q
   refine⟨_,rfl, .inl ⟨pw,_,rfl, .inr (.inl (.inl hpw)),_,_,rfl,rfl,_,rfl,_,_,rfl,rfl,?_⟩⟩
   have eb:decide (i<=((ws.map V.str).length:Int) -1)=decide (i<(ws.length:Int)):=by
    rw[Bool.eq_iff_iff,C3,C3,D0];lia
   rw[←eb] at q
   exact q
  ·rcases zeA hn with z|z|z|z
   ·exact (bad z e1).elim
   ·exact (bad z e2).elim
   ·exact (bad z e3).elim
   ·exact (bad z e4).elim
theorem zmW(Y:Ev K mg):FnOk P w K mg base CX0 1 Y.a_holds Y.d_holds zc2 (zeu (λ_=>false) (λ_ _ _ _=>false)):=by
 refine Y.holds.fn.okQ zfK (λvs H Q E h=>?_) `X3
 ·obtain ⟨v,d,_,_,_,_,_,_,rfl,_,z,_⟩:=h;cases z
 ·obtain ⟨v,d,_,_,_,_,_,_,rfl,_,z,_⟩:=h;cases z
theorem zoP(Y:Ev K mg):FnOk P w K mg base CX0 3 Y.a_holds Y.d_holds zc2 (zeu zC zcU):=by
 refine zdT (c:=zD) (g:=zeW) Y ?_ zC zcU zhC ?_ ?_
 ·refine zdT Y (zmW Y) zD zeW zb6 ?_ ?_
  ·intro ws ms to x e h z
   subst z
   exact absurd h (by rw[zdE];exact L1)
  ·exact λx e h _=>⟨h,λ_ _ _=>rfl⟩
 ·intro ws ms to x e h z
  subst z
  rw[zeO,R0 rfl] at h
  exact⟨h,by show(!zeW ws ms to e)=(if("not":Str)="not"then !zeW ws ms to e else phB ws ms to "not" e);rw[R0 rfl]⟩
 ·intro x e h z
  rw[zeO,N0 z] at h
  exact⟨h,λws ms to=>by show phB ws ms to x e=(if x="not"then !zeW ws ms to e else phB ws ms to x e);rw[N0 z]⟩
theorem zfg(Y:Ev K mg):FnOk P w K mg base CX0 4 Y.a_all_hold Y.d_all_hold zbV zkT:=by
 have G_holds:FnOk P w K mg base CX0 3 Y.a_holds Y.d_holds zc2 (zeu zC zcU):=zoP Y
 refine Y.all_hold.fn.okQ zgv (λvs H Q E h=>?_) `X3
 ·obtain ⟨v,cs,pw,pm,vt,ws,ms,to,rfl,_⟩:=h;rfl
 ·obtain ⟨v,cs,pw,pm,vt,ws,ms,to,rfl,hd,hcs,hpw,hpm,hto,nw,nm,w1,lw,lm,q⟩:=h
  obtain⟨pc,uc,rfl,hpc,rc,_⟩:=hd.ofT
  refine⟨_,(zf (zci PassesOwn.never rfl (zdP (qv 0)) (zn 4 zgv.nd) (zi (zap (zeB (zeD (zk G_holds `U3 Y.holds.mg Y.holds.kp Y.holds.b .nil zm (za (qv 4) (za (qv 1) (za (qv 2) (za (qv 3) zc))))))) (zi (zt zfz)) zX)))
   (zi (zt zfz))),?_⟩
  refine⟨_,rfl,pc,rfl,⟨_, .inl (.inl hpc)⟩,?_⟩
  refine zaZ (zcv (K:=K) (xs:=uc)) (λi σ' H'=>(∃o4,σ'=[some (.ref pc),some (.ref pw),some (.ref pm),some vt,o4])/\(cs.take i).all (zcU ws ms to)=true/\Same H H') ⟨⟨_,rfl⟩,rfl,Same.refl _⟩ (λi σ' H' z=> .inl (.inl (z.2.2 _ _ hpc))) ?_ ?_
  ·rintro i y σ' H1 hi hy ⟨⟨o4,rfl⟩,ha,s1⟩
   obtain⟨c,hc,rcc⟩:=rc.get hy
   have hcm:=D1 hc
   have tk:(cs.take (i+1)).all (zcU ws ms to)=((cs.take i).all (zcU ws ms to)&&zcU ws ms to c):=by
    rw[List.take_add_one,hc,List.all_append];simp
   refine⟨_,rfl,_,rfl,_,rfl,_,rfl,y,c,pw,pm,vt,ws,ms,to,rfl,rcc.same s1,hcs c hcm,s1 _ _ hpw,s1 _ _ hpm,hto,nw,nm,w1,lw,lm,λH2 s2=>⟨_,rfl,?_⟩⟩
   cases hb:zcU ws ms to c with
   |false=>
    have e:zeY ws ms to cs=false:=List.all_eq_false.mpr ⟨c,hcm,by rw[hb];decide⟩
    have q:=q H2 (s1.trans s2)
    rw[e] at q
    exact zbW rfl q
   |true=>exact zbG rfl ⟨⟨_,rfl⟩,by rw[tk,ha,hb];rfl,s1.trans s2⟩
  ·rintro σ' H1 ⟨⟨o4,rfl⟩,ha,s1⟩
   rw[rc.1,List.take_length] at ha
   have q:=q H1 s1
   have e:zeY ws ms to cs=true:=ha
   rw[e] at q
   exact q
theorem zgS(Y:Ev K mg):FnOk P w K mg base CX0 1 Y.a_likings_of Y.d_likings_of zbD zsJ:=by
 refine Y.likings_of.fn.okQ ziE (λvs H Q E h=>?_) `X3
 ·obtain ⟨v,x,g,hs,ps,lks,hds,j,rfl,_⟩:=h;rfl
 ·obtain ⟨v,x,g,hs,ps,lks,hds,j,rfl,hv,T,hj,q⟩:=h
  obtain⟨p,pr,pt,pl,pa,vt,vl,va,rfl,hp,hpr,hpt,rt,hpl,rl,hpa,ra⟩:=zeI hv
  have hjl:j<hs.length:=by
   rcases Y1 j hs.length with y|y
   ·exact y
   ·rw[Q0 y] at hj;cases hj
  have hjk:j<lks.length:=by rw[T.ll];exact hjl
  have hjv:j<vl.length:=by rw[rl.1];exact hjk
  refine⟨_,(zi (zt (zaa zY (zaa zY (qv 0) zh) (zg4 F.plainAttrs_tuple F.slot_tuple_index F.type_tuple_index zhI (zaa zY (qv 0) zh) (za (qv 1) zc))))),?_⟩
  refine⟨_,rfl,p,_,3,_,rfl,rfl, .inl (.inl hp),zT (j:=3) rfl,?_⟩
  refine⟨_,rfl,p,_,1,_,rfl,rfl, .inl (.inl hp),zT (j:=1) rfl,?_⟩
  refine⟨.inr (.inr (.inr (.inr ⟨rfl,_,hpr⟩))),_,rfl,pr,hs,x,j,rfl,rfl, .inl (.inl hpr),hj,zju T.hs_nd hj,?_⟩
  exact⟨pl,_,_,vl[j],rfl,rfl, .inl (.inl hpl),zT (by simp[hjv]),q _ lks[j] (F0 hjk) (rl.2 j _ _ (F0 hjv) (F0 hjk))⟩
theorem zjm(Y:Ev K mg):FnOk P w K mg base CX0 5 Y.a_worth Y.d_worth zeH ziq:=by
 have G_all_hold:FnOk P w K mg base CX0 4 Y.a_all_hold Y.d_all_hold zbV zkT:=zfg Y
 have G_likings_of:FnOk P w K mg base CX0 1 Y.a_likings_of Y.d_likings_of zbD zsJ:=zgS Y
 refine Y.worth.fn.okQ zhU (λvs H Q E h=>?_) `X3
 ·obtain ⟨v,pw,pm,x,ws,ms,g,hs,ps,lks,hds,j,rs,rfl,_⟩:=h;rfl
 ·obtain ⟨v,pw,pm,x,ws,ms,g,hs,ps,lks,hds,j,rs,rfl,hv,T,hj,hlj,hpw,hpm,nw,nm,lw,lm,q⟩:=h
  have hlk:rs.length<=90/\∀r∈rs,zI r=true:=by
   have h:=T.likes _ (D1 hlj)
   have h:(decide (rs.length<=90)&&rs.all zI)=true:=h
   rw[W0] at h
   exact⟨S0 h.1,F2.mp h.2⟩
  refine⟨_,(zf (zci PassesOwn.never rfl (zdP (zk G_likings_of `U3 Y.likings_of.mg Y.likings_of.kp Y.likings_of.b .nil zm (za (qv 0) (za (zaa zY (qv 1) zh) zc)))) (zc4 2 rfl (zr (zn 3 zhU.nd) (zr (zn 4 zhU.nd) zay))) (zi (zap (zeD (zk G_all_hold `U3 Y.all_hold.mg Y.all_hold.kp Y.all_hold.bd (.cons (a:=V.non) rfl .nil) zm (za (qv 3) (za (qv 1) (za (qv 2) zc))))) (zi (zt (qv 4))) zX)))
   (zi (zt zh))),?_⟩
  refine⟨_,rfl,_,rfl,pw,_,0,_,rfl,rfl, .inl (.inl hpw),at0,v,x,g,hs,ps,lks,hds,j,rfl,hv,T,hj,λvr d hd rd=>?_⟩
  rw[hlj] at hd
  cases hd
  obtain⟨pq,us,rfl,hpq,ru,_⟩:=rd.ofT
  refine⟨pq,rfl,⟨_, .inl (.inl hpq)⟩,?_⟩
  refine zaZ (zcv (K:=K) (xs:=us)) (λi σ' H'=>(∃o3 o4,σ'=[some v,some (.ref pw),some (.ref pm),o3,o4])/\zH (x::ws) ms rs=zH (x::ws) ms (rs.drop i)/\Same H H') ⟨⟨_,_,rfl⟩,rfl,Same.refl _⟩ (λi σ' H' z=> .inl (.inl (z.2.2 _ _ hpq))) ?_ ?_
  ·rintro i y σ' H1 hi hy ⟨⟨o3,o4,rfl⟩,hw,s1⟩
   obtain⟨r,hr',rr⟩:=ru.get hy
   obtain⟨cs,t,rfl,c4,hcs,ht⟩:=zhJ (hlk.2 r (D1 hr'))
   obtain⟨q0,v0,v1,rfl,hq0,r0,r1⟩:=(rr.same s1).of2
   refine⟨q0,_,rfl, .inl (.inl hq0),rfl,_,_,rfl,_,_,rfl,rfl,?_⟩
   refine⟨_,rfl,_,rfl,_,rfl,v0,cs,pw,pm, .non,x::ws,ms,none,rfl,r0,hcs,s1 _ _ hpw,s1 _ _ hpm, .inl ⟨rfl,rfl⟩,nw,nm,`Z3,by simp;lia,lm,λH2 s2=>⟨_,rfl,?_⟩⟩
   rw[zlE hr',zH] at hw
   have er:zeY (x::ws) ms none (zhi (.tup [.tup cs,t]))=zeY (x::ws) ms none cs:=rfl
   rw[er] at hw
   cases hb:zeY (x::ws) ms none cs with
   |true=>
    rw[hb,R0 rfl] at hw
    exact zbW rfl ⟨_,rfl,q _ H2 (by rw[hw];exact r1.same s2) (s1.trans s2)⟩
   |false=>
    rw[hb,N0 ⋯] at hw
    exact zbG rfl ⟨⟨_,_,rfl⟩,hw,s1.trans s2⟩
  ·rintro σ' H1 ⟨⟨o3,o4,rfl⟩,hw,s1⟩
   rw[ru.1,List.drop_length,zH] at hw
   exact q _ H1 (by rw[hw];exact .int 0) s1
theorem zjN(Y:Ev K mg):FnOk P w K mg base CX0 1 Y.a_hands_of Y.d_hands_of zcW zsz:=by
 refine Y.hands_of.fn.okQ zkh (λvs H Q E h=>?_) `X3
 ·obtain ⟨v,x,g,hs,ps,lks,hds,j,rfl,_⟩:=h;rfl
 ·obtain ⟨v,x,g,hs,ps,lks,hds,j,rfl,hv,T,hj,q⟩:=h
  obtain⟨p,pr,pt,pl,pa,vt,vl,va,rfl,hp,hpr,hpt,rt,hpl,rl,hpa,ra⟩:=zeI hv
  have hjl:j<hs.length:=by
   rcases Y1 j hs.length with y|y
   ·exact y
   ·rw[Q0 y] at hj;cases hj
  have hjk:j<hds.length:=by rw[T.lh];exact hjl
  have hjv:j<va.length:=by rw[ra.1];exact hjk
  refine⟨_,(zi (zt (zaa zY (zaa zY (qv 0) zh) (zg4 F.plainAttrs_tuple F.slot_tuple_index F.type_tuple_index zhI (zaa zY (qv 0) zh) (za (qv 1) zc))))),?_⟩
  refine⟨_,rfl,p,_,4,_,rfl,rfl, .inl (.inl hp),zT (j:=4) rfl,?_⟩
  refine⟨_,rfl,p,_,1,_,rfl,rfl, .inl (.inl hp),zT (j:=1) rfl,?_⟩
  refine⟨.inr (.inr (.inr (.inr ⟨rfl,_,hpr⟩))),_,rfl,pr,hs,x,j,rfl,rfl, .inl (.inl hpr),hj,zju T.hs_nd hj,?_⟩
  exact⟨pa,_,_,va[j],rfl,rfl, .inl (.inl hpa),zT (by simp[hjv]),q _ hds[j] (F0 hjk) (ra.2 j _ _ (F0 hjv) (F0 hjk))⟩
theorem zfw(Y:Ev K mg):FnOk P w K mg base CX0 1 Y.a_marks_behind Y.d_marks_behind za1 zhn:=by
 refine Y.marks_behind.fn.okQ zaS (λvs H Q E h=>?_) `X3
 ·obtain ⟨pm,v,t,w',m,rfl,_⟩:=h;rfl
 ·obtain ⟨pm,v,t,w',m,rfl,hpm,hv,tn,mn,l13,q⟩:=h
  obtain⟨pa,v0,v1,rfl,hpa,r0,r1⟩:=hv.of2
  cases r0 with|str _ _=>
  cases r1 with|str _ _=>
  refine⟨_,(zf (zcD (qv 1) (zc4 2 rfl (zr (zn 2 zaS.nd) (zr (zlL 3 zaS.nd) zay))))
   (zf (ze1 4 (src:=[none,some 3]) zcH rfl rfl zaS.nd (zdP (qv 0)) (λ_ _ _ _ _=>(zn 0 zcH.nd)) (λ_ _ _ _ _=>(zns (zL zny (qv 0) (qc 1)))) (λ_ _ _ _ _=>(qv 0)))
   (zf (zap (zL zau (qv 2) zai) (zi (zaK (zg4 F.plainAttrs_list F.slot_list_append F.type_list_append zba (qv 4) (za (qc 3) zc)))) zX)
   (zi (zt (zaf zW Y.tuple zbn (za (zv zeL Y.sorted zdJ (za (qv 4) zc)) zc))))))),?_⟩
  refine⟨_,rfl,pa,_,rfl, .inl (.inl hpa),rfl,_,_,rfl,_,_,rfl,rfl,?_⟩
  refine⟨_,rfl,pm,rfl,⟨_, .inl (.inl hpm)⟩,?_⟩
  refine zph (g:=neD m) (f:=λd=>d) (σr:=[some (.str m)]) (zcv (K:=K)) (λH' s'=> .inl (.inl (s' _ _ hpm))) (zok λy hy=>zas (tn y hy)) (by rw[D0];lia) rfl ?_ (λx d HA sA rx hd=>zpX rfl rx) λl1 us H1 s1 hl1 e1 r1=>?_
  ·intro z d HA Q1 sA rz hd q1
   obtain⟨b,_,rfl⟩:=y1.mp hd
   cases rz with|str _ _=>
   refine⟨_,rfl,_,rfl,rfl,_,rfl,?_⟩
   rw[zcC]
   exact q1 HA (Same.refl _)
  rw[zsg] at r1
  have eus:=zlZ r1
  subst eus
  have lf:=List.length_filter_le (λx=>!decide (x=m)) t
  dsimp only[zce]
  have fin:∀(H2:Hp),H2 l1=some (.lst ((zat t w' m).map V.str))->Same H H2->∀(ss:List Str) (l2:Addr),ss.Perm (zat t w' m)->sortedS ss=true->H2 l2=none->∃p ys,[V.ref l2]=[.ref p]/\((SqL K (upd H2 l2 (.lst (ss.map V.str))) p ys/\∀l,upd H2 l2 (.lst (ss.map V.str)) l=none->Q (.ref l) (upd (upd H2 l2 (.lst (ss.map V.str))) l (.tup ys)))\/(SqT K (upd H2 l2 (.lst (ss.map V.str))) p ys/\Q (.ref p) (upd H2 l2 (.lst (ss.map V.str))))):=λH2 e2 s2 ss l2 hp2 hs2 hl2=>⟨l2,_,rfl, .inl ⟨SqL.of zb,λp hp=>by
   have es:=zqg hp2 hs2
   subst es
   exact q p _ zb ((s2.trans (Same.new hl2)).trans (Same.new hp))⟩⟩
  refine⟨_,rfl,rfl,_,rfl,zbP (λe=>?_) (λe=>?_)⟩
  ·have ew:=V.str.inj (S0 e)
   have eb:zat t w' m=t.filter (λx=>!decide (x=m))++ [m]:=by unfold zat;rw[R0 ew]
   refine⟨_,rfl, .inl ⟨rfl,_,SqL.of e1⟩,_,rfl,l1,_,_,rfl,rfl,e1,zo (by rw[D0];lia),?_⟩
   have e2:(upd H1 l1 (.lst ((t.filter λx=>!decide (x=m)).map V.str ++ [V.str m]))) l1=some (.lst ((zat t w' m).map V.str)):=by rw[zb,eb,List.map_append];rfl
   have s2:Same H (upd H1 l1 (.lst ((t.filter λx=>!decide (x=m)).map V.str ++ [V.str m]))):=λc o z=>by rw[zd (zg z hl1)];exact s1 _ _ z
   generalize (upd H1 l1 (HO.lst ((t.filter λx=>!decide (x=m)).map V.str ++ [V.str m])))=H2 at *
   exact⟨_,rfl,l1,zat t w' m,rfl, .inl (SqL.of e2),by rw[eb,F1,List.length_singleton];lia,fin H2 e2 s2⟩
  ·have ew:¬w'="put":=λz=>e (Y0 (by rw[z]))
   have eb:zat t w' m=t.filter (λx=>!decide (x=m)):=by unfold zat;rw[N0 ew,List.append_nil]
   have e2:H1 l1=some (.lst ((zat t w' m).map V.str)):=by rw[eb];exact e1
   exact⟨_,rfl,l1,zat t w' m,rfl, .inl (SqL.of e2),by rw[eb];lia,fin H1 e2 s1⟩
theorem zkC(Y:Ev K mg):FnOk P w K mg base CX0 5 Y.a_handed Y.d_handed zez zhE:=by
 have G_all_hold:FnOk P w K mg base CX0 4 Y.a_all_hold Y.d_all_hold zbV zkT:=zfg Y
 have G_hands_of:FnOk P w K mg base CX0 1 Y.a_hands_of Y.d_hands_of zcW zsz:=zjN Y
 have G_marks_behind:FnOk P w K mg base CX0 1 Y.a_marks_behind Y.d_marks_behind za1 zhn:=zfw Y
 refine Y.handed.fn.okQ zdt (λvs H Q E h=>?_) `X3
 ·obtain ⟨v,pw,pm,vt,x,ws,ms,to,g,hs,ps,lks,hds,j,rs,Pr,rfl,_⟩:=h;rfl
 ·obtain ⟨v,pw,pm,vt,x,ws,ms,to,g,hs,ps,lks,hds,j,rs,Pr,rfl,hv,T,hj,hdj,HO',MS,M0,hpw,hpm,hto,nw,lw,q⟩:=h
  refine⟨_,(zf (zu 4 zdt.nd (qv 2))
   (zf (zci PassesOwn.never rfl (zdP (zk G_hands_of `U3 Y.hands_of.mg Y.hands_of.kp Y.hands_of.b .nil zm (za (qv 0) (za (zaa zY (qv 1) zh) zc)))) (zc4 2 rfl (zr (zn 5 zdt.nd) (zr (zn 6 zdt.nd) zay))) (zf (zap (zeB (zeD (zk G_all_hold `U3 Y.all_hold.mg Y.all_hold.kp Y.all_hold.b .nil zm (za (qv 5) (za (qv 1) (za (qv 4) (za (qv 3) zc))))))) (zi zoK) zX)
   (zf (zap (zL zau (zaa zY (qv 6) zh) zai) (zi (zt zc6)) zX)
   (zi (zu 4 zdt.nd (zk G_marks_behind `U3 Y.marks_behind.mg Y.marks_behind.kp Y.marks_behind.b .nil zm (za (qv 4) (za (qv 6) zc))))))))
   (zi (zt (qv 4))))),?_⟩
  refine⟨_,rfl,?_⟩
  refine⟨_,rfl,_,rfl,pw,_,0,_,rfl,rfl, .inl (.inl hpw),at0,v,x,g,hs,ps,lks,hds,j,rfl,hv,T,hj,λvr d hd rd=>?_⟩
  rw[hdj] at hd
  cases hd
  obtain⟨pq,us,rfl,hpq,ru,_⟩:=rd.ofT
  refine⟨pq,rfl,⟨_, .inl (.inl hpq)⟩,?_⟩
  refine zaZ (zcv (K:=K) (xs:=us)) (λi σ' H'=>(∃pt t o5 o6,σ'=[some v,some (.ref pw),some (.ref pm),some vt,some (.ref pt),o5,o6]/\H' pt=some (.tup (t.map V.str))/\Pr i t/\zE (x::ws) to rs ms=zE (x::ws) to (rs.drop i) t)/\Same H H') ⟨⟨pm,ms,_,_,rfl,hpm,M0,rfl⟩,Same.refl _⟩ (λi σ' H' z=> .inl (.inl (z.2 _ _ hpq))) ?_ ?_
  ·rintro i y σ' H1 hi hy ⟨⟨pt,t,o5,o6,rfl,hpt,Mt,he⟩,s1⟩
   obtain⟨r,hr',rr⟩:=ru.get hy
   obtain⟨cs,xa,rfl,hcs,hx⟩:=HO'.2 r (D1 hr')
   obtain⟨q0,v0,v1,rfl,hq0,r0,r1⟩:=(rr.same s1).of2
   have lu:=ru.1
   obtain⟨tn,tl⟩:=MS.ok i t () Mt
   refine⟨q0,_,rfl, .inl (.inl hq0),rfl,_,_,rfl,_,_,rfl,rfl,?_⟩
   refine⟨_,rfl,_,rfl,_,rfl,_,rfl,v0,cs,pw,pt,vt,x::ws,t,to,rfl,r0,hcs,s1 _ _ hpw,hpt,hto,nw,tn,`Z3,by simp;lia,V1 tl ⋯,λH2 s2=>⟨_,rfl,?_⟩⟩
   rw[zlE hr',zE] at he
   have er:zeY (x::ws) t to (zhi (.tup [.tup cs,xa]))=zeY (x::ws) t to cs:=rfl
   have et:zo4 (.tup [.tup cs,xa])=xa:=rfl
   rw[er,et] at he
   cases hb:zeY (x::ws) t to cs with
   |false=>
    rw[hb,N0 ⋯] at he
    exact zbW rfl ⟨⟨pt,t,_,_,rfl,s2 _ _ hpt,MS.skip i t Mt,he⟩,s1.trans s2⟩
   |true=>
    rw[hb,R0 rfl] at he
    refine zbG rfl ?_
    rcases hx with rfl|⟨w1,m1,rfl,hw1,hm1⟩
    ·obtain ⟨pa,ua,rfl,hpa,ra',_⟩:=(r1.same s2).ofT
     have la:ua.length=1:=ra'.1
     obtain⟨u0,rfl⟩:∃u0,ua=[u0]:=by
      match ua,la with
      |[u0],_=>exact ⟨u0,rfl⟩
     have h0:=ra'.head.1
     cases h0 with|str _ _=>
     refine⟨_,rfl,pa,_,0,_,rfl,rfl, .inl (.inl hpa),at0,rfl,_,rfl,zbW (by rw[Y0 rfl]) ?_⟩
     exact q .non H2 (by rw[he];rfl) (s1.trans s2)
    ·obtain ⟨pa,z0,z1,rfl,hpa,rz0,rz1⟩:=(r1.same s2).of2
     cases rz0 with|str _ _=>
     have nk:decide (V.str w1=V.str "keep")=false:=by
      rw[zcC]
      rcases hw1 with rfl|rfl<;>decide +kernel
     refine⟨_,rfl,pa,_,0,_,rfl,rfl, .inl (.inl hpa),at0,rfl,_,rfl,zbG nk ?_⟩
     refine⟨_,rfl,_,rfl,pt, .ref pa,t,w1,m1,rfl,s2 _ _ hpt,r1.same s2,tn,hm1,tl,λp3 H3 e3 s3=>?_⟩
     exact⟨⟨p3,_,_,_,rfl,e3,MS.next i t w1 m1 cs Mt hr',he⟩,(s1.trans s2).trans s3⟩
  ·rintro σ' H1 ⟨⟨pt,t,o5,o6,rfl,hpt,Mt,he⟩,s1⟩
   rw[ru.1,List.drop_length,zE] at he
   exact⟨_,rfl,q _ H1 (by rw[he];exact⟨pt,rfl,hpt⟩) s1⟩
noncomputable def zoF:Sp:=λvs H Q _=>∃(v:V) (x:Str) (g:Str) (hs:List Str) (ps:List (Str×Str)) (lks hds:List D),vs=[v, .str x]/\Rep H v (zaq g hs ps lks hds)/\TownOk g hs ps lks hds/\∀(l:Addr) (ts:List Str) (H':Hp),H l=none->H' l=some (.lst (ts.map V.str))->ts.Perm (zfy ps x)->sortedS ts=true->Same H H'->Q (.ref l) H'
theorem zpt(Y:Ev K mg):FnOk P w K mg base CX0 1 Y.a_tied Y.d_tied ziI zoF:=by
 refine Y.tied.fn.okQ znD (λvs H Q E h=>?_) `X3
 ·obtain ⟨v,x,g,hs,ps,lks,hds,rfl,_⟩:=h;rfl
 ·obtain ⟨v,x,g,hs,ps,lks,hds,rfl,hv,T,q⟩:=h
  obtain⟨p,pr,pt,pl,pa,vt,vl,va,rfl,hp,hpr,hpt,rt,hpl,rl,hpa,ra⟩:=zeI hv
  have TP:=T.lp
  refine⟨_,(zf (zu 2 znD.nd (zaa zY (qv 0) zh))
   (zi (zt (zv zeL Y.sorted zdJ (za (zB zrU (zeX (src:=[none,none,some 1]) zgE rfl rfl (zdP (qv 2)) (λ_ _ _ _ _=>(zfR (K:=K) 2 rfl rfl (zr (zn 0 zgE.nd) (zr (zn 1 zgE.nd) zay)))) (λ_ _ _ _ _=>(zns (zL zau (qv 1) (qc 2)))) (λ_ _ _ _ _=>(qv 0))) (zeX (src:=[none,none,some 1]) zgz rfl rfl (zdP (qv 2)) (λ_ _ _ _ _=>(zfR (K:=K) 2 rfl rfl (zr (zn 0 zgz.nd) (zr (zn 1 zgz.nd) zay)))) (λ_ _ _ _ _=>(zns (zL zau (qv 0) (qc 2)))) (λ_ _ _ _ _=>(qv 1)))) zc))))),?_⟩
  refine⟨_,rfl,p,_,2,_,rfl,rfl, .inl (.inl hp),zT (j:=2) rfl,?_⟩
  refine⟨_,rfl,pt,rfl,⟨_, .inl (.inl hpt)⟩,?_⟩
  refine ziW (ps:=ps) (sel:=λp=>decide (p.2=x)) (f:=(·.1)) (λσ'=>∃o1 o2,σ'=[o1,o2,some (.str x)]) (zcv (K:=K)) (λH' s'=> .inl (.inl (s' _ _ hpt))) rt () ⟨_,_,rfl⟩ ?_ λl1 H1 s1 hl1 e1=>?_
  ·rintro q p σ' H1 A B ⟨o1,o2,rfl⟩ s1 hq hp1 k
   refine⟨q,_,rfl, .inl (.inl hq),rfl,_,_,rfl,_,_,rfl,rfl,_,rfl,_,rfl,rfl,_,rfl,?_⟩
   have k:=k [some (.str p.1),some (.str p.2),some (.str x)] ⟨_,_,rfl⟩
   rw[zcC]
   cases e:decide (p.2=x)with
   |false=>rw[e] at k;exact k
   |true=>rw[e] at k;exact⟨_,rfl,k⟩
  refine⟨_,rfl,pt,rfl,⟨_, .inl (.inl (s1 _ _ hpt))⟩,?_⟩
  refine ziW (ps:=ps) (sel:=λp=>decide (p.1=x)) (f:=(·.2)) (λσ'=>∃o1 o2,σ'=[o1,o2,some (.str x)]) (zcv (K:=K)) (λH' s'=> .inl (.inl (s' _ _ (s1 _ _ hpt)))) (rt.mono (.of s1)) () ⟨_,_,rfl⟩ ?_ λl2 H2 s2 hl2 e2=>?_
  ·rintro q p σ' H1 A B ⟨o1,o2,rfl⟩ s1 hq hp1 k
   refine⟨q,_,rfl, .inl (.inl hq),rfl,_,_,rfl,_,_,rfl,rfl,_,rfl,_,rfl,rfl,_,rfl,?_⟩
   have k:=k [some (.str p.1),some (.str p.2),some (.str x)] ⟨_,_,rfl⟩
   rw[zcC]
   cases e:decide (p.1=x)with
   |false=>rw[e] at k;exact k
   |true=>rw[e] at k;exact⟨_,rfl,k⟩
  have nl:=zjM T x
  have nl':((ps.filter λp=>decide (p.2=x)).map (·.1)).length+((ps.filter λp=>decide (p.1=x)).map (·.2)).length<=10:=by rw[←F1];exact nl
  refine⟨l1,l2,_,_,rfl,rfl,s2 _ _ e1,e2,Nat.le_of_lt (zo (by simp only[D0] at nl'⊢;lia)),λl3 hl3=>?_⟩
  rw[←List.map_append]
  have S3:=Same.new (o:= .lst ((zfy ps x).map V.str)) hl3
  refine⟨l3,zfy ps x,rfl, .inl (SqL.of zb),(),λts l4 hp4 hs4 hl4=>q l4 ts _ ?_ zb hp4 hs4 (((s1.trans s2).trans S3).trans (Same.new hl4))⟩
  exact ziK ((s1.trans s2).trans S3) hl4
noncomputable def zlh(K:W.Frag):Sp:=λvs H Q _=>∃(b:Addr) (ns:List Int),vs=[.ref b]/\SqL K H b (ns.map V.int)/\ns.length<=63/\∀a H',H a=none->Hand H' a 0->Same H H'->Q (.ref a) H'
theorem zij{x:Int}{n:Nat}(h0:0<=x)(h1:x<2^n)(hn:n<=20000):Builtin.Int.intBits x<=2^20:=by
 unfold Builtin.Int.intBits
 split
 ·exact W1 _
 ·rename_i hz
  have hz:x≠0:=by simpa using hz
  have:x.natAbs<2^n:=by
   have e:((2^n:Nat):Int)=(2:Int)^n:=by push_cast;rfl
   lia
  have h2:x.natAbs.log2<n:=(Nat.log2_lt ()).mpr this
  have h3:(20000:Nat)<=2^20:=⋯
  lia
theorem zj4{a b:Int}{p q:Nat}(h0:0<=a)(h1:a<2^p)(h2:0<b)(h3:b<2^q):a*b<2^(p+q):=by
 have e1:a*b<2^p*b:=Int.mul_lt_mul_of_pos_right h1 h2
 have e2:(2:Int)^p*b<=2^p*2^q:=Int.mul_le_mul_of_nonneg_left (Int.le_of_lt h3) (zj1 p)
 have e3:(2:Int)^(p+q)=2^p*2^q:=Int.pow_add 2 p q
 rw[e3];exact Int.lt_of_lt_of_le e1 e2
theorem zoN(Y:Ev K mg):FnOk P w K mg base CX0 2 Y.a__law_all Y.d__law_all zcX (zlh K):=by
 have G__law_hand:FnOk P w K mg base CX0 1 Y.a__law_hand Y.d__law_hand zcc (zoX K):=zqB Y
 refine Y._law_all.fn.okQ zav (λvs H Q E h=>?_) `X3
 ·obtain ⟨b,ns,rfl,_⟩:=h;rfl
 ·obtain ⟨b,ns,rfl,hS,hns,q⟩:=h
  refine⟨_,(zf (zu 1 zav.nd (zk G__law_hand `U3 Y._law_hand.mg Y._law_hand.kp Y._law_hand.b .nil zm (za (qv 0) (za zh zc))))
   (zf (zu 2 zav.nd (zB zbv (zaa zO (qv 1) zh) (zB zfa zh zh)))
   (zf (zu 3 zav.nd (zB zfa zh zh))
   (zf (zci PassesOwn.never rfl (zop Y.range (za zh (za (zv (zfb rfl) Y.min ze8 (za (zv z8 Y.len zbw (za (qv 0) zc)) (za zh zc))) zc))) (zn 4 zav.nd) (zf (zu 5 zav.nd (zk G__law_hand `U3 Y._law_hand.mg Y._law_hand.kp Y._law_hand.b .nil zm (za (qv 0) (za (qv 4) zc))))
   (zf (zu 2 zav.nd (zB zZ (qv 2) (zB zlJ (zB zbv (zaa zO (qv 5) zh) (zB zfa zh zh)) (qv 3))))
   (zf (zu 3 zav.nd (zB zlJ (qv 3) (zB zfa zh zh)))
   (zi (zcD (zB zbv (zB zZ (zB za0 (zaa zO (qv 1) zh) zh) (zaa zO (qv 5) zh)) zh) (zjc (qv 1) zh zds)))))))
   (zgm (zap (zL zjl (zaa zO (qv 1) zh) zh) (zi (zcD (qv 2) (zjc (qv 1) zh zds))) zX)
   (zi (zt (qv 1)))))))),?_⟩
  have cp:zs6 10 60:=⟨⋯,⋯,⋯⟩
  have p60:(10:Int)^(60:Int).toNat<2^200:=`Y3
  have p0:(0:Int)<(10:Int)^(60:Int).toNat:=`Y3
  refine⟨_,rfl,b,ns,0,rfl,hS,⋯,⋯,λa H1 ha hH1 s1=>?_⟩
  obtain⟨x,m,t,h1,m0,m1,t0,t1⟩:=hH1
  refine⟨_,rfl,a,_,0,_,rfl,rfl,SqL.of h1,at0,_,_,rfl,rfl,cp,_,_,rfl,rfl,p0,?_⟩
  refine⟨_,_,rfl,rfl,cp,?_⟩
  refine⟨_,rfl, .inl ⟨b,_,rfl, .inl (s1.seq hS),_,_,rfl,1,_,rfl,⟨⋯,⋯,by split<;>lia,by split<;>lia⟩,?_⟩⟩
  refine zaZ zcp (λi σ' H'=>∃(o4 o5:Option V) (dg far m:Int),σ'=[some (.ref b),some (.ref a),some (.int dg),some (.int far),o4,o5]/\0<=far/\far<2^(200*(i+1))/\H' a=some (.lst [.int x, .int m, .int t])/\0<=m/\m<2^63/\Same H H') ?_ (λ_ _ _ _=>trivial) ?_ ?_
  ·exact ⟨_,_,_,_,m,rfl,Int.le_of_lt p0,p60,h1,m0,m1,s1⟩
  ·rintro i y σ' H2 hi rfl ⟨o4,o5,dg,far,m,rfl,f0,f1,h2,m0,m1,s2⟩
   have hi63:i<63:=by
    refine O1 hi ?_
    rw[D0]
    split<;>lia
   refine⟨_,rfl,_,rfl,b,ns,_,rfl,s2.seq hS,(),(),λa2 H3 ha2 hH3 s3=>?_⟩
   obtain⟨x3,m3,t3,h3,n0,n1,_,_⟩:=hH3
   have h2':=s3 _ _ h2
   have b1:Builtin.Int.intBits (x3%(10:Int)^(60:Int).toNat)<=2^20:=zij (n:=200) (Int.emod_nonneg _ (Int.ne_of_gt p0)) (Int.lt_trans (Int.emod_lt_of_pos _ p0) p60) ⋯
   have b2:Builtin.Int.intBits far<=2^20:=zij f0 f1 ()
   have b3:Builtin.Int.intBits ((10:Int)^(60:Int).toNat)<=2^20:=zij (n:=200) (Int.le_of_lt p0) p60 ⋯
   refine⟨_,rfl,_,rfl,a2,_,0,_,rfl,rfl,SqL.of h3,at0,_,_,rfl,rfl,cp,_,_,rfl,rfl,p0,_,rfl,_,_,rfl,rfl,⟨b1,b2⟩,_,_,rfl,rfl,?_⟩
   refine⟨_,rfl,_,_,rfl,rfl,cp,_,_,rfl,rfl,⟨b2,b3⟩,?_⟩
   refine⟨_,rfl,a,_,1,_,rfl,rfl,SqL.of h2',at1,_,_,rfl,rfl, .inl ⟨(),()⟩,_,rfl,a2,_,1,_,rfl,rfl,SqL.of h3,at1,_,_,rfl,rfl,_,_,rfl,rfl,(by decide:(0:Int)<2305843009213693951),?_⟩
   refine⟨_,rfl,a,_,1,1,rfl,rfl,h2',rfl,?_⟩
   refine⟨_,_,_,_,_,rfl,Int.mul_nonneg f0 (Int.le_of_lt p0),?_,zb,Int.emod_nonneg _ ⋯,?_,?_⟩
   ·have:=zj4 f0 f1 p0 p60
    rw[show 200*(i+1+1)=200*(i+1)+200 by lia]
    exact this
   ·have:=Int.emod_lt_of_pos (m*48271+m3) (by decide:(0:Int)<2305843009213693951)
    exact Int.lt_trans this ⋯
   ·exact λc o e=>by rw[zd (zg e ha)];exact s3 _ _ (s2 _ _ e)
  ·rintro σ' H2 ⟨o4,o5,dg,far,m,rfl,f0,f1,h2,m0,m1,s2⟩
   refine⟨λσ' H'=>∃(o2 o3 o4 o5:Option V),σ'=[some (.ref b),some (.ref a),o2,o3,o4,o5]/\Hand H' a 0/\Same H H',?_,?_⟩
   ·refine ⟨_,rfl,a,_,0,_,rfl,rfl,SqL.of h2,at0,_,_,rfl,rfl,_,rfl,zbP (λ_=>?_) (λ_=>?_)⟩
    ·refine ⟨_,rfl,_,rfl,a,_,0,0,rfl,rfl,h2,rfl,_,_,_,_,rfl,⟨_,m,t,zb,m0,m1,t0,t1⟩,?_⟩
     exact λc o e=>by rw[zd (zg e ha)];exact s2 _ _ e
    ·exact ⟨_,_,_,_,rfl,⟨x,m,t,h2,m0,m1,t0,t1⟩,s2⟩
   ·rintro σ' H3 ⟨o2,o3,o4,o5,rfl,hH3,s3⟩
    exact⟨_,rfl,q a H3 ha hH3 s3⟩
theorem ztp{k:Nat}(r:Room k A):A.units+70<cLine:=by have:=r.un;lia
theorem zlX{a b c:V}:atI [a,b,c] (-1)=some c:=rfl
theorem zgP(Y:Ev K mg):FnOk P w K mg base CX0 6 Y.a_liking_key Y.d_liking_key zbJ zqY:=by
 have G_worth:FnOk P w K mg base CX0 5 Y.a_worth Y.d_worth zeH ziq:=zjm Y
 refine Y.liking_key.fn.okQ zih (λvs H Q E h=>?_) `X3
 ·obtain ⟨v,pw,pm,x,ws,ms,g,hs,ps,lks,hds,j,rs,i,rfl,_⟩:=h;rfl
 ·obtain ⟨v,pw,pm,x,ws,ms,g,hs,ps,lks,hds,j,rs,i,rfl,hv,T,hj,hlj,hpw,hpm,nw,nm,lw,lm,hi,q⟩:=h
  refine⟨_,(zi (zt (zG (za (zlW zeZ (zk G_worth `U3 Y.worth.mg Y.worth.kp Y.worth.b .nil zm (za (qv 0) (za (qv 1) (za (qv 2) zc))))) (za (zv z8 Y.len zbw (za (qv 1) zc)) (za (qv 1) zc)))))),?_⟩
  refine⟨_,rfl,_,rfl,_,rfl,v,pw,pm,x,ws,ms,g,hs,ps,lks,hds,j,rs,rfl,hv,T,hj,hlj,hpw,hpm,nw,nm,lw,lm,λu H1 ru s1=>?_⟩
  rw[hi] at ru
  cases ru with|int _=>
  refine⟨_,rfl,_,rfl, .inl ⟨pw,_,rfl, .inr (.inl (.inl (s1 _ _ hpw))),_,rfl,few rfl,λpk hpk=>?_⟩⟩
  have S:=Same.new (o:= .tup [V.int (-i), .int (((x::ws).map V.str).length:Int), .ref pw]) hpk
  refine q _ _ ⟨pk,pw,rfl,?_,S _ _ (s1 _ _ hpw),λy hy=>zaF (nw y hy)⟩ (s1.trans S)
  rw[zb,D0]
def PairO(H:Hp)(b:Addr)(e:WM):Prop:=∃pw pm,H b=some (.tup [.ref pw, .ref pm])/\H pw=some (.tup (e.1.map V.str))/\H pm=some (.tup (e.2.map V.str))
structure EOk(x:Str)(rs:List D)(e:WM):Prop where
 hd:∃ws,e.1=x::ws
 nw:∀y∈e.1,zj y=true
 nm:∀y∈e.2,zj y=true
 lw:e.1.length<=80
 lm:e.2.length<=100
 wt:zH e.1 e.2 rs= .int (wI rs e)
theorem AtG.mono{Oa:Hp->Addr->α->Prop}{ps:List α}(h:AtG Oa H vs ps)(m:∀b p,Oa H b p->Oa H' b p):AtG Oa H' vs ps:=
 ⟨h.1,λi v p e1 e2=>let ⟨b,e,o⟩:=h.2 i v p e1 e2;⟨b,e,m b p o⟩⟩
theorem AtG.snoc{Oa:Hp->Addr->α->Prop}{ps:List α}{b:Addr}{p:α}(h:AtG Oa H vs ps)(o:Oa H b p):AtG Oa H (vs ++ [.ref b]) (ps ++ [p]):=by
 refine⟨by rw[F1,F1,h.1];rfl,λi v q e1 e2=>?_⟩
 rcases Y1 i vs.length with z|z
 ·rw[V2 z] at e1
  rw[V2 (by rw[←h.1];exact z)] at e2
  exact h.2 i v q e1 e2
 ·rw[P2 z] at e1
  rw[P2 (by rw[←h.1];exact z),←h.1] at e2
  cases hk:i -vs.length with
  |zero=>rw[hk] at e1 e2;cases e1;cases e2;exact⟨b,rfl,o⟩
  |succ n=>rw[hk] at e1;cases e1
def WmAt(H:Hp)(x y:V):Option WM->Prop
 |none=>x= .non/\∃e,y= .ref e/\H e=some (.tup [])
 |some (w,ms)=>∃pw pm,x= .ref pw/\y= .ref pm/\H pw=some (.tup (w.map V.str))/\H pm=some (.tup (ms.map V.str))
theorem WmAt.mono{x y:V}{b:Option WM}(h:WmAt H x y b)(m:∀c xs,H c=some (.tup xs)->H' c=some (.tup xs)):WmAt H' x y b:=by
 match b,h with
 |none,⟨h1,e,h2,h3⟩=>exact ⟨h1,e,h2,m _ _ h3⟩
 |some (w,ms),⟨pw,pm,h1,h2,h3,h4⟩=>exact ⟨pw,pm,h1,h2,m _ _ h3,m _ _ h4⟩
def GoR(H:Hp)(g:Addr)(b:Option WM):Prop:=∃x y,H g=some (.tup [x,y])/\WmAt H x y b
theorem GoR.mono{g:Addr}{b:Option WM}(h:GoR H g b)(m:∀c xs,H c=some (.tup xs)->H' c=some (.tup xs)):GoR H' g b:=let⟨x,y,e,w⟩:=h;⟨x,y,m _ _ e,w.mono m⟩
theorem AtG.addrs{Oa:Hp->Addr->α->Prop}{ps:List α}(h:AtG Oa H vs ps):∃bs:List Addr,vs=bs.map V.ref/\bs.length=ps.length/\∀(i:Nat) (b:Addr) (p:α),bs[i]?=some b->ps[i]?=some p->Oa H b p:=by
 obtain⟨hl,h⟩:=h
 induction vs generalizing ps with
 |nil=>exact ⟨[],rfl,hl,λi b p e=>by cases e⟩
 |cons v vs ih=>
  cases ps with
  |nil=>cases hl
  |cons p ps=>
   obtain⟨b,rfl,o⟩:=h 0 v p rfl rfl
   obtain⟨bs,rfl,l,r⟩:=ih (by simpa using hl) λi v p e1 e2=>h (i+1) v p e1 e2
   refine⟨b::bs,rfl,by rw[J1,J1,l],λi b' p' e1 e2=>?_⟩
   cases i with
   |zero=>cases e1;cases e2;exact o
   |succ i=>exact r i b' p' e1 e2
def KmM(rs:List D)(H:Hp)(b:Addr)(e:WM):Prop:=∃t pm,H b=some (.tup [.ref t, .ref pm])/\KeyO H t (kE rs e)/\H pm=some (.tup (e.2.map V.str))
noncomputable def zsB:Sp:=λvs H Q _=>∃(v:V) (l:Addr) (us:List V) (es:List WM) (x:Str) (g:Str) (hs:List Str) (ps:List (Str×Str)) (lks hds:List D) (j:Nat) (rs:List D),vs=[v, .ref l]/\Rep H v (zaq g hs ps lks hds)/\TownOk g hs ps lks hds/\hs[j]?=some x/\lks[j]?=some (.tup rs)/\H l=some (.lst us)/\AtG PairO H us es/\es.length<64/\(es.map (·.1)).Nodup/\(∀e∈es,EOk x rs e)/\
 ∀(q:Addr) (b:Option WM) (H':Hp),zgK rs es b->GoR H' q b->Same H H'->Q (.ref q) H'
theorem zg2(Y:Ev K mg):FnOk P w K mg base CX0 7 Y.a_most_liked Y.d_most_liked zbO zsB:=by
 have G_liking_key:FnOk P w K mg base CX0 6 Y.a_liking_key Y.d_liking_key zbJ zqY:=zgP Y
 refine Y.most_liked.fn.okQ zbE (λvs H Q E h=>?_) `X3
 ·obtain ⟨v,l,us,es,x,g,hs,ps,lks,hds,j,rs,rfl,_⟩:=h;rfl
 ·obtain ⟨v,l,us,es,x,g,hs,ps,lks,hds,j,rs,rfl,hv,T,hj,hlj,hl,at1,h64,nde,eok,q⟩:=h
  have lu:us.length=es.length:=at1.1
  refine⟨_,(zf (ze1 2 (src:=[none,none,some 0]) zbS rfl rfl zbE.nd (zkp (qv 1)) (λ_ _ _ _ _=>(zfR (K:=K) 2 rfl rfl (zr (zn 0 zbS.nd) (zr (zn 1 zbS.nd) zay)))) (λ_ _ _ _ _=>zek) (λ_ _ _ _ _=>(zG (za (zk G_liking_key `U3 Y.liking_key.mg Y.liking_key.kp Y.liking_key.b .nil zm (za (qc 2) (za (qv 0) (za (qv 1) zc)))) (za (qv 1) zc)))))
   (zf (zap (zeB (zqa (qv 2))) (zi (zt (zG (za zc6 (za (zG zc) zc))))) zX)
   (zf (zcD (zv (zka rfl (ztp hr)) Y.min ze8 (za (qv 2) zc)) (zc4 2 rfl (zr (zn 3 zbE.nd) (zr (zn 4 zbE.nd) zay))))
   (zi (zt (zG (za (zaa zY (qv 3) (zlW zeZ zh)) (za (qv 4) zc)))))))),?_⟩
  refine ztv λn e1=>?_
  refine⟨_,rfl,l,rfl,⟨_,SqL.of hl⟩,?_⟩
  refine zcY (zhS (K:=K) (xs:=us)) (λl' i ys σ' H'=>(∃o1 o2,σ'=[o1,o2,some v])/\AtG (KmM rs) H' ys (es.take i)/\Same H H') ?_ (λl' i ys σ' H' hl' z=>SqL.of (z.2.2 _ _ hl)) ?_ ?_
  ·exact λl' hl'=>⟨⟨_,_,rfl⟩,⟨rfl,λi v p e1 _=>by cases e1⟩,Same.new hl'⟩
  ·rintro l' i y0 ys σ' H1 hl' hi hy ⟨⟨o1,o2,rfl⟩,a1,s1⟩ hl1
   have hi':i<es.length:=()
   obtain⟨b,rfl,pw,pm,hb,hpw,hpm⟩:=at1.2 i y0 es[i] hy (F0 hi')
   have ee:=eok es[i] (List.getElem_mem hi')
   have tk:es.take (i+1)=es.take i ++ [es[i]]:=by rw[List.take_add_one,F0 hi'];rfl
   rw[tk]
   have ly:ys.length=i:=by have:=a1.1;rw[J2] at this;lia
   generalize es[i]=e at *
   obtain⟨ew,em⟩:=e
   obtain⟨ws,rfl⟩:=ee.hd
   refine⟨b,_,rfl, .inl (.inl (s1 _ _ hb)),rfl,_,_,rfl,_,_,rfl,rfl,?_⟩
   refine⟨_,rfl,_,rfl,_,rfl,v,pw,pm,x,ws,em,g,hs,ps,lks,hds,j,rs,wI rs (x::ws,em),rfl,hv.same s1,T,hj,hlj,s1 _ _ hpw,s1 _ _ hpm,ee.nw,ee.nm,by have:=ee.lw;simp only[J1] at this;lia,ee.lm,ee.wt,λu H2 ku s2=>?_⟩
   obtain⟨kb,kp,rfl,k1,k2,k3⟩:=ku
   have S3:∀{c:Addr},H2 c=none->Same H2 (upd H2 c (.tup [.ref kb, .ref pm])):=λ{c} h=>Same.new h
   refine⟨_,rfl,few rfl,λpt hpt=>?_⟩
   have s3:=S3 hpt
   have hl3:=s3 _ _ (s2 _ _ hl1)
   refine⟨hl3,zo (),⟨_,_,rfl⟩,?_,λc o e=>by rw[zd (zg e hl')];exact s3 _ _ (s2 _ _ (s1 c o e))⟩
   have up:∀c (xs:List V),(upd H2 pt (.tup [.ref kb, .ref pm])) c=some (.tup xs)->upd (upd H2 pt (.tup [.ref kb, .ref pm])) l' (.lst (ys ++ [.ref pt])) c=some (.tup xs):=λc xs e=>by rw[zd (zy e hl3 (by intro z;cases z))];exact e
   refine AtG.snoc (AtG.mono a1 λc k ⟨t,pm',h1,⟨p,e,f,o⟩,h3⟩=>?_) ?_
   ·exact ⟨t,pm',up _ _ (s3 _ _ (s2 _ _ h1)),⟨p,up _ _ (s3 _ _ (s2 _ _ e)),up _ _ (s3 _ _ (s2 _ _ f)),o⟩,up _ _ (s3 _ _ (s2 _ _ h3))⟩
   ·exact ⟨kb,pm,up _ _ zb,⟨kp,up _ _ (s3 _ _ k1),up _ _ (s3 _ _ k2),k3⟩,up _ _ (s3 _ _ (s2 _ _ (s1 _ _ hpm)))⟩
  rintro l1 zs σ' H1 hl1' ⟨⟨o1,o2,rfl⟩,a1,s1⟩ hl1
  rw[lu,List.take_length] at a1
  dsimp only[zce]
  refine e1 _ _ ?_
  obtain⟨bs,rfl,lb,hb⟩:=AtG.addrs a1
  have ndk:(es.map (kE rs)).Nodup:=by
   refine List.pairwise_map.mpr ((List.pairwise_map.mp nde).imp λh z=>h ?_)
   exact Z2 (λk:Ky=>k.2.2) z
  by_cases h0:es=[]
  ·subst h0
   have hb0:bs=[]:=List.eq_nil_of_length_eq_zero lb
   subst hb0
   refine⟨_,rfl,false, .inl ⟨_,SqL.of hl1,rfl⟩,zbW rfl ?_⟩
   refine⟨few rfl,λe2 he2=>⟨few rfl,λq2 hq2=>?_⟩⟩
   exact q q2 none _ rfl ⟨.non, .ref e2,zb,rfl,e2,rfl,Same.new hq2 _ _ zb⟩ (s1.trans ((Same.new he2).trans (Same.new hq2)))
  have l0:0<es.length:=List.length_pos_iff.mpr h0
  refine⟨_,rfl,true, .inl ⟨_,SqL.of hl1,?_⟩,zbG rfl ?_⟩
  ·cases bs with
   |nil=>rw[←lb] at l0;cases l0
   |cons _ _=>rfl
  refine⟨_,rfl,l1,bs,es.map (kE rs),rfl,hl1,by rw[D0];exact lb,λi b k e1 e2=>?_,ndk,by rw[D0];exact l0,λm b k e1 e2 best=>?_⟩
  ·rw[U0] at e2
   cases e3:es[i]? with
   |none=>rw[e3] at e2;cases e2
   |some e=>
    rw[e3] at e2;cases e2
    obtain⟨t,pm,h1,h2,h3⟩:=hb i b e e1 e3
    exact⟨_,t,h1,h2⟩
  ·rw[U0] at e2
   cases e3:es[m]? with
   |none=>rw[e3] at e2;cases e2
   |some e=>
    rw[e3] at e2;cases e2
    obtain⟨t,pm,h1,⟨p,h2,h3,h4⟩,h5⟩:=hb m b e e1 e3
    refine⟨b,_,rfl, .inl (.inl h1),rfl,_,_,rfl,_,_,rfl,rfl,?_⟩
    refine⟨_,rfl,1,rfl,t,_,-1,_,rfl,rfl, .inl (.inl h2),zlX,_,rfl,few rfl,λq2 hq2=>?_⟩
    have S:=Same.new (o:= .tup [V.ref p,V.ref pm]) hq2
    refine q q2 (some e) _ ⟨D1 e3,λe' he' ne=>best _ (y1.mpr ⟨e',he',rfl⟩) ne⟩ ⟨.ref p, .ref pm,zb,p,pm,rfl,rfl,S _ _ h3,S _ _ h5⟩ (s1.trans S)
noncomputable def zcG(v:V)(nm:Str)(hd td g:Addr)(n:Int):List (Str×V):=[("place",v),("name", .str nm),("hearings", .ref hd),("tellings", .ref td),("going", .ref g),("times", .int n)]
theorem zcF{nm:Str}{hd td g:Addr}{n:Int}:(zcG v nm hd td g n).lookup ("place":Str)=some v:=by rfl
theorem zcl{nm:Str}{hd td g:Addr}{n:Int}:(zcG v nm hd td g n).lookup ("name":Str)=some (.str nm):=by rfl
theorem zir{nm:Str}{hd td g:Addr}{n:Int}:(zcG v nm hd td g n).lookup ("hearings":Str)=some (.ref hd):=by rfl
theorem zlN{nm:Str}{hd td g:Addr}{n:Int}:(zcG v nm hd td g n).lookup ("tellings":Str)=some (.ref td):=by rfl
theorem zfP{nm:Str}{hd td g:Addr}{n:Int}:(zcG v nm hd td g n).lookup ("going":Str)=some (.ref g):=by rfl
theorem zge{nm:Str}{hd td g:Addr}{n:Int}:(zcG v nm hd td g n).lookup ("times":Str)=some (.int n):=by rfl
noncomputable def zjS(C:Addr):Sp:=λvs H Q _=>∃(p dx:Addr) (v:V) (nm:Str),vs=[.ref p,v, .str nm]/\H p=some (.ins C dx [])/\∀(hd td g e:Addr) (H':Hp),H hd=none->H td=none->H g=none->H e=none->hd≠td->H' p=some (.ins C dx (zcG v nm hd td g 0))->H' hd=some (.dK [])->H' td=some (.dK [])->H' g=some (.tup [.non, .ref e])->H' e=some (.tup [])->Keep p H H'->Q .non H'
theorem zmJ(Y:Ev K mg):FnOk P w K mg base CX0 1 Y.a_House___init__ Y.d_House___init__ zax (zjS Y.c_House):=by
 refine Y.House___init__.fn.okQ ze6 (λvs H Q E h=>?_) `X3
 ·obtain ⟨p,dx,v,nm,rfl,_⟩:=h;rfl
 ·obtain ⟨p,dx,v,nm,rfl,hp,q⟩:=h
  refine⟨_,(zf (zdQ (qv 0) (qv 1))
   (zf (zdQ (qv 0) (qv 2))
   (zf (zdQ (qv 0) zj3)
   (zf (zdQ (qv 0) zj3)
   (zf (zdQ (qv 0) (zG (za zc6 (za (zG zc) zc))))
   (zi (zdQ (qv 0) zh))))))),?_⟩
  refine⟨_,rfl,_,rfl,p,_,dx,[],rfl,hp,Y.k_House,Y.n_House_place,(by decide:0<1000),?_⟩
  have s1:Keep p H (upd H p (.ins Y.c_House dx (zad "place" v []))):=Keep.upd _ _ _
  have p1:upd H p (.ins Y.c_House dx (zad "place" v [])) p=some (.ins Y.c_House dx [("place",v)]):=zb
  generalize upd H p (.ins Y.c_House dx (zad "place" v []))=H1 at *
  refine⟨_,rfl,_,rfl,p,_,dx,_,rfl,p1,Y.k_House,Y.n_House_name,(by decide:1<1000),?_⟩
  have s2:Keep p H (upd H1 p (.ins Y.c_House dx (zad "name" (.str nm) [("place",v)]))):=s1.trans (Keep.upd _ _ _)
  have p2:upd H1 p (.ins Y.c_House dx (zad "name" (.str nm) [("place",v)])) p=some (.ins Y.c_House dx [("place",v),("name", .str nm)]):=zb
  generalize upd H1 p (.ins Y.c_House dx (zad "name" (.str nm) [("place",v)]))=H2 at *
  have none_of:∀{G:Hp} {b:Addr},H p=some (.ins Y.c_House dx [])->Keep p H G->G b=none->(∃o,G p=some o)->H b=none:=λ{G b} hp k e ⟨o,ho⟩=>by
   cases z:H b with
   |none=>rfl
   |some u=>
    have:b≠p:=λy=>by rw[y,ho] at e;cases e
    rw[k b u this z] at e;cases e
  refine λhd hhd=>⟨_,rfl,p,_,dx,_,rfl,Same.new hhd _ _ p2,Y.k_House,Y.n_House_hearings,(by decide:2<1000),?_⟩
  have h1:=none_of hp s2 hhd ⟨_,p2⟩
  have npd:hd≠p:=λz=>by rw[z,p2] at hhd;cases hhd
  have s3:Keep p H (upd (upd H2 hd (.dK [])) p (.ins Y.c_House dx (zad "hearings" (.ref hd) [("place",v),("name", .str nm)]))):=(s2.trans (Keep.new hhd)).trans (Keep.upd _ _ _)
  have p3:upd (upd H2 hd (.dK [])) p (.ins Y.c_House dx (zad "hearings" (.ref hd) [("place",v),("name", .str nm)])) p=some (.ins Y.c_House dx [("place",v),("name", .str nm),("hearings", .ref hd)]):=zb
  have d3:upd (upd H2 hd (.dK [])) p (.ins Y.c_House dx (zad "hearings" (.ref hd) [("place",v),("name", .str nm)])) hd=some (.dK []):=by rw[zd npd];exact zb
  generalize upd (upd H2 hd (.dK [])) p (.ins Y.c_House dx (zad "hearings" (.ref hd) [("place",v),("name", .str nm)]))=H3 at *
  refine λtd htd=>⟨_,rfl,p,_,dx,_,rfl,Same.new htd _ _ p3,Y.k_House,Y.n_House_tellings,(by decide:3<1000),?_⟩
  have h2:=none_of hp s3 htd ⟨_,p3⟩
  have npt:td≠p:=λz=>by rw[z,p3] at htd;cases htd
  have nht:hd≠td:=zg d3 htd
  have s4:Keep p H (upd (upd H3 td (.dK [])) p (.ins Y.c_House dx (zad "tellings" (.ref td) [("place",v),("name", .str nm),("hearings", .ref hd)]))):=(s3.trans (Keep.new htd)).trans (Keep.upd _ _ _)
  have p4:upd (upd H3 td (.dK [])) p (.ins Y.c_House dx (zad "tellings" (.ref td) [("place",v),("name", .str nm),("hearings", .ref hd)])) p=some (.ins Y.c_House dx [("place",v),("name", .str nm),("hearings", .ref hd),("tellings", .ref td)]):=zb
  have d4:upd (upd H3 td (.dK [])) p (.ins Y.c_House dx (zad "tellings" (.ref td) [("place",v),("name", .str nm),("hearings", .ref hd)])) td=some (.dK []):=by rw[zd npt];exact zb
  have d4':upd (upd H3 td (.dK [])) p (.ins Y.c_House dx (zad "tellings" (.ref td) [("place",v),("name", .str nm),("hearings", .ref hd)])) hd=some (.dK []):=by rw[zd npd];exact Same.new htd _ _ d3
  generalize upd (upd H3 td (.dK [])) p (.ins Y.c_House dx (zad "tellings" (.ref td) [("place",v),("name", .str nm),("hearings", .ref hd)]))=H4 at *
  refine⟨few rfl,λe he=>⟨few rfl,λg hg=>?_⟩⟩
  have S5:=Same.new (o:= .tup ([]:List V)) he
  have S6:=Same.new (o:= .tup [V.non, .ref e]) hg
  have h3:=none_of hp s4 he ⟨_,p4⟩
  have h4:=none_of hp (s4.trans (Keep.of S5)) hg ⟨_,S5 _ _ p4⟩
  refine⟨_,rfl,p,_,dx,_,rfl,S6 _ _ (S5 _ _ p4),Y.k_House,Y.n_House_going,(by decide:4<1000),_,rfl,p,_,dx,_,rfl,zb,Y.k_House,Y.n_House_times,(by decide:5<1000),?_⟩
  rw[zlG]
  have ng:∀{b},H b=none->b≠p:=λ{b} e z=>by rw[z,hp] at e;cases e
  refine q hd td g e _ h1 h2 h4 h3 nht (by rw[zb];rfl) ?_ ?_ ?_ ?_ ?_
  ·rw[zd npd];exact S6 _ _ (S5 _ _ d4')
  ·rw[zd npt];exact S6 _ _ (S5 _ _ d4)
  ·rw[zd (ng h4)];exact zb
  ·rw[zd (ng h3)];exact S6 _ _ zb
  ·exact (s4.trans (Keep.of (S5.trans S6))).trans (Keep.upd _ _ _)
noncomputable def zlD(C:Addr)(k:Nat):Sp:=λvs H Q _=>∃(p dx hd td g:Addr) (v:V) (nm:Str) (n:Int) (us:List V) (u:V),vs=[.ref p]/\H p=some (.ins C dx (zcG v nm hd td g n))/\H g=some (.tup us)/\us[k]?=some u/\Q u H
theorem znc(Y:Ev K mg):FnOk P w K mg base CX0 1 Y.a_House_way Y.d_House_way zcf (zlD Y.c_House 0):=by
 refine Y.House_way.fn.okQ zjI (λvs H Q E h=>?_) `X3
 ·obtain ⟨p,dx,hd,td,g,v,nm,n,us,u,rfl,_⟩:=h;rfl
 ·obtain ⟨p,dx,hd,td,g,v,nm,n,us,u,rfl,hp,hg,hu,q⟩:=h
  refine⟨_,(zi (zt (zaa zY (zJ (qv 0)) zh))),?_⟩
  exact⟨_,rfl,p,_,dx,_,_,rfl,hp,Y.k_House,Y.n_House_going,zfP,g,us,0,u,rfl,rfl, .inl (.inl hg),zT (j:=0) hu,q⟩
noncomputable def ze9(C N:Addr):Sp:=λvs H Q _=>∃(p dx hd td g:Addr) (v:V) (nm o:Str) (n:Int) (kvs:List (Key×V)),vs=[.ref p, .str o]/\H p=some (.ins C dx (zcG v nm hd td g n))/\H hd=some (.dK kvs)/\Q ((zaA kvs (Sum.inr o)).getD (.ref N)) H
theorem zfQ(Y:Ev K mg):FnOk P w K mg base CX0 1 Y.a_House_heard Y.d_House_heard zaz (ze9 Y.c_House Y.a_NOTHING):=by
 refine Y.House_heard.fn.okQ zg7 (λvs H Q E h=>?_) `X3
 ·obtain ⟨p,dx,hd,td,g,v,nm,o,n,kvs,rfl,_⟩:=h;rfl
 ·obtain ⟨p,dx,hd,td,g,v,nm,o,n,kvs,rfl,hp,hh,q⟩:=h
  refine⟨_,(zi (zt (zk8 (hu1 hr) (zJ (qv 0)) (qv 1) (zcn (v:= .ref Y.a_NOTHING) Y.m_NOTHING rfl)))),?_⟩
  exact⟨_,rfl,p,_,dx,_,_,rfl,hp,Y.k_House,Y.n_House_hearings,zir,hd,rfl, .inl ⟨_, .inl hh⟩,_,rfl,_,DGet.k (k:=Sum.inr o) hh,q⟩
def zdK:Option WM->Prop
 |none=>True
 |some (w,ms)=>(∀y∈w,zj y=true)/\(∀y∈ms,zj y=true)
theorem zi6{p:Addr}{xs:List Str}(e:H p=some (.tup (xs.map V.str)))(h:∀y∈xs,zj y=true):TrC K H (.ref p) (.tuple (zx xs)):=by
 refine .tup (.inl (.inl e)) (by unfold zx;rw[D0,D0]) λi v d e1 e2=>?_
 unfold zx at e2
 rw[U0] at e1 e2
 cases e3:xs[i]? with
 |none=>rw[e3] at e1;cases e1
 |some x=>rw[e3] at e1 e2;cases e1;cases e2;exact .str x (zaF (h x (D1 e3)))
noncomputable def zc3:Option WM->PyData|none=> .none|some (w,_)=> .tuple (zx w)
noncomputable def zet:Option WM->PyData|none=> .tuple []|some (_,ms)=> .tuple (zx ms)
theorem zfE{x y:V}{b:Option WM}(h:WmAt H x y b)(ok:zdK b):TrC K H x (zc3 b):=by
 match b,h,ok with
 |none,⟨h1,_⟩,_=>rw[h1];exact .non
 |some (w,ms),⟨pw,pm,h1,h2,h3,h4⟩,ok=>rw[h1];exact zi6 h3 ok.1
theorem zly{x y:V}{b:Option WM}(h:WmAt H x y b)(ok:zdK b):TrC K H y (zet b):=by
 match b,h,ok with
 |none,⟨_,e,h1,h2⟩,_=>rw[h1];exact .tup (.inl (.inl h2)) rfl λi v d e1=>by cases e1
 |some (w,ms),⟨pw,pm,h1,h2,h3,h4⟩,ok=>rw[h2];exact zi6 h4 ok.2
theorem zbz{b:Option WM}:(zc3 b).depth<=2:=by
 match b with
 |none=>show (PyData.none).depth<=2;rw[PyData.depth];decide
 |some (w,ms)=>show (PyData.tuple (zx w)).depth<=2;rw[PyData.depth];have:=zbe (xs:=w);lia
theorem zi5{b:Option WM}:(zc3 b).depth<=60:=V1 zbz ⋯
theorem zfe{b:Option WM}:(zet b).depth<=2:=by
 match b with
 |none=>show (PyData.tuple []).depth<=2;rw[PyData.depth,PyData.depthAll];decide
 |some (w,ms)=>show (PyData.tuple (zx ms)).depth<=2;rw[PyData.depth];have:=zbe (xs:=ms);lia
noncomputable def zgb(C:Addr):Sp:=λvs H Q _=>∃(p dx hd td g g':Addr) (v:V) (nm:Str) (n:Int) (b b':Option WM),vs=[.ref p, .ref g']/\H p=some (.ins C dx (zcG v nm hd td g n))/\GoR H g b/\GoR H g' b'/\zdK b/\zdK b'/\∀n':Int,Q .non (upd H p (.ins C dx (zcG v nm hd td g' n')))
theorem zhc(Y:Ev K mg):FnOk P w K mg base CX0 1 Y.a_House_go_by Y.d_House_go_by zaB (zgb Y.c_House):=by
 refine Y.House_go_by.fn.okQ zg3 (λvs H Q E h=>?_) `X3
 ·obtain ⟨p,dx,hd,td,g,g',v,nm,n,b,b',rfl,_⟩:=h;rfl
 ·obtain ⟨p,dx,hd,td,g,g',v,nm,n,b,b',rfl,hp,⟨x,y,hg,wa⟩,⟨x',y',hg',wa'⟩,ok,ok',q⟩:=h
  refine⟨_,(zgm (zap (zL (zow (zta hr)) (zaa zY (qv 1) zh) (zaa zY (zJ (qv 0)) zh)) (zi (zoH (qv 0) zh zrX)) zX)
   (zi (zdQ (qv 0) (qv 1)))),?_⟩
  refine⟨λσ' H'=>σ'=[some (.ref p),some (.ref g')]/\∃n',H'=upd H p (.ins Y.c_House dx (zcG v nm hd td g n')),?_,?_⟩
  ·refine ⟨_,rfl,g',_,0,_,rfl,rfl, .inl (.inl hg'),at0,_,rfl,p,_,dx,_,_,rfl,hp,Y.k_House,Y.n_House_going,zfP,g,_,0,_,rfl,rfl, .inl (.inl hg),at0,zc3 b',zc3 b,zfE wa' ok',zfE wa ok,V1 (Nat.min_le_left _ _) zi5,_,rfl,zbP (λ_=>?_) (λ_=>?_)⟩
   ·exact ⟨_,rfl,p,_,dx,_,_,rfl,hp,Y.k_House,Y.n_House_times,zge,_,_,rfl,rfl,dx,_,hp,(by decide:6<1000),rfl,_,rfl⟩
   ·exact ⟨rfl,n,by funext c;by_cases e:c=p
                    ·rw[e,zb];exact hp
                    ·rw[zd e]⟩
  ·rintro σ' H1 ⟨rfl,n',rfl⟩
   refine⟨_,rfl,_,rfl,p,_,dx,_,rfl,zb,Y.k_House,Y.n_House_going,(by decide:6<1000),?_⟩
   rw[zlG]
   exact q n'
theorem zk9(T:TownOk g hs ps lks hds)(hf:∀d∈hds,∃ds,d= .tup ds/\ds.length<=12)(h:x∈hs):∃(j:Nat) (rs:List D),hs[j]?=some x/\hds[j]?=some (.tup rs)/\zp hs hds x=rs/\zit rs/\rs.length<=12:=by
 obtain⟨j,d,e1,e2,hm⟩:=zm5 T h
 obtain⟨rs,rfl,hk⟩:=zks (T.hands d hm)
 obtain⟨ds,e3,h12⟩:=hf _ hm
 cases e3
 exact⟨j,rs,e1,e2,zfH T.hs_nd e1 e2,hk,h12⟩
def GoOk(nm:Str):Option WM->Prop
 |none=>True
 |some (w,ms)=>(∃ws,w=nm::ws/\ws.length<=90)/\(∀y∈w,zj y=true)/\(∀y∈ms,zj y=true)/\ms.length<=40
theorem GoOk.wm{nm:Str}{b:Option WM}(h:GoOk nm b):zdK b:=by
 match b,h with
 |none,_=>exact trivial
 |some (w,ms),⟨_,h1,h2,_⟩=>exact ⟨h1,h2⟩
theorem zsk(T:TownOk g hs ps lks hds)(hf:∀d∈hds,∃ds,d= .tup ds/\ds.length<=12){nm o:Str}(hn:nm∈hs){b:Option WM}(ok:GoOk nm b):zdK (zdl (zp hs hds nm) b o):=by
 obtain⟨j,rs,_,_,er,hk,_⟩:=zk9 T hf hn
 match b,ok with
 |none,_=>exact trivial
 |some (w,ms),⟨_,h1,h2,_⟩=>
  show zdK ((zE w (some o) (zp hs hds nm) ms).map λt=>(w,t))
  rw[er]
  cases e:zE w (some o) rs ms with
  |none=>exact trivial
  |some t=>exact ⟨h1,zcO hk.2 h2 e⟩
noncomputable def zhA(C:Addr):Sp:=λvs H Q _=>∃(p dx hd td ga:Addr) (v:V) (nm o:Str) (n:Int) (b:Option WM) (g:Str) (hs:List Str) (ps:List (Str×Str)) (lks hds:List D),vs=[.ref p, .str o]/\H p=some (.ins C dx (zcG v nm hd td ga n))/\Rep H v (zaq g hs ps lks hds)/\TownOk g hs ps lks hds/\(∀d∈hds,∃ds,d= .tup ds/\ds.length<=12)/\nm∈hs/\o∈hs/\GoR H ga b/\GoOk nm b/\∀(q:Addr) (H':Hp),GoR H' q (zdl (zp hs hds nm) b o)->Same H H'->Q (.ref q) H'
theorem zj6(Y:Ev K mg):FnOk P w K mg base CX0 6 Y.a_House_offer Y.d_House_offer zbg (zhA Y.c_House):=by
 have G_handed:FnOk P w K mg base CX0 5 Y.a_handed Y.d_handed zez zhE:=zkC Y
 refine Y.House_offer.fn.okQ zbi (λvs H Q E h=>?_) `X3
 ·obtain ⟨p,dx,hd,td,ga,v,nm,o,n,b,g,hs,ps,lks,hds,rfl,_⟩:=h;rfl
 ·obtain ⟨p,dx,hd,td,ga,v,nm,o,n,b,g,hs,ps,lks,hds,rfl,hp,hv,T,hf,hnm,ho,⟨x,y,h1,wa⟩,ok,q⟩:=h
  refine⟨_,(zf (zcD (zJ (qv 0)) (zc4 2 rfl (zr (zn 2 zbi.nd) (zr (zn 3 zbi.nd) zay))))
   (zf (zu 4 zbi.nd (zsS (zL zkr (qv 2) zc6) zc6 (zk G_handed `U3 Y.handed.mg Y.handed.kp Y.handed.b .nil zm (za (zJ (qv 0)) (za (qv 2) (za (qv 3) (za (qv 1) zc)))))))
   (zi (zt (zsS (zL zkr (qv 4) zc6) (zG (za zc6 (za (zG zc) zc))) (zG (za (qv 2) (za (qv 4) zc)))))))),?_⟩
  refine⟨_,rfl,p,_,dx,_,_,rfl,hp,Y.k_House,Y.n_House_going,zfP,ga,_,rfl, .inl (.inl h1),rfl,_,_,rfl,_,_,rfl,rfl,?_⟩
  match b,wa,ok,q with
  |none,⟨ex,e,ey,h2⟩,_,q=>
   subst ex ey
   refine⟨_,rfl,rfl,_,rfl,zbW rfl ?_⟩
   refine⟨_,rfl,rfl,_,rfl,zbW rfl ⟨few rfl,λe2 he2=>⟨few rfl,λq2 hq2=>?_⟩⟩⟩
   exact q q2 _ ⟨.non, .ref e2,zb,rfl,e2,rfl,Same.new hq2 _ _ zb⟩ ((Same.new he2).trans (Same.new hq2))
  |some (w,ms),⟨wt,mt,ex,ey,h2,h3⟩,⟨⟨ws,ew,lw⟩,nw,nm',lm⟩,q=>
   subst ex ey ew
   obtain⟨j,rs,hj,hdj,er,hk,h12⟩:=zk9 T hf hnm
   refine⟨_,rfl,rfl,_,rfl,zbG rfl ?_⟩
   refine⟨_,rfl,p,_,dx,_,_,rfl,hp,Y.k_House,Y.n_House_place,zcF,_,rfl,_,rfl,_,rfl,v,wt,mt, .str o,nm,ws,ms,some o,g,hs,ps,lks,hds,j,rs,Mn 40,rfl,hv,T,hj,hdj,hk,zsh hk (),⟨nm',lm⟩,h2,h3, .inr ⟨o,rfl,rfl,T.names o ho⟩,nw,lw,λu H1 tu s1=>?_⟩
   have eo:zdl (zp hs hds nm) (some (nm::ws,ms)) o=(zE (nm::ws) (some o) rs ms).map λt=>(nm::ws,t):=by rw[←er];rfl
   rw[eo] at q
   cases e:zE (nm::ws) (some o) rs ms with
   |none=>
    rw[e] at tu q
    cases(show u= .non from tu)
    refine⟨_,rfl,rfl,_,rfl,zbW rfl ⟨few rfl,λe2 he2=>⟨few rfl,λq2 hq2=>?_⟩⟩⟩
    exact q q2 _ ⟨.non, .ref e2,zb,rfl,e2,rfl,Same.new hq2 _ _ zb⟩ (s1.trans ((Same.new he2).trans (Same.new hq2)))
   |some t=>
    rw[e] at tu q
    obtain⟨mp,rfl,hmp⟩:=tu
    refine⟨_,rfl,rfl,_,rfl,zbG rfl ⟨_,rfl,_,rfl,few rfl,λq2 hq2=>?_⟩⟩
    have S2:=Same.new (o:= .tup [V.ref wt,V.ref mp]) hq2
    exact q q2 _ ⟨.ref wt, .ref mp,zb,wt,mp,rfl,rfl,S2 _ _ (s1 _ _ h2),S2 _ _ hmp⟩ (s1.trans S2)
def TeO(H:Hp)(v:V)(r:Hr):Prop:=∃t x y,v= .ref t/\H t=some (.tup [.int r.1,x,y])/\WmAt H x y r.2
theorem TeO.mono{r:Hr}(h:TeO H v r)(m:∀c xs,H c=some (.tup xs)->H' c=some (.tup xs)):TeO H' v r:=let⟨t,x,y,e,h1,w⟩:=h;⟨t,x,y,e,m _ _ h1,w.mono m⟩
inductive TbL(H:Hp):List (Key×V)->Tb->Prop
 |nil:TbL H [] []
 |cons {x:Str} {v:V} {r:Hr} {kvs:List (Key×V)} {m:Tb} (h:TeO H v r) (t:TbL H kvs m):TbL H ((Sum.inr x,v)::kvs) ((x,r)::m)
theorem TbL.mono{tm:Tb}(h:TbL H kvs tm)(m:∀c xs,H c=some (.tup xs)->H' c=some (.tup xs)):TbL H' kvs tm:=by
 induction h with
 |nil=>exact .nil
 |cons h t ih=>exact .cons (h.mono m) ih
theorem TbL.len{m:Tb}(h:TbL H kvs m):kvs.length=m.length:=by
 induction h with
 |nil=>rfl
 |cons h t ih=>rw[J1,J1,ih]
theorem TbL.look{m:Tb}(h:TbL H kvs m)(x:Str):(zA m x=none/\zaA kvs (Sum.inr x)=none)\/∃r v,zA m x=some r/\zaA kvs (Sum.inr x)=some v/\TeO H v r:=by
 induction h with
 |nil=>exact .inl ⟨rfl,rfl⟩
 | @cons y v r kvs m h t ih=>
   by_cases e:y=x
   ·exact .inr ⟨r,v,zae e,zdd (by rw[e]),h⟩
   ·rw[zao (p:=(y,r)) e,zbk (p:=(Sum.inr y,v)) (λz=>e (Sum.inr.inj z))];exact ih
theorem TbL.map{m:Tb}(h:TbL H kvs m){r:Hr}(hv:TeO H v r):TbL H (kvs.map λkv=>if kv.1=Sum.inr x then(kv.1,v)else kv) (m.map λp=>if p.1=x then(p.1,r)else p):=by
 induction h with
 |nil=>exact .nil
 | @cons y v' r' kvs m h t ih=>
   rw[Z1,Z1]
   by_cases e:y=x
   ·rw[R0 (show(Sum.inr y:Key)=Sum.inr x by rw[e]),R0 (show y=x from e)];exact .cons hv ih
   ·rw[N0 (show¬(Sum.inr y:Key)=Sum.inr x from λz=>e (Sum.inr.inj z)),N0 (show¬y=x from e)];exact .cons h ih
theorem TbL.snoc{m:Tb}(h:TbL H kvs m){r:Hr}(hv:TeO H v r):TbL H (kvs ++ [(Sum.inr x,v)]) (m ++ [(x,r)]):=by
 induction h with
 |nil=>exact .cons hv .nil
 |cons h t ih=>exact .cons h ih
theorem TbL.put{m:Tb}(h:TbL H kvs m){r:Hr}(hv:TeO H v r):TbL H (zah kvs (Sum.inr x) v) (zc9 m x r):=by
 unfold zah zc9
 rw[zeJ,zcz]
 rcases h.look x with⟨e1,e2⟩|⟨r',v',e1,e2,_⟩
 ·rw[e1,e2,N0 `Z3,N0 `Z3];exact h.snoc hv
 ·rw[e1,e2,R0 (show(some v').isSome=true from rfl),R0 (show(some r').isSome=true from rfl)];exact h.map hv
theorem zrk:∀{a b:Option WM},(PyData.tuple [zc3 a,zet a]).eqv (.tuple [zc3 b,zet b])=decide (a=b)
 |none,none=>by
  show(PyData.tuple [.none, .tuple []]).eqv (.tuple [.none, .tuple []])=_
  rw[PyData.eqv,PyData.eqvAll,PyData.eqvAll,PyData.eqvAll,PyData.eqv,PyData.eqv,PyData.eqvAll];rfl
 |none,some (w,ms)=>by
  show(PyData.tuple [.none, .tuple []]).eqv (.tuple [.tuple (zx w), .tuple (zx ms)])=_
  rw[PyData.eqv,PyData.eqvAll,PyData.eqv];rfl
 |some (w,ms),none=>by
  show(PyData.tuple [.tuple (zx w), .tuple (zx ms)]).eqv (.tuple [.none, .tuple []])=_
  rw[PyData.eqv,PyData.eqvAll,PyData.eqv];rfl
 |some (w,ms),some (w',ms')=>by
  show(PyData.tuple [.tuple (zx w), .tuple (zx ms)]).eqv (.tuple [.tuple (zx w'), .tuple (zx ms')])=_
  rw[PyData.eqv,PyData.eqvAll,PyData.eqvAll,PyData.eqvAll,zdF,zdF]
  rw[Bool.eq_iff_iff]
  simp only[W0,decide_eq_true_eq,Option.some.injEq,Prod.mk.injEq]
  simp
theorem zcQ{b:Addr}{Q:VK}(ha:H a=some (.tup xs))(hb:H b=some (.tup ys))(hl:xs.length+ys.length<=1000)(k:∀p H',H' p=some (.tup (xs ++ys))->Same H H'->Q (.ref p) H'):zq5 K (.ref a) (.ref b) H Q:=
 ⟨a,b,xs,ys,rfl,rfl, .inl (.inl ha), .inl (.inl hb),Nat.le_of_lt (zo hl),λz=>k b H (by rw[z];exact hb) (Same.refl _),λ_ z=>k a H (by rw[z,List.append_nil];exact ha) (Same.refl _),λ_ _ p hp=>k p _ zb (Same.new hp)⟩
theorem zlH{x y:V}{dx dy:PyData}(e:H a=some (.tup [x,y]))(h1:TrC K H x dx)(h2:TrC K H y dy):TrC K H (.ref a) (.tuple [dx,dy]):=by
 refine .tup (.inl (.inl e)) rfl λi v d e1 e2=>?_
 match i with
 |0=>cases e1;cases e2;exact h1
 |1=>cases e1;cases e2;exact h2
 |i+2=>cases e1
theorem zmw{b b':Option WM}:min (PyData.tuple [zc3 b,zet b]).depth (PyData.tuple [zc3 b',zet b']).depth<=60:=by
 refine V1 (Nat.min_le_left _ _) ?_
 rw[PyData.depth,PyData.depthAll,PyData.depthAll,PyData.depthAll]
 have h1:=zbz (b:=b)
 have h2:=zfe (b:=b)
 lia
def LtO(H:Hp)(v:V)(a c:Str)(r:Hr):Prop:=∃t x y,v= .ref t/\H t=some (.tup [.str a, .str c, .int r.1,x,y])/\WmAt H x y r.2
theorem LtO.mono{a c:Str}{r:Hr}(h:LtO H v a c r)(m:∀c xs,H c=some (.tup xs)->H' c=some (.tup xs)):LtO H' v a c r:=let⟨t,x,y,e,h1,w⟩:=h;⟨t,x,y,e,m _ _ h1,w.mono m⟩
inductive LtsO(H:Hp)(nm:Str):List V->List Lt->Prop
 |nil:LtsO H nm [] []
 |cons {v:V} {l:Lt} {us:List V} {L:List Lt} (h:LtO H v nm l.1 l.2) (t:LtsO H nm us L):LtsO H nm (v::us) (l::L)
theorem LtsO.mono{nm:Str}{L:List Lt}(h:LtsO H nm us L)(m:∀c xs,H c=some (.tup xs)->H' c=some (.tup xs)):LtsO H' nm us L:=by
 induction h with
 |nil=>exact .nil
 |cons h t ih=>exact .cons (h.mono m) ih
theorem LtsO.append{nm:Str}{L L':List Lt}(h:LtsO H nm us L)(h':LtsO H nm us' L'):LtsO H nm (us ++us') (L ++L'):=by
 induction h with
 |nil=>exact h'
 |cons h t ih=>exact .cons h ih
theorem LtsO.len{nm:Str}{L:List Lt}(h:LtsO H nm us L):us.length=L.length:=by
 induction h with
 |nil=>rfl
 |cons h t ih=>rw[J1,J1,ih]
def wmR(_:Str)(r:Hr):Prop:=zdK r.2
theorem zpK{tm:Tb}(h:TbOk hs wmR tm)(o:Str):zdK (zag tm o):=by
 unfold zag
 cases e:zA tm o with
 |none=>exact trivial
 |some r=>exact h.look e
theorem zne{tm:Tb}{b:Option WM}{o:Str}(h:TbOk hs wmR tm)(ho:o∈hs)(hw:zdK (zdl rs b o)):TbOk hs wmR (zca rs b tm o):=by
 unfold zca
 split
 ·exact h
 ·exact h.put ho hw
noncomputable def zfV(C:Addr):Sp:=λvs H Q _=>∃(p dx hd td ga:Addr) (v:V) (nm:Str) (n:Int) (b:Option WM) (kv0:List (Key×V)) (tm:Tb) (g:Str) (hs:List Str) (ps:List (Str×Str)) (lks hds:List D),vs=[.ref p]/\H p=some (.ins C dx (zcG v nm hd td ga n))/\H td=some (.dK kv0)/\TbL H kv0 tm/\TbOk hs wmR tm/\Rep H v (zaq g hs ps lks hds)/\TownOk g hs ps lks hds/\(∀d∈hds,∃ds,d= .tup ds/\ds.length<=12)/\nm∈hs/\GoR H ga b/\GoOk nm b/\
 ∀(l:Addr) (us:List V) (kvs:List (Key×V)) (H':Hp),H l=none->H' l=some (.lst us)->LtsO H' nm us (za2 (zp hs hds nm) b tm (due hs ps nm))->H' td=some (.dK kvs)->TbL H' kvs (zbm (zp hs hds nm) b tm (due hs ps nm))->TbOk hs wmR (zbm (zp hs hds nm) b tm (due hs ps nm))->Keep td H H'->Q (.ref l) H'
theorem zhe(Y:Ev K mg):FnOk P w K mg base CX0 7 Y.a_House_letters Y.d_House_letters zam (zfV Y.c_House):=by
 have G_tied:FnOk P w K mg base CX0 1 Y.a_tied Y.d_tied ziI zoF:=zpt Y
 have G_House_offer:FnOk P w K mg base CX0 6 Y.a_House_offer Y.d_House_offer zbg (zhA Y.c_House):=zj6 Y
 refine Y.House_letters.fn.okQ zR (λvs H Q E h=>?_) `X3
 ·obtain ⟨p,dx,hd,td,ga,v,nm,n,b,kv0,tm,g,hs,ps,lks,hds,rfl,_⟩:=h;rfl
 ·obtain ⟨p,dx,hd,td,ga,v,nm,n,b,kv0,tm,g,hs,ps,lks,hds,rfl,hp,htd,tb0,to0,hv,T,hf,hnm,G,ok,q⟩:=h
  have T10:=T.ten
  refine⟨_,(zf (zu 1 zR.nd (zcj zc))
   (zf (zci PassesOwn.never rfl (zkp (zk G_tied `U3 Y.tied.mg Y.tied.kp Y.tied.b .nil zm (za (zJ (qv 0)) (za (zJ (qv 0)) zc)))) (zn 2 zR.nd) (zf (zcD (zk8 (hu1 hr) (zJ (qv 0)) (qv 2) (zcn (v:= .ref Y.a_NOTHING) Y.m_NOTHING rfl)) (zc4 3 rfl (zr (zn 3 zR.nd) (zr (zn 4 zR.nd) (zr (zn 5 zR.nd) zay)))))
   (zf (zu 6 zR.nd (zb4 (qv 0) Y.k_House Y.House_offer.m G_House_offer `U3 Y.House_offer.b .nil zm (za (qv 2) zc)))
   (zi (zap (zL (zow (zta hr)) (qv 6) (zG (za (qv 4) (za (qv 5) zc)))) (zf (zim (hu1 hr) (zJ (qv 0)) (qv 2) (zB zfG (zG (za (zB zZ (qv 3) zh) zc)) (qv 6)))
   (zi (zaK (zg4 F.plainAttrs_list F.slot_list_append F.type_list_append zba (qv 1) (za (zB zfG (zG (za (zJ (qv 0)) (za (qv 2) (za (zB zZ (qv 3) zh) zc)))) (qv 6)) zc))))) zX)))))
   (zi (zt (qv 1))))),?_⟩
  refine⟨few rfl,λlf hlf=>?_⟩
  have S1:=Same.new (o:= .lst ([]:List V)) hlf
  have nlt:lf≠td:=Ne.symm (zg htd hlf)
  have nlp:p≠lf:=zg hp hlf
  refine⟨_,rfl,p,_,dx,_,_,rfl,S1 _ _ hp,Y.k_House,Y.n_House_place,zcF,_,rfl,p,_,dx,_,_,rfl,S1 _ _ hp,Y.k_House,Y.n_House_name,zcl,v,nm,g,hs,ps,lks,hds,rfl,hv.same S1,T,λlt ts H2 hlt ht2 tp tsr s2=>?_⟩
  have ets:=zr6 T tp tsr
  have tin:∀o∈ts,o∈hs:=λo ho=>zlC T (tp.mem_iff.mp ho)
  have tl:ts.length<=10:=by rw[tp.length_eq];exact zjM T nm
  rw[←ets] at q
  have nltt:lt≠td:=λz=>by rw[z,S1 _ _ htd] at hlt;cases hlt
  have nltf:lt≠lf:=λz=>by rw[z,zb] at hlt;cases hlt
  have offok:∀o,zdK (zdl (zp hs hds nm) b o):=λo=>zsk T hf hnm ok
  generalize ers:zp hs hds nm=rs at *
  refine⟨lt,rfl,⟨_,SqL.of ht2⟩,?_⟩
  refine zaZ (zhS (K:=K) (xs:=ts.map V.str)) (λi σ' H'=>(∃o2 o3 o4 o5 o6,σ'=[some (.ref p),some (.ref lf),o2,o3,o4,o5,o6])/\H' lt=some (.lst (ts.map V.str))/\(∃kvs us,H' td=some (.dK kvs)/\TbL H' kvs (zbm rs b tm (ts.take i))/\TbOk hs wmR (zbm rs b tm (ts.take i))/\H' lf=some (.lst us)/\LtsO H' nm us (za2 rs b tm (ts.take i)))/\Keep td H H') ?_ ?_ ?_ ?_
  ·exact ⟨⟨_,_,_,_,_,rfl⟩,ht2,⟨kv0,[],s2 _ _ (S1 _ _ htd),tb0.mono λc xs e=>s2 _ _ (S1 _ _ e),to0,s2 _ _ zb, .nil⟩,Keep.of (S1.trans s2)⟩
  ·rintro i σ' H' ⟨_,h,_⟩
   exact SqL.of h
  ·rintro i y σ' H3 hi hy ⟨⟨o2,o3,o4,o5,o6,rfl⟩,ht3,⟨kvs,us,hk3,tb3,to3,hf3,R3⟩,k3⟩
   obtain⟨o,ho,rfl⟩:∃o,ts[i]?=some o/\y= .str o:=by
    rw[U0] at hy
    cases e:ts[i]? with
    |none=>rw[e] at hy;cases hy
    |some th=>rw[e] at hy;cases hy;exact⟨th,rfl,rfl⟩
   rw[D0] at hi
   have npt:p≠td:=zy hp htd (λz=>nomatch z)
   have hp3:=k3 _ _ npt hp
   have ohs:=tin o (D1 ho)
   have tk:ts.take (i+1)=ts.take i ++ [o]:=by rw[List.take_add_one,ho];rfl
   have nl3:=zdc (rs:=rs) (b:=b) (os:=ts.take i) (tm:=tm)
   rw[J2] at nl3
   rw[tk,zkA,zhl]
   generalize zbm rs b tm (ts.take i)=t3 at *
   generalize za2 rs b tm (ts.take i)=L3 at *
   have kt:∀c xs,H c=some (.tup xs)->H3 c=some (.tup xs):=λc xs e=>k3 _ _ (zy e htd (λz=>nomatch z)) e
   have hv3:Rep H3 v (zaq g hs ps lks hds):=by
    refine hv.mono ⟨kt,λc xs e=>⟨xs,k3 _ _ (zy e htd (λz=>nomatch z)) e⟩,λc xs e=>?_⟩
    by_cases z:c=td
    ·rw[z];exact⟨kvs,hk3⟩
    ·exact ⟨xs,k3 _ _ z e⟩
   obtain⟨A3,x3,y3,eA,hA,tx,ty⟩:∃A x y,(zaA kvs (Sum.inr o)).getD (.ref Y.a_NOTHING)= .ref A/\SqT K H3 A [.int (zcN (zA t3 o)),x,y]/\(∀H',(∀c xs,H3 c=some (.tup xs)->H' c=some (.tup xs))->TrC K H' x (zc3 (zag t3 o)))/\∀H',(∀c xs,H3 c=some (.tup xs)->H' c=some (.tup xs))->TrC K H' y (zet (zag t3 o)):=by
    have wok:=zpK to3 o
    unfold zag at wok⊢
    rcases tb3.look o with⟨e1,e2⟩|⟨r,v',e1,e2,t,x,y,rfl,ht,wa⟩
    ·rw[e1,e2]
     exact⟨Y.a_NOTHING, .non, .ref Y.e_NOTHING,rfl,Y.t_NOTHING _,λ_ _=> .non,λ_ _=> .tup (Y.u_NOTHING _) rfl λi v d e1=>by cases e1⟩
    ·rw[e1] at wok⊢
     rw[e2]
     exact⟨t,x,y,rfl, .inl (.inl ht),λH' m=>zfE (wa.mono m) wok,λH' m=>zly (wa.mono m) wok⟩
   refine⟨_,rfl,p,_,dx,_,_,rfl,hp3,Y.k_House,Y.n_House_tellings,zlN,td,rfl, .inl ⟨_, .inl hk3⟩,_,rfl,_,DGet.k (k:=Sum.inr o) hk3,?_⟩
   rw[eA]
   generalize enr:zcN (zA t3 o)=nr at *
   refine⟨A3,_,rfl,hA,rfl,_,_,rfl,_,_,rfl,_,_,rfl,rfl,?_⟩
   refine⟨_,rfl,p,dx,_,rfl,hp3,rfl,_,rfl,p,dx,hd,td,ga,v,nm,o,n,b,g,hs,ps,lks,hds,rfl,hp3,hv3,T,hf,hnm,ohs,G.mono kt,ok,λqa H4 O4 s4=>?_⟩
   rw[ers] at O4
   obtain⟨x4,y4,hq4,wa4⟩:=O4
   refine⟨_,rfl,_,rfl,_,rfl,few rfl,λp5 hp5=>?_⟩
   have S5:=Same.new (o:= .tup [x3,y3]) hp5
   have s35:=s4.trans S5
   have e5:(upd H4 p5 (.tup [x3,y3])) p5=some (.tup [x3,y3]):=zb
   generalize (upd H4 p5 (HO.tup [x3,y3]))=H5 at *
   have hq5:=S5 _ _ hq4
   have wa5:=wa4.mono λc xs e=>S5 _ _ e
   have m35:∀c xs,H3 c=some (.tup xs)->H5 c=some (.tup xs):=λc xs e=>s35 _ _ e
   refine⟨_,_,zlH hq5 (zfE wa5 (offok o)) (zly wa5 (offok o)),zlH e5 (tx H5 m35) (ty H5 m35),zmw,_,rfl,?_⟩
   rw[zrk]
   by_cases eo:zdl rs b o=zag t3 o
   ·rw[Y0 eo]
    have et:zca rs b t3 o=t3:=by unfold zca;rw[R0 eo]
    have en:zfN rs b t3 o=[]:=by unfold zfN;rw[R0 eo]
    rw[et,en,List.append_nil]
    exact zbG rfl ⟨⟨_,_,_,_,_,rfl⟩,s35 _ _ ht3,⟨kvs,us,s35 _ _ hk3,tb3.mono m35,to3,s35 _ _ hf3,R3.mono m35⟩,k3.trans (Keep.of s35)⟩
   rw[E1 eo]
   have et:zca rs b t3 o=zc9 t3 o (zcN (zA t3 o)+1,zdl rs b o):=by unfold zca;rw[N0 eo]
   have en:zfN rs b t3 o=[(o,zcN (zA t3 o)+1,zdl rs b o)]:=by unfold zfN;rw[N0 eo]
   have tok:=zne (rs:=rs) (b:=b) to3 ohs (offok o)
   rw[et] at tok⊢
   rw[en]
   rw[enr] at tok⊢
   refine zbW rfl ⟨_,rfl,_,_,rfl,rfl,few rfl,λp6 hp6=>?_⟩
   have S6:=Same.new (o:= .tup [V.int (nr+1)]) hp6
   refine⟨_,rfl,zcQ (xs:=[V.int (nr+1)]) (ys:=[x4,y4]) zb (S6 _ _ hq5) (by decide:1+2<=1000) λp7 H7 hp7 s7=>?_⟩
   have hp7:H7 p7=some (.tup [V.int (nr+1),x4,y4]):=hp7
   have s57:=S6.trans s7
   have s37:=s35.trans s57
   have hpp7:=s37 _ _ hp3
   have hk7:=s37 _ _ hk3
   have hq7:=s57 _ _ hq5
   have hf7:=s37 _ _ hf3
   have ht7:=s37 _ _ ht3
   have wa7:=wa5.mono λc xs e=>s57 _ _ e
   have kl:=tb3.len
   have t3l:=to3.len
   refine⟨_,rfl,p,_,dx,_,_,rfl,hpp7,Y.k_House,Y.n_House_tellings,zlN,_,rfl,td,_,rfl, .inl ⟨kvs,Sum.inr o,hk7,rfl,zo (),rfl⟩,?_⟩
   have nq:∀{c xs},H7 c=some (.tup xs)->c≠td:=λ{c xs} e=>zy e hk7 (λz=>nomatch z)
   have m78:∀c xs,H7 c=some (.tup xs)->upd H7 td (.dK (zah kvs (Sum.inr o) (.ref p7))) c=some (.tup xs):=λc xs e=>by rw[zd (nq e)];exact e
   have k78:Keep td H7 (upd H7 td (.dK (zah kvs (Sum.inr o) (.ref p7)))):=Keep.upd _ _ _
   have hk8:upd H7 td (.dK (zah kvs (Sum.inr o) (.ref p7))) td=some (.dK (zah kvs (Sum.inr o) (.ref p7))):=zb
   generalize (upd H7 td (.dK (zah kvs (Sum.inr o) (.ref p7))))=H8 at *
   have hf8:=k78 _ _ nlt hf7
   have hpp8:=k78 _ _ npt hpp7
   have ht8:=k78 _ _ nltt ht7
   refine⟨_,rfl, .inl ⟨rfl,_,SqL.of hf8⟩,_,rfl,p,_,dx,_,_,rfl,hpp8,Y.k_House,Y.n_House_name,zcl,_,rfl,_,rfl,_,_,rfl,rfl,few rfl,λp9 hp9=>?_⟩
   have S9:=Same.new (o:= .tup [V.str nm,V.str o,V.int (nr+1)]) hp9
   refine⟨_,rfl,zcQ (xs:=[V.str nm,V.str o,V.int (nr+1)]) (ys:=[x4,y4]) zb (S9 _ _ (m78 _ _ hq7)) (by decide:3+2<=1000) λpA HA hpA sA=>?_⟩
   have hpA:HA pA=some (.tup [V.str nm,V.str o,V.int (nr+1),x4,y4]):=hpA
   have s8A:=S9.trans sA
   have m7A:∀c xs,H7 c=some (.tup xs)->HA c=some (.tup xs):=λc xs e=>s8A _ _ (m78 _ _ e)
   have m3A:∀c xs,H3 c=some (.tup xs)->HA c=some (.tup xs):=λc xs e=>m7A _ _ (s37 _ _ e)
   have hfA:=s8A _ _ hf8
   have ul:=R3.len
   refine⟨lf,us,_,rfl,rfl,hfA,zo (),⟨_,_,_,_,_,rfl⟩,?_,⟨zah kvs (Sum.inr o) (.ref p7),us ++ [.ref pA],?_,?_,tok,zb,?_⟩,?_⟩
   ·rw[zd nltf];exact s8A _ _ ht8
   ·rw[zd (Ne.symm nlt)];exact s8A _ _ hk8
   ·have mB:∀c xs,HA c=some (.tup xs)->upd HA lf (.lst (us ++ [.ref pA])) c=some (.tup xs):=λc xs e=>by rw[zd (zy e hfA (λz=>nomatch z))];exact e
    exact(tb3.mono λc xs e=>mB _ _ (m3A _ _ e)).put ⟨p7,x4,y4,rfl,mB _ _ (m7A _ _ hp7),wa7.mono λc xs e=>mB _ _ (m7A _ _ e)⟩
   ·have mB:∀c xs,HA c=some (.tup xs)->upd HA lf (.lst (us ++ [.ref pA])) c=some (.tup xs):=λc xs e=>by rw[zd (zy e hfA (λz=>nomatch z))];exact e
    exact(R3.mono λc xs e=>mB _ _ (m3A _ _ e)).append (.cons ⟨pA,x4,y4,rfl,mB _ _ hpA,wa7.mono λc xs e=>mB _ _ (m7A _ _ e)⟩ .nil)
   ·exact λc u nc e=>by rw[zd (zg e hlf)];exact s8A _ _ (k78 c u nc (s37 _ _ (k3 c u nc e)))
  ·rintro σ' H3 ⟨⟨o2,o3,o4,o5,o6,rfl⟩,ht3,⟨kvs,us,hk3,tb3,to3,hf3,R3⟩,k3⟩
   rw[D0,List.take_length] at tb3 to3 R3
   exact⟨_,rfl,q lf us kvs H3 hlf hf3 R3 hk3 tb3 to3 k3⟩
theorem zgD{ws ms:List Str}:∀{rs:List D},(∀r∈rs,zI r=true)->zH ws ms rs= .non\/∃i,zH ws ms rs= .int i
 |[],_=> .inr ⟨0,rfl⟩
 |r::rs,h=>by
  rw[zH]
  by_cases z:zeY ws ms none (zhi r)=true
  ·rw[R0 z]
   obtain⟨cs,x,rfl,_,_,hx⟩:=zhJ (h r K1)
   exact hx
  ·rw[N0 z]
   exact zgD λr hr=>h r (b0 _ hr)
theorem zlr(T:TownOk g hs ps lks hds)(h:x∈hs):∃(j:Nat) (rs:List D),hs[j]?=some x/\lks[j]?=some (.tup rs)/\zp hs lks x=rs/\∀r∈rs,zI r=true:=by
 obtain⟨j,rs,e1,e2,hh⟩:=zrL T h
 exact⟨j,rs,e1,e2,zfH T.hs_nd e1 e2,hh.2⟩
def hrR(x:Str)(r:Hr):Prop:=match r.2 with|none=>True|some (w,ms)=>(∃ws,w=x::ws)/\w.length<=10/\(∀y∈w,zj y=true)/\(∀y∈ms,zj y=true)/\ms.length<=40
theorem zk7{nm:Str}{r:Hr}{e:WM}(hn:zj nm=true)(hl:∀r∈rs,zI r=true)(h:hrR x r)(o:zdw nm rs (x,r)=some e):EOk nm rs e/\GoOk nm (some e):=by
 obtain⟨n,b⟩:=r
 cases b with
 |none=>cases o
 |some p=>
  obtain⟨w,ms⟩:=p
  have o:(if nm∈w\/zb2 (zH (nm::w) ms rs)=true then none else some (nm::w,ms))=some e:=o
  by_cases c:nm∈w\/zb2 (zH (nm::w) ms rs)=true
  ·rw[R0 c] at o;cases o
  ·rw[N0 c] at o
   cases o
   obtain⟨⟨ws,ew⟩,lw,nw,nms,lm⟩:=h
   have nw':∀y∈nm::w,zj y=true:=λy hy=>(X0.mp hy).elim (λz=>by rw[z];exact hn) (nw y)
   refine⟨⟨⟨w,rfl⟩,nw',nms,by show(nm::w).length<=80;rw[J1];lia,by show ms.length<=100;lia,?_⟩,⟨w,rfl,()⟩,nw',nms,lm⟩
   rcases zgD (ws:=nm::w) (ms:=ms) hl with z|⟨i,z⟩
   ·exact absurd (.inr (by rw[z];rfl)) c
   ·show zH (nm::w) ms rs= .int (wI rs (nm::w,ms))
    rw[z];unfold wI;simp only[z]
theorem zkl{nm:Str}{m:Tb}{p:Str×Hr}:zbU nm rs (m ++ [p])=zbU nm rs m ++(zdw nm rs p).toList:=by
 unfold zbU
 rw[List.filterMap_append]
 congr 1
theorem TbL.get{m:Tb}(h:TbL H kvs m):∀{i:Nat} {v:V},(kvs.map (·.2))[i]?=some v->∃p,m[i]?=some p/\TeO H v p.2:=by
 induction h with
 |nil=>intro i v e;cases e
 | @cons x v' r kvs m h t ih=>
   intro i v e
   cases i with
   |zero=>cases e;exact⟨_,rfl,h⟩
   |succ i=>exact ih e
theorem zpf{w:List Str}:(w.any λy=>decide (y=x))=decide (x∈w):=by
 rw[Bool.eq_iff_iff,C3,List.any_eq_true]
 exact⟨λ⟨y,hy,e⟩=>by rw[←S0 e];exact hy,λh=>⟨_,h,Y0 rfl⟩⟩
theorem PairO.mono{b:Addr}{e:WM}(h:PairO H b e)(m:∀c xs,H c=some (.tup xs)->H' c=some (.tup xs)):PairO H' b e:=let⟨pw,pm,h1,h2,h3⟩:=h;⟨pw,pm,m _ _ h1,m _ _ h2,m _ _ h3⟩
theorem Rep.monoT(h:Rep H v d)(m:∀c xs,H c=some (.tup xs)->H' c=some (.tup xs)):okD d=true->Rep H' v d:=by
 induction h with
 |non=>exact λ_=> .non
 |bl b=>exact λ_=> .bl b
 |int i=>exact λ_=> .int i
 |str x h=>exact λ_=> .str x h
 |tup h l b r ih=>
  intro o
  rw[okD] at o
  exact .tup (m _ _ h) l b λi v d e1 e2=>ih i v d e1 e2 (zk4 o d (D1 e2))
 |lst h=>intro o;cases o
 |dK h=>intro o;cases o
theorem zak(h:Rep H v (zaq g hs ps lks hds))(T:TownOk g hs ps lks hds)(m:∀c xs,H c=some (.tup xs)->H' c=some (.tup xs)):Rep H' v (zaq g hs ps lks hds):=Rep.monoT h m (zoB T (by have:=T.lp;lia)).1
noncomputable def zjE(C:Addr):Sp:=λvs H Q _=>∃(p dx hd td ga:Addr) (v:V) (nm:Str) (n:Int) (kh:List (Key×V)) (hm:Tb) (g:Str) (hs:List Str) (ps:List (Str×Str)) (lks hds:List D),vs=[.ref p]/\H p=some (.ins C dx (zcG v nm hd td ga n))/\H hd=some (.dK kh)/\TbL H kh hm/\TbOk hs hrR hm/\Rep H v (zaq g hs ps lks hds)/\TownOk g hs ps lks hds/\nm∈hs/\
 ∀(l:Addr) (us:List V) (H':Hp),H l=none->H' l=some (.lst us)->AtG PairO H' us (zbU nm (zp hs lks nm) hm)->Same H H'->Q (.ref l) H'
theorem zl3(Y:Ev K mg):FnOk P w K mg base CX0 6 Y.a_House_open_ways Y.d_House_open_ways zar (zjE Y.c_House):=by
 have G_worth:FnOk P w K mg base CX0 5 Y.a_worth Y.d_worth zeH ziq:=zjm Y
 refine Y.House_open_ways.fn.okQ zab (λvs H Q E h=>?_) `X3
 ·obtain ⟨p,dx,hd,td,ga,v,nm,n,kh,hm,g,hs,ps,lks,hds,rfl,_⟩:=h;rfl
 ·obtain ⟨p,dx,hd,td,ga,v,nm,n,kh,hm,g,hs,ps,lks,hds,rfl,hp,hhd,tb,tok,hv,T,hnm,q⟩:=h
  have T10:=T.ten
  have hml:=tok.len
  obtain⟨j,rs,hj,hlj,er,hlk⟩:=zlr T hnm
  rw[er] at q
  have hnn:=T.names nm hnm
  refine⟨_,(zf (zu 1 zab.nd (zcj zc))
   (zf (zci PassesOwn.never rfl (zrN (zJ (qv 0))) (zc4 3 rfl (zr (zn 2 zab.nd) (zr (zn 3 zab.nd) (zr (zn 4 zab.nd) zay)))) (zf (zap (t_w (zqr (zL zkr (qv 3) zc6) (zlb (zL zeS (zJ (qv 0)) (qv 3))))) (zi zoK) zX)
   (zi (zap (zL zqd (zk G_worth `U3 Y.worth.mg Y.worth.kp Y.worth.b .nil zm (za (zJ (qv 0)) (za (zB zfG (zG (za (zJ (qv 0)) zc)) (qv 3)) (za (qv 4) zc)))) zc6) (zi (zaK (zg4 F.plainAttrs_list F.slot_list_append F.type_list_append zba (qv 1) (za (zG (za (zB zfG (zG (za (zJ (qv 0)) zc)) (qv 3)) (za (qv 4) zc))) zc)))) zX))))
   (zi (zt (zkE (qv 1)))))),?_⟩
  refine⟨few rfl,λlf hlf=>?_⟩
  have S1:=Same.new (o:= .lst ([]:List V)) hlf
  have nlh:lf≠hd:=Ne.symm (zg hhd hlf)
  have nph:p≠hd:=zy hp hhd (λz=>nomatch z)
  refine⟨_,rfl,p,_,dx,_,_,rfl,S1 _ _ hp,Y.k_House,Y.n_House_hearings,zir,hd,kh,rfl,S1 _ _ hhd,λob nd=>?_⟩
  refine zaZ zs3 (λi σ' H'=>(∃o2 o3 o4,σ'=[some (.ref p),some (.ref lf),o2,o3,o4])/\H' hd=some (.frz ob (.dK kh))/\(∃us,H' lf=some (.lst us)/\AtG PairO H' us (zbU nm rs (hm.take i)))/\(∀c o,c≠hd->H c=some o->H' c=some o)) ?_ ?_ ?_ ?_
  ·refine ⟨⟨_,_,_,rfl⟩,zb,⟨[],?_,rfl,λi v p e=>by cases e⟩,λc o n e=>?_⟩
   ·rw[zd nlh];exact zb
   ·rw[zd n];exact S1 _ _ e
  ·exact λi σ' H' z=>z.2.1
  ·rintro i y σ' H3 hi hy ⟨⟨o2,o3,o4,rfl⟩,hz3,⟨us,hf3,R3⟩,k3⟩
   obtain⟨pr,ep,t,x,yy,rfl,ht,wa⟩:=tb.get hy
   have hpr:=D1 ep
   have hok:=(tok.mem pr hpr).2
   have tk:hm.take (i+1)=hm.take i ++ [pr]:=by rw[List.take_add_one,ep];rfl
   have lo:(zbU nm rs (hm.take i)).length<=10:=V1 (List.length_filterMap_le _ _) (by rw[J2];lia)
   rw[tk,zkl]
   have kt:∀c xs,H c=some (.tup xs)->H3 c=some (.tup xs):=λc xs e=>k3 _ _ (zy e hhd (λz=>nomatch z)) e
   have hp3:=k3 _ _ nph hp
   have wa3:=wa.mono kt
   have ht3:=kt _ _ ht
   have ul:=R3.1
   generalize zbU nm rs (hm.take i)=es at *
   obtain⟨px,nr,b⟩:=pr
   refine⟨t,_,rfl, .inl (.inl ht3),rfl,_,_,rfl,_,_,rfl,_,_,rfl,rfl,?_⟩
   match b,wa3,hok with
   |none,⟨ex,e,ey,h2⟩,_=>
    subst ex ey
    refine⟨_,rfl,rfl,_,rfl,zbW rfl (zbW rfl ⟨⟨_,_,_,rfl⟩,hz3,⟨us,hf3,?_⟩,k3⟩)⟩
    show AtG PairO H3 us (es ++ [])
    rw[List.append_nil];exact R3
   |some (w,ms),⟨pw,pm,ex,ey,h2,h3⟩,hok=>
    subst ex ey
    obtain⟨⟨ws,ew⟩,lw,nw,nms,lm⟩:=id hok
    refine⟨_,rfl,rfl,_,rfl,zbG rfl ?_⟩
    refine⟨_,rfl,p,_,dx,_,_,rfl,hp3,Y.k_House,Y.n_House_name,zcl,_,rfl,pw,_,rfl, .inr (.inl (.inl h2)),rfl,ze0,_,rfl,?_⟩
    rw[zik,zpf]
    have oe:zdw nm rs (px,nr,some (w,ms))=if nm∈w\/zb2 (zH (nm::w) ms rs)=true then none else some (nm::w,ms):=rfl
    by_cases c:nm∈w
    ·rw[Y0 c]
     refine zbW rfl ⟨⟨_,_,_,rfl⟩,hz3,⟨us,hf3,?_⟩,k3⟩
     rw[oe,R0 (.inl c)]
     show AtG PairO H3 us (es ++ [])
     rw[List.append_nil];exact R3
    rw[E1 c]
    refine zbG rfl ?_
    refine⟨_,rfl,p,_,dx,_,_,rfl,hp3,Y.k_House,Y.n_House_place,zcF,_,rfl,p,_,dx,_,_,rfl,hp3,Y.k_House,Y.n_House_name,zcl,few rfl,λb1 hb1=>?_⟩
    have B1:=Same.new (o:= .tup [V.str nm]) hb1
    refine⟨_,rfl,zcQ (xs:=[V.str nm]) (ys:=w.map V.str) zb (B1 _ _ h2) (by rw[D0];show 1+_<=_;lia) λb2 H4 hb2 s4=>?_⟩
    have hb2:H4 b2=some (.tup ((nm::w).map V.str)):=hb2
    have s34:=B1.trans s4
    have nw':∀y∈nm::w,zj y=true:=λy hy=>(X0.mp hy).elim (λz=>by rw[z];exact hnn) (nw y)
    have hv4:Rep H4 v (zaq g hs ps lks hds):=(zak hv T kt).same s34
    refine⟨_,rfl,v,b2,pm,nm,w,ms,g,hs,ps,lks,hds,j,rs,rfl,hv4,T,hj,hlj,hb2,s34 _ _ h3,nw',nms,(),(),λu H5 ru s5=>⟨rfl,_,rfl,?_⟩⟩
    rw[zpM ru]
    have s35:=s34.trans s5
    cases eb:zb2 (zH (nm::w) ms rs)with
    |true=>
     refine zbG rfl ⟨⟨_,_,_,rfl⟩,s35 _ _ hz3,⟨us,s35 _ _ hf3,?_⟩,λc o n e=>s35 _ _ (k3 c o n e)⟩
     rw[oe,R0 (.inr eb)]
     show AtG PairO H5 us (es ++ [])
     rw[List.append_nil];exact AtG.mono R3 λc e h=>PairO.mono h λc xs e=>s35 _ _ e
    |false=>
     have hp5:=s35 _ _ hp3
     have hf5:=s35 _ _ hf3
     refine zbW rfl ⟨_,rfl, .inl ⟨rfl,_,SqL.of hf5⟩,_,rfl,p,_,dx,_,_,rfl,hp5,Y.k_House,Y.n_House_name,zcl,few rfl,λb6 hb6=>?_⟩
     have B6:=Same.new (o:= .tup [V.str nm]) hb6
     refine⟨_,rfl,zcQ (xs:=[V.str nm]) (ys:=w.map V.str) zb (B6 _ _ (s35 _ _ h2)) (by rw[D0];show 1+_<=_;lia) λb7 H7 hb7 s7=>?_⟩
     have hb7:H7 b7=some (.tup ((nm::w).map V.str)):=hb7
     refine⟨_,rfl,few rfl,λb8 hb8=>?_⟩
     have B8:=Same.new (o:= .tup [V.ref b7,V.ref pm]) hb8
     have s38:=((s35.trans B6).trans s7).trans B8
     have e8:(upd H7 b8 (.tup [V.ref b7,V.ref pm])) b8=some (.tup [V.ref b7,V.ref pm]):=zb
     have hb78:=B8 _ _ hb7
     generalize (upd H7 b8 (HO.tup [V.ref b7,V.ref pm]))=H8 at *
     have hf8:=s38 _ _ hf3
     have up:∀c xs,H8 c=some (.tup xs)->upd H8 lf (.lst (us ++ [.ref b8])) c=some (.tup xs):=λc xs e=>by rw[zd (zy e hf8 (λz=>nomatch z))];exact e
     refine⟨lf,us,_,rfl,rfl,hf8,zo (),⟨_,_,_,rfl⟩,?_,⟨us ++ [.ref b8],zb,?_⟩,λc o n e=>?_⟩
     ·rw[zd (Ne.symm nlh)];exact s38 _ _ hz3
     ·rw[oe,N0 (λz=>z.elim c (λz=>by rw[eb] at z;cases z))]
      exact AtG.snoc (AtG.mono R3 λc e h=>PairO.mono h λc xs e=>up _ _ (s38 _ _ e)) ⟨b7,pm,up _ _ e8,up _ _ hb78,up _ _ (s38 _ _ h3)⟩
     ·rw[zd (zg e hlf)];exact s38 _ _ (k3 c o n e)
  ·rintro σ' H3 ⟨⟨o2,o3,o4,rfl⟩,hz3,⟨us,hf3,R3⟩,k3⟩
   rw[D0,tb.len,List.take_length] at R3
   refine⟨_,rfl,hd,ob, .dK kh,hz3,(λo' u' z=>by have z:H hd=some (.frz o' u'):=z;rw[hhd] at z;cases z),?_⟩
   have up:∀c xs,H3 c=some (.tup xs)->upd H3 hd (.dK kh) c=some (.tup xs):=λc xs e=>by rw[zd (zy e hz3 (λz=>nomatch z))];exact e
   refine q lf us _ hlf (by rw[zd nlh];exact hf3) (AtG.mono R3 λc e h=>PairO.mono h up) λc o e=>?_
   by_cases z:c=hd
   ·rw[z,zb];rw[z,hhd] at e;exact e
   ·rw[zd z];exact k3 c o z e
structure HsAt(C:Addr)(hs:List Str)(H:Hp)(p dx hd td ga:Addr)(v:V)(nm:Str)(n:Int)(b:Option WM)(kh:List (Key×V))(hm:Tb)(kt:List (Key×V))(tm:Tb):Prop where
 hp:H p=some (.ins C dx (zcG v nm hd td ga n))
 hh:H hd=some (.dK kh)
 th:TbL H kh hm
 oh:TbOk hs hrR hm
 ht:H td=some (.dK kt)
 tt:TbL H kt tm
 ot:TbOk hs wmR tm
 gr:GoR H ga b
 go:GoOk nm b
 ne:hd≠td
structure HInv(g nm:Str)(lrs hrs:List D)(os:List Str)(b:Option WM)(hm tm:Tb)(L:List Lt):Prop where
 goal:nm=g->b=some ([nm],[])
 best:nm≠g->zgK lrs (zbU nm lrs hm) b
 told:∀o∈os,zag tm o=zdl hrs b o
 last:∀y,zeM L y=zag tm y
noncomputable def zhb(C:Addr):Sp:=λvs H Q _=>∃(p dx hd td ga:Addr) (v:V) (nm:Str) (n:Int) (g:Str) (hs:List Str) (ps:List (Str×Str)) (lks hds:List D),vs=[.ref p]/\HsAt C hs H p dx hd td ga v nm n none [] [] [] []/\Rep H v (zaq g hs ps lks hds)/\TownOk g hs ps lks hds/\(∀d∈hds,∃ds,d= .tup ds/\ds.length<=12)/\nm∈hs/\
 ∀(l ga':Addr) (us:List V) (n':Int) (b:Option WM) (kt:List (Key×V)) (tm:Tb) (L:List Lt) (H':Hp),H l=none->H' l=some (.lst us)->LtsO H' nm us L->HsAt C hs H' p dx hd td ga' v nm n' b [] [] kt tm->HInv g nm (zp hs lks nm) (zp hs hds nm) (due hs ps nm) b [] tm L->(∀c o,c≠p->c≠hd->c≠td->H c=some o->H' c=some o)->L.length<=10->L=za2 (zp hs hds nm) b [] (due hs ps nm)->tm=zbm (zp hs hds nm) b [] (due hs ps nm)->Q (.ref l) H'
theorem zhz(h:Rep H v (zaq g hs ps lks hds)):∃pt us,v= .ref pt/\H pt=some (.tup us)/\us[0]?=some (.str g):=by
 obtain⟨pt,us,rfl,hp,rr,_⟩:=h.ofT
 have h0:0<us.length:=by rw[rr.1];exact Nat.zero_lt_succ _
 have:=rr.2 0 us[0] (.str g) (F0 h0) rfl
 refine⟨pt,us,rfl,hp,?_⟩
 rw[F0 h0]
 cases hh:us[0] with
 |str y=>rw[hh] at this;cases this;rfl
 |_=>rw[hh] at this;cases this
theorem zk1(Y:Ev K mg):FnOk P w K mg base CX0 8 Y.a_House_begin Y.d_House_begin zbh (zhb Y.c_House):=by
 have G_House_letters:FnOk P w K mg base CX0 7 Y.a_House_letters Y.d_House_letters zam (zfV Y.c_House):=zhe Y
 have G_House_go_by:FnOk P w K mg base CX0 1 Y.a_House_go_by Y.d_House_go_by zaB (zgb Y.c_House):=zhc Y
 refine Y.House_begin.fn.okQ zgX (λvs H Q E h=>?_) `X3
 ·obtain ⟨p,dx,hd,td,ga,v,nm,n,g,hs,ps,lks,hds,rfl,_⟩:=h;rfl
 ·obtain ⟨p,dx,hd,td,ga,v,nm,n,g,hs,ps,lks,hds,rfl,A0,hv,T,hf,hnm,q⟩:=h
  obtain⟨pt,us,rfl,hpt,h0⟩:=zhz hv
  have hp:=A0.hp
  have npt:p≠td:=zy hp A0.ht (λz=>nomatch z)
  have nph:p≠hd:=zy hp A0.hh (λz=>nomatch z)
  refine⟨_,(zgm (zap (zL zau (zJ (qv 0)) (zaa zY (zJ (qv 0)) zh)) (zi (zaK (zb4 (qv 0) Y.k_House Y.House_go_by.m G_House_go_by `U3 Y.House_go_by.b .nil zm (za (zG (za (zG (za (zJ (qv 0)) zc)) (za (zG zc) zc))) zc)))) zX)
   (zi (zt (zaC (qv 0) Y.k_House Y.House_letters.m G_House_letters `U3 Y.House_letters.b .nil zm)))),?_⟩
  refine⟨λσ' H'=>σ'=[some (.ref p)]/\∃ga' n' b,H' p=some (.ins Y.c_House dx (zcG (.ref pt) nm hd td ga' n'))/\GoR H' ga' b/\GoOk nm b/\(nm=g->b=some ([nm],[]))/\(nm≠g->b=none)/\Keep p H H',?_,?_⟩
  ·refine ⟨_,rfl,p,_,dx,_,_,rfl,hp,Y.k_House,Y.n_House_name,zcl,_,rfl,p,_,dx,_,_,rfl,hp,Y.k_House,Y.n_House_place,zcF,pt,us,0,_,rfl,rfl, .inl (.inl hpt),zT (j:=0) h0,rfl,_,rfl,?_⟩
   rw[show decide (V.str nm=V.str g)=decide (nm=g)from decide_eq_decide.mpr ⟨λz=>by injection z,λz=>by rw[z]⟩]
   by_cases e:nm=g
   ·rw[Y0 e]
    refine zbW rfl ⟨_,rfl,p,dx,_,rfl,hp,rfl,_,rfl,p,_,dx,_,_,rfl,hp,Y.k_House,Y.n_House_name,zcl,few rfl,λwt hwt=>⟨few rfl,λmt hmt=>⟨few rfl,λg' hg'=>?_⟩⟩⟩
    have S1:=Same.new (o:= .tup [V.str nm]) hwt
    have S2:=Same.new (o:= .tup ([]:List V)) hmt
    have S3:=Same.new (o:= .tup [V.ref wt,V.ref mt]) hg'
    have s13:=S1.trans (S2.trans S3)
    have hp3:=s13 _ _ hp
    have e1:=S3 _ _ (S2 _ _ (zb (H:=H) (a:=wt) (o:= .tup [V.str nm])))
    have e2:=S3 _ _ (zb (H:=upd H wt (.tup [V.str nm])) (a:=mt) (o:= .tup ([]:List V)))
    have gok:GoOk nm (some ([nm],[])):=⟨⟨[],rfl,W1 _⟩,λy hy=>by rw[C2.mp hy];exact T.names nm hnm,(λ_ z=>nomatch z),W1 _⟩
    have G3:GoR (upd (upd (upd H wt (.tup [V.str nm])) mt (.tup ([]:List V))) g' (.tup [V.ref wt,V.ref mt])) g' (some ([nm],[])):=⟨_,_,zb,wt,mt,rfl,rfl,e1,e2⟩
    refine⟨p,dx,hd,td,ga,g', .ref pt,nm,n,none,some ([nm],[]),rfl,hp3,A0.gr.mono λc xs e=>s13 _ _ e,G3,trivial,gok.wm,λn'=>⟨rfl,g',n',_,zb,G3.mono λc xs e=>?_,gok,λ_=>rfl,λz=>absurd e z,(Keep.of s13).trans (Keep.upd _ _ _)⟩⟩
    rw[zd (zy e hp3 (λz=>nomatch z))];exact e
   ·rw[E1 e]
    exact zbG rfl ⟨rfl,ga,n,none,hp,A0.gr,trivial,λz=>absurd z e,λ_=>rfl,Keep.refl _ _⟩
  ·rintro σ' H1 ⟨rfl,ga',n',b,hp1,G1,gok,eg,eg',k1⟩
   have htd1:=k1 _ _ (Ne.symm npt) A0.ht
   have m1:∀c xs,H c=some (.tup xs)->H1 c=some (.tup xs):=λc xs e=>k1 _ _ (zy e hp (λz=>nomatch z)) e
   have hv1:=zak hv T m1
   refine⟨_,rfl,p,dx,_,rfl,hp1,rfl,p,dx,hd,td,ga', .ref pt,nm,n',b,[],[],g,hs,ps,lks,hds,rfl,hp1,htd1, .nil, .nil,hv1,T,hf,hnm,G1,gok,λl us2 kt H2 hl hl2 R2 htd2 tb2 tok2 k2=>?_⟩
   have hl0:H l=none:=by
    cases z:H l with
    |none=>rfl
    |some u=>
     by_cases y:l=p
     ·rw[y,hp1] at hl;cases hl
     ·rw[k1 l u y z] at hl;cases hl
   have dl:∀{hr:List D} {b:Option WM} {tm:Tb},(za2 hr b tm (due hs ps nm)).length<=10:=λ{hr b tm}=>V1 zdc (V1 (List.length_filter_le _ _) T.ten)
   have m2:∀c xs,H1 c=some (.tup xs)->H2 c=some (.tup xs):=λc xs e=>k2 _ _ (zy e htd1 (λz=>nomatch z)) e
   refine q l ga' us2 n' b kt _ _ H2 hl0 hl2 R2 ⟨k2 _ _ npt hp1,k2 _ _ A0.ne (k1 _ _ (Ne.symm nph) A0.hh), .nil, .nil,htd2,tb2,tok2,G1.mono m2,gok,A0.ne⟩ ⟨eg,λz=>?_,λo ho=>by rw[zd6,R0 ho],?_⟩ (λc o n1 n2 n3 e=>k2 c o n3 (k1 c o n1 e)) dl rfl rfl
   ·rw[eg' z];rfl
   ·exact zeV (T:=[]) λy=>rfl
theorem zhu{nm:Str}{p:Str×Hr}{e:WM}(h:hrR p.1 p.2)(o:zdw nm rs p=some e):∃ws,e.1=nm::p.1::ws:=by
 obtain⟨x,n,b⟩:=p
 cases b with
 |none=>cases o
 |some q=>
  obtain⟨w,ms⟩:=q
  have o:(if nm∈w\/zb2 (zH (nm::w) ms rs)=true then none else some (nm::w,ms))=some e:=o
  by_cases c:nm∈w\/zb2 (zH (nm::w) ms rs)=true
  ·rw[R0 c] at o;cases o
  ·rw[N0 c] at o
   cases o
   obtain⟨⟨ws,ew⟩,_⟩:=h
   exact⟨ws,by show nm::w=_;rw[ew]⟩
theorem zjH{nm:Str}{rs:List D}:∀{m:Tb},(m.map (·.1)).Nodup->(∀p∈m,hrR p.1 p.2)->((zbU nm rs m).map (·.1)).Nodup
 |[],_,_=>List.nodup_nil
 |p::m,nd,h=>by
  rw[Z1,U2] at nd
  have ih:=zjH (nm:=nm) (rs:=rs) (m:=m) nd.2 λp hp=>h p (b0 _ hp)
  show((List.filterMap (zdw nm rs) (p::m)).map (·.1)).Nodup
  cases e:zdw nm rs p with
  |none=>rw[List.filterMap_cons_none e];exact ih
  |some w=>
   rw[List.filterMap_cons_some e,Z1,U2]
   refine⟨λz=>?_,ih⟩
   obtain⟨w',hw',ew⟩:=y1.mp z
   obtain⟨p',hp',e'⟩:=List.mem_filterMap.mp hw'
   obtain⟨ws,h1⟩:=zhu (h p K1) e
   obtain⟨ws',h2⟩:=zhu (h p' (b0 _ hp')) e'
   rw[h1,h2] at ew
   injection ew with _ ew
   injection ew with ew _
   exact nd.1 (by rw[←ew];exact y1.mpr ⟨p',hp',rfl⟩)
noncomputable def zf2(C:Addr):Sp:=λvs H Q _=>∃(p dx hd td ga:Addr) (v:V) (nm:Str) (n:Int) (b:Option WM) (kh kt:List (Key×V)) (hm tm:Tb) (L0:List Lt) (g:Str) (hs:List Str) (ps:List (Str×Str)) (lks hds:List D),vs=[.ref p]/\HsAt C hs H p dx hd td ga v nm n b kh hm kt tm/\(nm=g->b=some ([nm],[]))/\(∀y,zeM L0 y=zag tm y)/\Rep H v (zaq g hs ps lks hds)/\TownOk g hs ps lks hds/\(∀d∈hds,∃ds,d= .tup ds/\ds.length<=12)/\nm∈hs/\
 ∀(l ga':Addr) (us:List V) (n':Int) (b':Option WM) (kt':List (Key×V)) (tm':Tb) (L:List Lt) (H':Hp),H l=none->H' l=some (.lst us)->LtsO H' nm us L->HsAt C hs H' p dx hd td ga' v nm n' b' kh hm kt' tm'->HInv g nm (zp hs lks nm) (zp hs hds nm) (due hs ps nm) b' hm tm' (L0 ++L)->(∀c o,c≠p->c≠td->H c=some o->H' c=some o)->L.length<=10->L=za2 (zp hs hds nm) b' tm (due hs ps nm)->tm'=zbm (zp hs hds nm) b' tm (due hs ps nm)->Q (.ref l) H'
theorem zjh(Y:Ev K mg):FnOk P w K mg base CX0 8 Y.a_House_choose Y.d_House_choose zaL (zf2 Y.c_House):=by
 have G_House_letters:FnOk P w K mg base CX0 7 Y.a_House_letters Y.d_House_letters zam (zfV Y.c_House):=zhe Y
 have G_House_go_by:FnOk P w K mg base CX0 1 Y.a_House_go_by Y.d_House_go_by zaB (zgb Y.c_House):=zhc Y
 have G_House_open_ways:FnOk P w K mg base CX0 6 Y.a_House_open_ways Y.d_House_open_ways zar (zjE Y.c_House):=zl3 Y
 have G_most_liked:FnOk P w K mg base CX0 7 Y.a_most_liked Y.d_most_liked zbO zsB:=zg2 Y
 refine Y.House_choose.fn.okQ zga (λvs H Q E h=>?_) `X3
 ·obtain ⟨p,dx,hd,td,ga,v,nm,n,b,kh,kt,hm,tm,L0,g,hs,ps,lks,hds,rfl,_⟩:=h;rfl
 ·obtain ⟨p,dx,hd,td,ga,v,nm,n,b,kh,kt,hm,tm,L0,g,hs,ps,lks,hds,rfl,A0,eg,lst,hv,T,hf,hnm,q⟩:=h
  obtain⟨pt,us,rfl,hpt,h0⟩:=zhz hv
  have hp:=A0.hp
  have npt:p≠td:=zy hp A0.ht (λz=>nomatch z)
  have nph:p≠hd:=zy hp A0.hh (λz=>nomatch z)
  obtain⟨j,rs,hj,hlj,er,hlk⟩:=zlr T hnm
  have hml:=A0.oh.len
  have T10:=T.ten
  rw[er] at q
  refine⟨_,(zgm (zap (zL zny (zJ (qv 0)) (zaa zY (zJ (qv 0)) zh)) (zi (zaK (zb4 (qv 0) Y.k_House Y.House_go_by.m G_House_go_by `U3 Y.House_go_by.b .nil zm (za (zk G_most_liked `U3 Y.most_liked.mg Y.most_liked.kp Y.most_liked.b .nil zm (za (zJ (qv 0)) (za (zaC (qv 0) Y.k_House Y.House_open_ways.m G_House_open_ways `U3 Y.House_open_ways.b .nil zm) zc))) zc)))) zX)
   (zi (zt (zaC (qv 0) Y.k_House Y.House_letters.m G_House_letters `U3 Y.House_letters.b .nil zm)))),?_⟩
  refine⟨λσ' H'=>σ'=[some (.ref p)]/\∃ga' n' b',H' p=some (.ins Y.c_House dx (zcG (.ref pt) nm hd td ga' n'))/\GoR H' ga' b'/\GoOk nm b'/\(nm=g->b'=some ([nm],[]))/\(nm≠g->zgK rs (zbU nm rs hm) b')/\Keep p H H',?_,?_⟩
  ·refine ⟨_,rfl,p,_,dx,_,_,rfl,hp,Y.k_House,Y.n_House_name,zcl,_,rfl,p,_,dx,_,_,rfl,hp,Y.k_House,Y.n_House_place,zcF,pt,us,0,_,rfl,rfl, .inl (.inl hpt),zT (j:=0) h0,rfl,_,rfl,?_⟩
   rw[show decide (V.str nm=V.str g)=decide (nm=g)from decide_eq_decide.mpr ⟨λz=>by injection z,λz=>by rw[z]⟩]
   by_cases e:nm=g
   ·rw[Y0 e]
    exact zbG rfl ⟨rfl,ga,n,b,hp,A0.gr,A0.go,eg,λz=>absurd e z,Keep.refl _ _⟩
   ·rw[E1 e]
    have uq:=zjH (nm:=nm) (rs:=rs) A0.oh.nd λp hp=>(A0.oh.mem p hp).2
    refine zbW rfl ⟨_,rfl,p,dx,_,rfl,hp,rfl,_,rfl,p,_,dx,_,_,rfl,hp,Y.k_House,Y.n_House_place,zcF,_,rfl,p,dx,_,rfl,hp,rfl,p,dx,hd,td,ga, .ref pt,nm,n,kh,hm,g,hs,ps,lks,hds,rfl,hp,A0.hh,A0.th,A0.oh,hv,T,hnm,λl us' H1 hl hl1 R1 s1=>?_⟩
    rw[er] at R1
    refine⟨.ref pt,l,us',zbU nm rs hm,nm,g,hs,ps,lks,hds,j,rs,rfl,hv.same s1,T,hj,hlj,hl1,R1,?_,uq,λe he=>?_,λg' b' H2 be G2 s2=>?_⟩
    ·exact Nat.lt_of_le_of_lt (List.length_filterMap_le _ _) ()
    ·obtain ⟨x,r,lk,o⟩:=(zhd A0.oh.nd).mp he
     exact(zk7 (T.names nm hnm) hlk (A0.oh.look lk) o).1
    have s12:=s1.trans s2
    have gok:GoOk nm b':=by
     cases b' with
     |none=>exact trivial
     |some e=>
      obtain⟨x,r,lk,o⟩:=(zhd A0.oh.nd).mp be.1
      exact(zk7 (T.names nm hnm) hlk (A0.oh.look lk) o).2
    have hp2:=s12 _ _ hp
    refine⟨p,dx,hd,td,ga,g', .ref pt,nm,n,b,b',rfl,hp2,A0.gr.mono λc xs e=>s12 _ _ e,G2,A0.go.wm,gok.wm,λn'=>⟨rfl,g',n',b',zb,G2.mono λc xs e=>?_,gok,λz=>absurd z e,λ_=>be,(Keep.of s12).trans (Keep.upd _ _ _)⟩⟩
    rw[zd (zy e hp2 (λz=>nomatch z))];exact e
  ·rintro σ' H1 ⟨rfl,ga',n',b',hp1,G1,gok,eg,be,k1⟩
   have htd1:=k1 _ _ (Ne.symm npt) A0.ht
   have m1:∀c xs,H c=some (.tup xs)->H1 c=some (.tup xs):=λc xs e=>k1 _ _ (zy e hp (λz=>nomatch z)) e
   have hv1:=zak hv T m1
   refine⟨_,rfl,p,dx,_,rfl,hp1,rfl,p,dx,hd,td,ga', .ref pt,nm,n',b',kt,tm,g,hs,ps,lks,hds,rfl,hp1,htd1,A0.tt.mono m1,A0.ot,hv1,T,hf,hnm,G1,gok,λl us2 kt2 H2 hl hl2 R2 htd2 tb2 tok2 k2=>?_⟩
   have hl0:H l=none:=by
    cases z:H l with
    |none=>rfl
    |some u=>
     by_cases y:l=p
     ·rw[y,hp1] at hl;cases hl
     ·rw[k1 l u y z] at hl;cases hl
   have dl:∀{hr:List D} {b:Option WM} {tm:Tb},(za2 hr b tm (due hs ps nm)).length<=10:=λ{hr b tm}=>V1 zdc (V1 (List.length_filter_le _ _) T.ten)
   have m2:∀c xs,H1 c=some (.tup xs)->H2 c=some (.tup xs):=λc xs e=>k2 _ _ (zy e htd1 (λz=>nomatch z)) e
   have m12:∀c xs,H c=some (.tup xs)->H2 c=some (.tup xs):=λc xs e=>m2 _ _ (m1 _ _ e)
   exact q l ga' us2 n' b' kt2 _ _ H2 hl0 hl2 R2 ⟨k2 _ _ npt hp1,k2 _ _ A0.ne (k1 _ _ (Ne.symm nph) A0.hh),A0.th.mono m12,A0.oh,htd2,tb2,tok2,G1.mono m2,gok,A0.ne⟩ ⟨eg,be,λo ho=>by rw[zd6,R0 ho],zeV lst⟩ (λc o n1 n3 e=>k2 c o n3 (k1 c o n1 e)) dl rfl rfl
noncomputable def ziV(C:Addr):Sp:=λvs H Q _=>∃(p dx hd td ga:Addr) (v lv:V) (nm one:Str) (r:Hr) (n:Int) (b:Option WM) (kh kt:List (Key×V)) (hm tm:Tb) (L0:List Lt) (g:Str) (hs:List Str) (ps:List (Str×Str)) (lks hds:List D),vs=[.ref p,lv]/\LtO H lv one nm r/\one∈hs/\hrR one r/\HsAt C hs H p dx hd td ga v nm n b kh hm kt tm/\HInv g nm (zp hs lks nm) (zp hs hds nm) (due hs ps nm) b hm tm L0/\Rep H v (zaq g hs ps lks hds)/\TownOk g hs ps lks hds/\(∀d∈hds,∃ds,d= .tup ds/\ds.length<=12)/\nm∈hs/\
 ∀(l ga':Addr) (us:List V) (n':Int) (b':Option WM) (kh' kt':List (Key×V)) (tm':Tb) (L:List Lt) (H':Hp),H l=none->H' l=some (.lst us)->LtsO H' nm us L->HsAt C hs H' p dx hd td ga' v nm n' b' kh' (zdU hm (one,r)) kt' tm'->HInv g nm (zp hs lks nm) (zp hs hds nm) (due hs ps nm) b' (zdU hm (one,r)) tm' (L0 ++L)->(∀c o,c≠p->c≠hd->c≠td->H c=some o->H' c=some o)->L.length<=10->((r.1<=zcN (zA hm one)/\L=[]/\tm'=tm/\b'=b)\/(¬r.1<=zcN (zA hm one)/\L=za2 (zp hs hds nm) b' tm (due hs ps nm)/\tm'=zbm (zp hs hds nm) b' tm (due hs ps nm)))->Q (.ref l) H'
theorem zmh(Y:Ev K mg):FnOk P w K mg base CX0 9 Y.a_House_hear Y.d_House_hear zbK (ziV Y.c_House):=by
 have G_House_heard:FnOk P w K mg base CX0 1 Y.a_House_heard Y.d_House_heard zaz (ze9 Y.c_House Y.a_NOTHING):=zfQ Y
 have G_House_choose:FnOk P w K mg base CX0 8 Y.a_House_choose Y.d_House_choose zaL (zf2 Y.c_House):=zjh Y
 refine Y.House_hear.fn.okQ zaw (λvs H Q E h=>?_) `X3
 ·obtain ⟨p,dx,hd,td,ga,v,lv,nm,one,r,n,b,kh,kt,hm,tm,L0,g,hs,ps,lks,hds,rfl,_⟩:=h;rfl
 ·obtain ⟨p,dx,hd,td,ga,v,lv,nm,one,r,n,b,kh,kt,hm,tm,L0,g,hs,ps,lks,hds,rfl,⟨t,x,y,rfl,ht,wa⟩,hone,hrr,A0,I0,hv,T,hf,hnm,q⟩:=h
  have hp:=A0.hp
  have npt:p≠td:=zy hp A0.ht (λz=>nomatch z)
  have nph:p≠hd:=zy hp A0.hh (λz=>nomatch z)
  have hml:=A0.oh.len
  have kl:=A0.th.len
  have T10:=T.ten
  refine⟨_,(zf (zcD (qv 1) (zc4 5 rfl (zr (zn 2 zaw.nd) (zr (zn 3 zaw.nd) (zr (zn 4 zaw.nd) (zr (zn 5 zaw.nd) (zr (zn 6 zaw.nd) zay)))))))
   (zf (zap (zL zhh (qv 4) (zaa zY (zb4 (qv 0) Y.k_House Y.House_heard.m G_House_heard `U3 Y.House_heard.b .nil zm (za (qv 2) zc)) zh)) (zi (zt (zcj zc))) zX)
   (zf (zim (hu1 hr) (zJ (qv 0)) (qv 2) (zG (za (qv 4) (za (qv 5) (za (qv 6) zc)))))
   (zi (zt (zaC (qv 0) Y.k_House Y.House_choose.m G_House_choose `U3 Y.House_choose.b .nil zm)))))),?_⟩
  refine⟨_,rfl,t,_,rfl, .inl (.inl ht),rfl,_,_,rfl,_,_,rfl,_,_,rfl,_,_,rfl,_,_,rfl,rfl,?_⟩
  refine⟨_,rfl,_,rfl,p,dx,_,rfl,hp,rfl,_,rfl,p,dx,hd,td,ga,v,nm,one,n,kh,rfl,hp,A0.hh,?_⟩
  obtain⟨A3,x3,y3,eA,hA⟩:∃A x y,(zaA kh (Sum.inr one)).getD (.ref Y.a_NOTHING)= .ref A/\SqT K H A [.int (zcN (zA hm one)),x,y]:=by
   rcases A0.th.look one with⟨e1,e2⟩|⟨r,v',e1,e2,t,x,y,rfl,ht,wa⟩
   ·rw[e1,e2];exact⟨Y.a_NOTHING,_,_,rfl,Y.t_NOTHING _⟩
   ·rw[e1,e2];exact⟨t,x,y,rfl, .inl (.inl ht)⟩
  rw[eA]
  refine⟨A3,_,0,_,rfl,rfl,hA,at0,_,_,rfl,rfl,_,rfl,?_⟩
  have eh:zdU hm (one,r)=if r.1<=zcN (zA hm one)then hm else zc9 hm one r:=rfl
  by_cases c:r.1<=zcN (zA hm one)
  ·rw[R0 c] at eh
   rw[eh] at q
   refine zbW (Y0 c) ⟨few rfl,λl hl=>?_⟩
   have S:=Same.new (o:= .lst ([]:List V)) hl
   have mS:∀c xs,H c=some (.tup xs)->(upd H l (.lst ([]:List V))) c=some (.tup xs):=λc xs e=>S _ _ e
   exact q l ga [] n b kh kt tm [] _ hl zb .nil ⟨S _ _ A0.hp,S _ _ A0.hh,A0.th.mono mS,A0.oh,S _ _ A0.ht,A0.tt.mono mS,A0.ot,A0.gr.mono mS,A0.go,A0.ne⟩ (by rw[List.append_nil];exact I0) (λc o _ _ _ e=>S _ _ e) (W1 _) (.inl ⟨c,rfl,rfl,rfl⟩)
  ·rw[N0 c] at eh
   rw[eh] at q
   refine zbG (by rw[E1 c]) ?_
   refine⟨_,rfl,_,rfl,_,rfl,few rfl,λpr hpr=>?_⟩
   have S1:=Same.new (o:= .tup [V.int r.1,x,y]) hpr
   have e1:(upd H pr (.tup [V.int r.1,x,y])) pr=some (.tup [V.int r.1,x,y]):=zb
   generalize (upd H pr (HO.tup [V.int r.1,x,y]))=H1 at *
   have hh1:=S1 _ _ A0.hh
   refine⟨_,rfl,p,_,dx,_,_,rfl,S1 _ _ hp,Y.k_House,Y.n_House_hearings,zir,_,rfl,hd,_,rfl, .inl ⟨kh,Sum.inr one,hh1,rfl,zo (),rfl⟩,?_⟩
   have m12:∀c xs,H1 c=some (.tup xs)->upd H1 hd (.dK (zah kh (Sum.inr one) (.ref pr))) c=some (.tup xs):=λc xs e=>by rw[zd (zy e hh1 (λz=>nomatch z))];exact e
   have k12:Keep hd H1 (upd H1 hd (.dK (zah kh (Sum.inr one) (.ref pr)))):=Keep.upd _ _ _
   have hh2:upd H1 hd (.dK (zah kh (Sum.inr one) (.ref pr))) hd=some (.dK (zah kh (Sum.inr one) (.ref pr))):=zb
   generalize (upd H1 hd (.dK (zah kh (Sum.inr one) (.ref pr))))=H2 at *
   have m2:∀c xs,H c=some (.tup xs)->H2 c=some (.tup xs):=λc xs e=>m12 _ _ (S1 _ _ e)
   have k2:∀c o,c≠hd->H c=some o->H2 c=some o:=λc o n e=>k12 c o n (S1 _ _ e)
   have hp2:=k2 _ _ nph hp
   have A2:HsAt Y.c_House hs H2 p dx hd td ga v nm n b (zah kh (Sum.inr one) (.ref pr)) (zc9 hm one r) kt tm:=⟨hp2,hh2,(A0.th.mono m2).put ⟨pr,x,y,rfl,m12 _ _ e1,wa.mono m2⟩,A0.oh.put hone hrr,k2 _ _ (Ne.symm A0.ne) A0.ht,A0.tt.mono m2,A0.ot,A0.gr.mono m2,A0.go,A0.ne⟩
   refine⟨_,rfl,p,dx,_,rfl,hp2,rfl,p,dx,hd,td,ga,v,nm,n,b,_,kt,_,tm,L0,g,hs,ps,lks,hds,rfl,A2,I0.goal,I0.last,zak hv T m2,T,hf,hnm,λl ga' us n' b' kt' tm' L H' hl hl' R' A' I' k' ll eL eT=>?_⟩
   have hl0:H l=none:=by
    cases z:H l with
    |none=>rfl
    |some u=>
     by_cases y:l=hd
     ·rw[y,hh2] at hl;cases hl
     ·rw[k2 l u y z] at hl;cases hl
   refine q l ga' us n' b' _ kt' tm' L H' hl0 hl' R' A' I' (λc o n1 n2 n3 e=>k' c o n1 n3 (k2 c o n2 e)) ll (.inr ⟨c,eL,eT⟩)
def RealW(hs O:List Str)(x:Str):Option WM->Prop
 |none=>True
 |some (w,ms)=>(∃ws,w=x::ws)/\w.Nodup/\(∀y∈w,y∈hs)/\Mk0 O ms
structure Tn(g:Str)(hs:List Str)(ps:List (Str×Str))(lks hds:List D)(O:List Str):Prop where
 T:TownOk g hs ps lks hds
 po:Pool hs lks hds O
 hf:∀d∈hds,∃ds,d= .tup ds/\ds.length<=12
theorem RealW.hr(N:Tn g hs ps lks hds O){r:Hr}(h:RealW hs O x r.2):hrR x r:=by
 obtain⟨n,b⟩:=r
 match b,h with
 |none,_=>exact trivial
 |some (w,ms),⟨h1,h2,h3,h4⟩=>
  have:=h4.len N.po.few
  exact⟨h1,V1 (zbR h2 h3) N.T.ten,λy hy=>N.T.names y (h3 y hy),λy hy=>N.po.nm y (h4.mem y hy),()⟩
theorem RealW.wm(N:Tn g hs ps lks hds O){b:Option WM}(h:RealW hs O x b):zdK b:=by
 match b,h with
 |none,_=>exact trivial
 |some (w,ms),⟨h1,h2,h3,h4⟩=>exact ⟨λy hy=>N.T.names y (h3 y hy),λy hy=>N.po.nm y (h4.mem y hy)⟩
theorem zeQ{ws:List Str}{to:Option Str}:∀{rs:List D} {t u:List Str},(∀r∈rs,∃cs x,r= .tup [.tup cs,x]/\(∀c∈cs,zC c=true)/\(x= .tup [.str "keep"]\/∃w m,x= .tup [.str w, .str m]/\(w="put"\/w="strike")/\m∈O))->Mk0 O t->zE ws to rs t=some u->Mk0 O u
 |[],t,u,_,M,h=>by
  rw[zE] at h
  cases h
  exact M
 |r::rs,t,u,hr,M,h=>by
  rw[zE] at h
  have hr':=λr' h'=>hr r' (b0 _ h')
  by_cases z:zeY ws t to (zhi r)=true
  ·rw[R0 z] at h
   obtain⟨cs,x,rfl,_,hx⟩:=hr r K1
   rcases hx with rfl|⟨w,m,rfl,_,hm⟩
   ·cases h
   ·exact zeQ hr' (M.next hm) h
  ·rw[N0 z] at h
   exact zeQ hr' M h
theorem zoj(N:Tn g hs ps lks hds O){nm o:Str}(hn:nm∈hs){b:Option WM}(h:RealW hs O nm b):RealW hs O nm (zdl (zp hs hds nm) b o):=by
 obtain⟨j,d,e1,e2,hm⟩:=zm5 N.T hn
 obtain⟨rs,rfl,hk⟩:=zmX (N.T.hands d hm) (N.po.hd d hm)
 match b,h with
 |none,_=>exact trivial
 |some (w,ms),⟨h1,h2,h3,h4⟩=>
  show RealW hs O nm ((zE w (some o) (zp hs hds nm) ms).map λt=>(w,t))
  rw[zfH N.T.hs_nd e1 e2]
  cases e:zE w (some o) rs ms with
  |none=>exact trivial
  |some t=>exact ⟨h1,h2,h3,zeQ hk.2 h4 e⟩
noncomputable abbrev S3:=Option WM×Tb×Tb
structure SOk(g:Str)(hs:List Str)(ps:List (Str×Str))(lks hds:List D)(O:List Str)(nm:Str)(s:S3):Prop where
 hi:∃L0,HInv g nm (zp hs lks nm) (zp hs hds nm) (due hs ps nm) s.1 s.2.1 s.2.2 L0
 b:RealW hs O nm s.1
 h:∀p∈s.2.1,RealW hs O p.1 p.2.2
 k:(s.2.1.map (·.1)).Nodup
structure HearR(hs:List Str)(ps:List (Str×Str))(hds:List D)(nm:Str)(s:S3)(one:Str)(r:Hr)(s':S3)(L:List Lt):Prop where
 h:s'.2.1=zdU s.2.1 (one,r)
 n:L.length<=10
 e:(r.1<=zcN (zA s.2.1 one)/\L=[]/\s'.2.2=s.2.2/\s'.1=s.1)\/(¬r.1<=zcN (zA s.2.1 one)/\L=za2 (zp hs hds nm) s'.1 s.2.2 (due hs ps nm)/\s'.2.2=zbm (zp hs hds nm) s'.1 s.2.2 (due hs ps nm))
theorem zmI{nm:Str}(hn:nm∈hs){m:Tb}{b:Option WM}(h:∀p∈m,RealW hs O p.1 p.2.2)(be:zgK rs (zbU nm rs m) b):RealW hs O nm b:=by
 cases b with
 |none=>exact trivial
 |some e=>
  obtain⟨⟨x,n,b⟩,hp,o⟩:=List.mem_filterMap.mp be.1
  have hr:=h _ hp
  cases b with
  |none=>cases o
  |some q=>
   obtain⟨w,ms⟩:=q
   have o:(if nm∈w\/zb2 (zH (nm::w) ms rs)=true then none else some (nm::w,ms))=some e:=o
   by_cases c:nm∈w\/zb2 (zH (nm::w) ms rs)=true
   ·rw[R0 c] at o;cases o
   ·rw[N0 c] at o
    cases o
    obtain⟨h1,h2,h3,h4⟩:=hr
    refine⟨⟨w,rfl⟩,U2.mpr ⟨λz=>c (.inl z),h2⟩,λy hy=>?_,h4⟩
    rcases X0.mp hy with rfl|hy
    ·exact hn
    ·exact h3 y hy
theorem zjR{nm:Str}(hn:nm∈hs){lrs hrs:List D}{os:List Str}{b:Option WM}{hm tm:Tb}{L:List Lt}(i:HInv g nm lrs hrs os b hm tm L)(h:∀p∈hm,RealW hs O p.1 p.2.2):RealW hs O nm b:=by
 by_cases c:nm=g
 ·rw[i.goal c]
  exact⟨⟨[],rfl⟩,`Z3,λy hy=>by rw[C2.mp hy];exact hn,⟨List.nodup_nil,λ_ z=>nomatch z⟩⟩
 ·exact zmI hn h (i.best c)
theorem zj7{m:Tb}{one:Str}{r:Hr}(h:∀p∈m,RealW hs O p.1 p.2.2)(nd:(m.map (·.1)).Nodup)(hr:RealW hs O one r.2):(∀p∈zdU m (one,r),RealW hs O p.1 p.2.2)/\((zdU m (one,r)).map (·.1)).Nodup:=by
 unfold zdU
 split
 ·exact ⟨h,nd⟩
 ·refine ⟨λp hp=>?_,zll nd⟩
  rcases zhj hp with hp|rfl
  ·exact h p hp
  ·exact hr
noncomputable abbrev RdL:=List (Str×Lt)
def RdR(hs O:List Str)(R:RdL):Prop:=∀e∈R,e.1∈hs/\e.2.1∈hs/\RealW hs O e.1 e.2.2.2
theorem ziS{rs:List D}{b:Option WM}:∀{os:List Str} {tm:Tb} {p:Lt},p∈za2 rs b tm os->p.1∈os/\p.2.2=zdl rs b p.1
 |[],tm,p,h=>by rw[za2] at h;cases h
 |o::os,tm,p,h=>by
  rw[za2] at h
  rcases Q2.mp h with h|h
  ·unfold zfN at h
   split at h
   ·cases h
   ·rw[C2.mp h];exact⟨K1,rfl⟩
  ·obtain ⟨h1,h2⟩:=ziS h;exact⟨b0 _ h1,h2⟩
theorem zi3(N:Tn g hs ps lks hds O){nm:Str}(hn:nm∈hs){b:Option WM}(h:RealW hs O nm b){tm:Tb}:RdR hs O ((za2 (zp hs hds nm) b tm (due hs ps nm)).map λl=>(nm,l)):=by
 intro e he
 obtain⟨l,hl,rfl⟩:=y1.mp he
 obtain⟨h1,h2⟩:=ziS hl
 refine⟨hn,(O2.mp h1).1,?_⟩
 show RealW hs O nm l.2.2
 rw[h2]
 exact zoj N hn h
theorem zlY(N:Tn g hs ps lks hds O){nm one:Str}(hn:nm∈hs){r:Hr}{s s':S3}{L L0:List Lt}(k:SOk g hs ps lks hds O nm s)(hr:RealW hs O one r.2)(a:HearR hs ps hds nm s one r s' L)(i:HInv g nm (zp hs lks nm) (zp hs hds nm) (due hs ps nm) s'.1 s'.2.1 s'.2.2 L0):SOk g hs ps lks hds O nm s'/\RdR hs O (L.map λl=>(nm,l)):=by
 obtain⟨h1,h2⟩:=zj7 k.h k.k hr
 rw[←a.h] at h1 h2
 have hb:=zjR hn i h1
 refine⟨⟨⟨_,i⟩,hb,h1,h2⟩,?_⟩
 rcases a.e with⟨_,l,_⟩|⟨_,l,_⟩
 ·rw[l];exact λe he=>nomatch he
 ·rw[l];exact zi3 N hn hb
theorem ztt{k:Nat}(r:Room k A):A.units+66<cLine:=by have:=r.un;lia
theorem HsAt.hold{p dx hd td:Addr}{nm:Str}{n:Int}{b:Option WM}{kt:List (Key×V)}{hm tm:Tb}(a:HsAt C hs H p dx hd td ga v nm n b kh hm kt tm)(m:∀c xs,H c=some (.tup xs)->H' c=some (.tup xs))(h1:∀o,H p=some o->H' p=some o)(h2:∀o,H hd=some o->H' hd=some o)(h3:∀o,H td=some o->H' td=some o):HsAt C hs H' p dx hd td ga v nm n b kh hm kt tm:=
 ⟨h1 _ a.hp,h2 _ a.hh,a.th.mono m,a.oh,h3 _ a.ht,a.tt.mono m,a.ot,a.gr.mono m,a.go,a.ne⟩
structure HA where
 nm:Str
 p:Addr
 dx:Addr
 hd:Addr
 td:Addr
noncomputable def adr(a:HA):List Addr:=[a.p,a.hd,a.td]
noncomputable def zct(As:List HA):List Addr:=As.flatMap adr
noncomputable def ppl(As:List HA):List (Key×V):=As.map λa=>(Sum.inr a.nm, .ref a.p)
def HsE(C:Addr)(hs:List Str)(H:Hp)(v:V)(a:HA)(s:S3):Prop:=∃ga n kh kt,HsAt C hs H a.p a.dx a.hd a.td ga v a.nm n s.1 kh s.2.1 kt s.2.2
def HsAll(C:Addr)(hs:List Str)(H:Hp)(v:V)(As:List HA)(st:Str->S3):Prop:=∀a∈As,HsE C hs H v a (st a.nm)
section
variable{a a':HA}{s:S3}{As:List HA}{st:Str->S3}
theorem HsE.hold(h:HsE C hs H v a s)(m:∀c xs,H c=some (.tup xs)->H' c=some (.tup xs))(k:∀c∈adr a,∀o,H c=some o->H' c=some o):HsE C hs H' v a s:=
 let⟨ga,n,kh,kt,A⟩:=h
 ⟨ga,n,kh,kt,A.hold m (k _ (by simp[adr])) (k _ (by simp[adr])) (k _ (by simp[adr]))⟩
theorem HsAll.hold(h:HsAll C hs H v As st)(m:∀c xs,H c=some (.tup xs)->H' c=some (.tup xs))(k:∀c∈zct As,∀o,H c=some o->H' c=some o):HsAll C hs H' v As st:=
 λa ha=>(h a ha).hold m λc hc=>k c (List.mem_flatMap.mpr ⟨a,ha,hc⟩)
theorem HsAll.same(h:HsAll C hs H v As st)(s:Same H H'):HsAll C hs H' v As st:=h.hold (λc xs e=>s _ _ e) λc _ o e=>s _ _ e
theorem znm(h:HsAll C hs H v As st){c:Addr}(hc:c∈zct As):∃o,H c=some o:=by
 obtain⟨a,ha,hc⟩:=List.mem_flatMap.mp hc
 obtain⟨ga,n,kh,kt,A⟩:=h a ha
 simp only[adr,X0,E2,or_false] at hc
 rcases hc with rfl|rfl|rfl
 ·exact ⟨_,A.hp⟩
 ·exact ⟨_,A.hh⟩
 ·exact ⟨_,A.ht⟩
theorem zhP(h:HsAll C hs H v As st){c:Addr}(e:H c=some (.tup xs)):c∉zct As:=λhc=>by
 obtain⟨a,ha,hc⟩:=List.mem_flatMap.mp hc
 obtain⟨ga,n,kh,kt,A⟩:=h a ha
 simp only[adr,X0,E2,or_false] at hc
 rcases hc with rfl|rfl|rfl
 ·rw[A.hp] at e;cases e
 ·rw[A.hh] at e;cases e
 ·rw[A.ht] at e;cases e
theorem zh9(h:HsAll C hs H v As st){c:Addr}(e:H c=some (.lst xs)):c∉zct As:=λhc=>by
 obtain⟨a,ha,hc⟩:=List.mem_flatMap.mp hc
 obtain⟨ga,n,kh,kt,A⟩:=h a ha
 simp only[adr,X0,E2,or_false] at hc
 rcases hc with rfl|rfl|rfl
 ·rw[A.hp] at e;cases e
 ·rw[A.hh] at e;cases e
 ·rw[A.ht] at e;cases e
theorem zrF(nd:(zct As).Nodup)(h1:a∈As)(h2:a'∈As)(ne:a≠a'){c:Addr}(hc:c∈adr a):c∉adr a':=λhc'=>by
 have nd:=(List.pairwise_flatMap.mp (show(As.flatMap adr).Pairwise (·≠·)from nd))
 obtain⟨i,hi,ei⟩:=K2 h1
 obtain⟨j,hj,ej⟩:=K2 h2
 have pw:=List.pairwise_iff_getElem.mp nd.2
 rcases Nat.lt_trichotomy i j with z|z|z
 ·have:=pw i j hi hj z
  rw[ei,ej] at this
  exact this c hc c hc' rfl
 ·subst z;exact ne (ei.symm.trans ej)
 ·have:=pw j i hj hi z
  rw[ei,ej] at this
  exact this c hc' c hc rfl
theorem zh3(e:As.map (·.nm)=hs)(hx:x∈hs):∃a∈As,a.nm=x/\zaA (ppl As) (Sum.inr x)=some (.ref a.p):=by
 subst e
 induction As with
 |nil=>cases hx
 |cons b As ih=>
  by_cases c:b.nm=x
  ·exact ⟨b,K1,c,zdd (p:=(Sum.inr b.nm, .ref b.p)) (by show Sum.inr b.nm=Sum.inr x;rw[c])⟩
  ·have hx':x∈As.map (·.nm):=by
    rcases X0.mp hx with z|z
    ·exact absurd z.symm c
    ·exact z
   obtain⟨a,ha,h1,h2⟩:=ih hx'
   refine⟨a,b0 _ ha,h1,?_⟩
   show zaA ((Sum.inr b.nm, .ref b.p)::ppl As) (Sum.inr x)=_
   rw[zbk (λz=>c (by injection z))]
   exact h2
theorem zrI(e:As.map (·.nm)=hs)(nd:hs.Nodup)(h1:a∈As)(h2:a'∈As)(ee:a.nm=a'.nm):a=a':=by
 obtain⟨i,hi,ei⟩:=K2 h1
 obtain⟨j,hj,ej⟩:=K2 h2
 have z1:hs[i]?=some a.nm:=by rw[←e,U0,F0 hi,ei];rfl
 have z2:hs[j]?=some a.nm:=by rw[←e,U0,F0 hj,ej,ee];rfl
 have:=zbQ nd z1 z2
 subst this
 rw[←ei,←ej]
end
def RdO(H:Hp)(us:List V)(R:RdL):Prop:=us.length=R.length/\∀(i:Nat) v e,us[i]?=some v->R[i]?=some e->LtO H v e.1 e.2.1 e.2.2
section
variable{R R':RdL}
theorem RdO.nil:RdO H [] []:=⟨rfl,λi v e z=>by cases z⟩
theorem RdO.mono(h:RdO H us R)(m:∀c xs,H c=some (.tup xs)->H' c=some (.tup xs)):RdO H' us R:=⟨h.1,λi v e z1 z2=>(h.2 i v e z1 z2).mono m⟩
theorem RdO.app(h:RdO H us R)(h':RdO H us' R'):RdO H (us ++us') (R ++R'):=by
 refine⟨by rw[F1,F1,h.1,h'.1],λi v e z1 z2=>?_⟩
 rcases Y1 i us.length with c|c
 ·rw[V2 c] at z1
  rw[V2 (by rw[←h.1];exact c)] at z2
  exact h.2 i v e z1 z2
 ·rw[P2 c] at z1
  rw[P2 (by rw[←h.1];exact c),←h.1] at z2
  exact h'.2 _ v e z1 z2
theorem RdO.erase(h:RdO H us R)(k:Nat):RdO H (us.eraseIdx k) (R.eraseIdx k):=by
 refine⟨by rw[List.length_eraseIdx,List.length_eraseIdx,h.1],λi v e z1 z2=>?_⟩
 rw[List.getElem?_eraseIdx] at z1 z2
 split at z1
 ·rename_i c;rw[R0 c] at z2;exact h.2 _ v e z1 z2
 ·rename_i c;rw[N0 c] at z2;exact h.2 _ v e z1 z2
theorem zpg{nm:Str}{L:List Lt}(h:LtsO H nm us L):∀{i:Nat} {v:V},us[i]?=some v->∃l,L[i]?=some l/\LtO H v nm l.1 l.2:=by
 induction h with
 |nil=>intro i v e;cases e
 |cons h t ih=>
  intro i v e
  cases i with
  |zero=>cases e;exact⟨_,rfl,h⟩
  |succ i=>exact ih e
theorem RdO.lts{nm:Str}{L:List Lt}(h:LtsO H nm us L):RdO H us (L.map λl=>(nm,l)):=by
 refine⟨by rw[D0];exact h.len,λi v e z1 z2=>?_⟩
 obtain⟨l,e1,hl⟩:=zpg h z1
 rw[U0,e1] at z2
 cases z2
 exact hl
theorem RdO.get(h:RdO H us R){e:Str×Lt}(he:R[i]?=some e):∃v,us[i]?=some v/\LtO H v e.1 e.2.1 e.2.2:=by
 have hi:i<us.length:=by rw[h.1];exact(X1.mp he).1
 exact⟨us[i],F0 hi,h.2 i _ e (F0 hi) he⟩
theorem RdO.of(h:RdO H us R)(hv:us[i]?=some v):∃e,R[i]?=some e/\LtO H v e.1 e.2.1 e.2.2:=by
 have hi:i<R.length:=by rw[←h.1];exact(X1.mp hv).1
 exact⟨R[i],F0 hi,h.2 i v _ hv (F0 hi)⟩
end
noncomputable def zhg(v:V)(d wl:Addr):List (Str×V):=[("place",v),("people", .ref d),("waiting", .ref wl)]
structure RnAt(C CR:Addr)(hs:List Str)(H:Hp)(rp dr d wl:Addr)(v:V)(As:List HA)(st:Str->S3)(us:List V)(R:RdL):Prop where
 hr:H rp=some (.ins CR dr (zhg v d wl))
 hd:H d=some (.dK (ppl As))
 hw:H wl=some (.lst us)
 rd:RdO H us R
 ha:HsAll C hs H v As st
 ns:As.map (·.nm)=hs
 sep:(d::zct As).Nodup
theorem RnAt.same{CR:Addr}{d:Addr}{As:List HA}{st:Str->S3}{R:RdL}(h:RnAt C CR hs H rp dr d wl v As st us R)(s:Same H H'):RnAt C CR hs H' rp dr d wl v As st us R:=
 ⟨s _ _ h.hr,s _ _ h.hd,s _ _ h.hw,h.rd.mono λc xs e=>s _ _ e,h.ha.same s,h.ns,h.sep⟩
theorem znF{d:Addr}:(zhg v d wl).lookup ("place":Str)=some v:=by rfl
theorem zcA{d:Addr}:(zhg v d wl).lookup ("people":Str)=some (.ref d):=by rfl
theorem zbA{d:Addr}:(zhg v d wl).lookup ("waiting":Str)=some (.ref wl):=by rfl
noncomputable def zlP:Sp:=λvs H Q _=>∃k:Int,vs=[.int k]/\Q (.bl true) H
theorem zoC(Y:Ev K mg):FnOk P w K mg base CX0 1 Y.a_is_number Y.d_is_number zaJ zlP:=by
 refine Y.is_number.fn.okQ zfj (λvs H Q E h=>?_) `X3
 ·obtain ⟨k,rfl,_⟩:=h;rfl
 ·obtain ⟨k,rfl,q⟩:=h
  obtain⟨t,ht,h1,h2,h3,h4⟩:=(Rep.int (H:=H) k).isi (K:=K)
  refine⟨_,(zi (zt (ziY (zv zel Y.isinstance zac (za (qv 0) (za (zoi Y.int zeT) zc))) (zjf (zlz (zv zel Y.isinstance zac (za (qv 0) (za (zoi Y.bool zk3) zc)))))))),?_⟩
  refine⟨_,rfl,_,_,_,_,rfl,ht,h2,_,rfl,?_⟩
  exact zbW rfl ⟨_,rfl,_,_,_,_,rfl,ht,h3,_,rfl,q⟩
noncomputable def zho:Sp:=λvs H Q _=>∃k a b:Int,vs=[.int k, .int a, .int b]/\a<=k/\k<=b/\Q (.bl true) H
theorem zkK(Y:Ev K mg):FnOk P w K mg base CX0 2 Y.a_is_whole Y.d_is_whole za5 zho:=by
 have G_is_number:FnOk P w K mg base CX0 1 Y.a_is_number Y.d_is_number zaJ zlP:=zoC Y
 refine Y.is_whole.fn.okQ zgB (λvs H Q E h=>?_) `X3
 ·obtain ⟨k,a,b,rfl,_⟩:=h;rfl
 ·obtain ⟨k,a,b,rfl,h1,h2,q⟩:=h
  refine⟨_,(zi (zt (ziY (zk G_is_number `U3 Y.is_number.mg Y.is_number.kp Y.is_number.b .nil zm (za (qv 0) zc)) (zjf (zlU zhh zhh (qv 1) (qv 0) (qv 2)))))),?_⟩
  refine⟨_,rfl,k,rfl,_,rfl,?_⟩
  refine zbW rfl ?_
  exact⟨_,rfl,_,rfl,_,_,rfl,rfl,_,rfl,zbW (Y0 h1) ⟨_,rfl,_,_,rfl,rfl,by show Q (.bl (decide (k<=b))) H;rw[Y0 h2];exact q⟩⟩
noncomputable def zha:Sp:=λvs H Q _=>∃(l:Addr) (k:Nat) (us:List V) (u:V),vs=[.ref l, .int (k:Int)]/\H l=some (.lst us)/\us.length<=1000/\us[k]?=some u/\Q u H
theorem zkd(Y:Ev K mg):FnOk P w K mg base CX0 3 Y.a_at_place Y.d_at_place zb1 zha:=by
 have G_is_whole:FnOk P w K mg base CX0 2 Y.a_is_whole Y.d_is_whole za5 zho:=zkK Y
 refine Y.at_place.fn.okQ zfO (λvs H Q E h=>?_) `X3
 ·obtain ⟨l,k,us,u,rfl,_⟩:=h;rfl
 ·obtain ⟨l,k,us,u,rfl,hl,l1,e,q⟩:=h
  refine⟨_,(zf (zap (zeB (zeD (zk G_is_whole `U3 Y.is_whole.mg Y.is_whole.kp Y.is_whole.b .nil zm (za (qv 1) (za zh (za (zB zhX (zv z8 Y.len zbw (za (qv 0) zc)) zh) zc)))))) (zi zdI) zX)
   (zi (zt (zaa zO (qv 0) (qv 1))))),?_⟩
  have hk:=(X1.mp e).1
  refine⟨_,rfl,_,rfl, .inl ⟨l,us,rfl, .inl (SqL.of hl),_,_,rfl,rfl,k,0,_,rfl,(),(),?_⟩⟩
  exact⟨true,rfl,zbG rfl ⟨_,rfl,_,rfl,l,us,_,u,rfl,rfl,SqL.of hl,zT e,q⟩⟩
noncomputable def zgf(C CR:Addr):Sp:=λvs H Q _=>∃(hs:List Str) (rp dr d wl:Addr) (v:V) (As:List HA) (st:Str->S3) (us:List V) (R:RdL),vs=[.ref rp]/\RnAt C CR hs H rp dr d wl v As st us R/\∀l,H l=none->Q (.ref l) (upd H l (.lst us))
theorem zhf(Y:Ev K mg):FnOk P w K mg base CX0 1 Y.a_Run_road Y.d_Run_road zb3 (zgf Y.c_House Y.c_Run):=by
 refine Y.Run_road.fn.okQ zkc (λvs H Q E h=>?_) `X3
 ·obtain ⟨hs,rp,dr,d,wl,v,As,st,us,R,rfl,_⟩:=h;rfl
 ·obtain ⟨hs,rp,dr,d,wl,v,As,st,us,R,rfl,A0,q⟩:=h
  refine⟨_,(zi (zt (zaf zhW Y.list zpk (za (zJ (qv 0)) zc)))),?_⟩
  exact⟨_,rfl,rp,_,dr,_,_,rfl,A0.hr,Y.k_Run,Y.n_Run_waiting,zbA,wl,us,rfl, .inl (SqL.of A0.hw),λl hl=>q l hl⟩
theorem zml{hi:Option Int}{Q:VK}(h:H a=some (.tup xs))(k:∀p H',H' p=some (.tup (zcs xs lo hi))->Same H H'->Q (.ref p) H'):zsn K (.ref a) lo hi H Q:=
 ⟨a,xs,rfl, .inl (.inl h),λz=>k a H (by rw[z];exact h) (Same.refl _),λp hp=>k p _ zb (Same.new hp)⟩
theorem dgk(e:H a=some (.dK kvs))(ev:zaA kvs (Sum.inr x)=some v):DGet H a (.str x) (some v):=by
 have:=DGet.k (k:=Sum.inr x) e
 rw[ev] at this
 exact this
theorem zpV{R:RdL}{f:Str×Lt->Bool}{ok:Hp->Prop}{src:List (Option Nat)}{Q:VK}(wk:Wk J us.length (λi x=>us[i]?=some x) ok)(hok:∀H',Same H H'->ok H')(r:RdO H us R)(hl:R.length<=900)(e:zep src σ=none::σr)
 (he:∀(x:V) (d:Str×Lt) (H1:Hp) (Q1:VK),Same H H1->LtO H1 x d.1 d.2.1 d.2.2->d∈R->(∀H2,Same H1 H2->Q1 (.bl (f d)) H2)->te (some x::σr) H1 Q1)
 (q:∀l H',Same H H'->H l=none->H' l=some (.lst ((R.map f).map V.bl))->Q (.ref l) H'):zdZ (zce 0) zoZ te src σ Q J H:=by
 refine zcY wk (λl i ys σ' H'=>(∃o,σ'=o::σr)/\ys=((R.take i).map f).map V.bl/\Same H H') ?_ ?_ ?_ ?_
 ·exact λl h'=>⟨⟨none,e⟩,rfl,Same.new h'⟩
 ·exact λl i ys σ' H' _ p=>hok H' p.2.2
 ·rintro l i y ys σ' H1 h' hi hy ⟨⟨o,rfl⟩,rfl,s1⟩ hl'
  obtain⟨d,hd,rd⟩:=r.of hy
  refine he y d H1 _ s1 (rd.mono λc xs e=>s1 _ _ e) (D1 hd) λH2 s2=>?_
  refine⟨s2 _ _ hl',?_,⟨_,rfl⟩,?_,?_⟩
  ·rw[D0,D0,J2]
   exact zo ()
  ·rw[List.take_add_one,hd]
   simp
  ·exact λc o e=>by
    rw[zd (zg e h')]
    exact s2 _ _ (s1 _ _ e)
 ·rintro l ys σ' H1 h' ⟨⟨o,rfl⟩,rfl,s1⟩ hl'
  rw[r.1,List.take_length] at hl'
  exact q l H1 s1 h' hl'
theorem zov(Y:Ev K mg){hm:Tb}(th:TbL H kh hm)(one:Str):∃A x y,(zaA kh (Sum.inr one)).getD (.ref Y.a_NOTHING)= .ref A/\SqT K H A [.int (zcN (zA hm one)),x,y]:=by
 rcases th.look one with⟨e1,e2⟩|⟨r,v',e1,e2,t,x,y,rfl,ht,wa⟩
 ·rw[e1,e2];exact⟨Y.a_NOTHING,_,_,rfl,Y.t_NOTHING _⟩
 ·rw[e1,e2];exact⟨t,x,y,rfl, .inl (.inl ht)⟩
noncomputable def zlt(C CR:Addr):Sp:=λvs H Q _=>∃(hs:List Str) (rp dr d wl:Addr) (v lv:V) (As:List HA) (st:Str->S3) (us:List V) (R:RdL) (one nm:Str) (r:Hr),vs=[.ref rp,lv]/\RnAt C CR hs H rp dr d wl v As st us R/\LtO H lv one nm r/\nm∈hs/\∀H',Same H H'->Q (.bl (decide (r.1<=zcN (zA (st nm).2.1 one)))) H'
theorem znq(Y:Ev K mg):FnOk P w K mg base CX0 2 Y.a_Run_was_heard Y.d_Run_was_heard zaE (zlt Y.c_House Y.c_Run):=by
 have G_House_heard:FnOk P w K mg base CX0 1 Y.a_House_heard Y.d_House_heard zaz (ze9 Y.c_House Y.a_NOTHING):=zfQ Y
 refine Y.Run_was_heard.fn.okQ zaD (λvs H Q E h=>?_) `X3
 ·obtain ⟨hs,rp,dr,d,wl,v,lv,As,st,us,R,one,nm,r,rfl,_⟩:=h;rfl
 ·obtain ⟨hs,rp,dr,d,wl,v,lv,As,st,us,R,one,nm,r,rfl,A0,⟨t,x,y,rfl,ht,_⟩,hnm,q⟩:=h
  refine⟨_,(zf (zcD (zrM zpD (qv 1) zkG (zkR zh)) (zc4 3 rfl (zr (zn 2 zaD.nd) (zr (zn 3 zaD.nd) (zr (zn 4 zaD.nd) zay)))))
   (zi (zt (zdR zhh (qv 4) (zaa zY (zb4 (zkI (hu1 hr) (zJ (qv 0)) (qv 3)) Y.k_House Y.House_heard.m G_House_heard `U3 Y.House_heard.b .nil zm (za (qv 2) zc)) zh))))),?_⟩
  refine⟨_,rfl,3,rfl,zml ht λp1 H1 e1 s1=>?_⟩
  have e1:H1 p1=some (.tup [V.str one,V.str nm,V.int r.1]):=e1
  have A1:=A0.same s1
  obtain⟨a,ha,en,ev⟩:=zh3 A1.ns hnm
  obtain⟨ga,n,kh,kt,B⟩:=A1.ha a ha
  rw[en] at B
  obtain⟨A3,x3,y3,eA,hA⟩:=zov Y B.th one
  refine⟨p1,_,rfl, .inl (.inl e1),rfl,_,_,rfl,_,_,rfl,_,_,rfl,rfl,?_⟩
  refine⟨_,rfl,_,rfl,rp,_,dr,_,_,rfl,A1.hr,Y.k_Run,Y.n_Run_people,zcA,_,rfl,d,_,rfl,dgk A1.hd ev,a.p,a.dx,_,rfl,B.hp,rfl,_,rfl,a.p,a.dx,a.hd,a.td,ga,v,nm,one,n,kh,rfl,B.hp,B.hh,?_⟩
  rw[eA]
  exact⟨A3,_,0,_,rfl,rfl,hA,at0,_,_,rfl,rfl,q _ s1⟩
noncomputable def zhG(C CR:Addr):Sp:=λvs H Q _=>∃(hs O:List Str) (rp dr d wl:Addr) (v:V) (As:List HA) (st:Str->S3) (us:List V) (R:RdL),vs=[.ref rp]/\RnAt C CR hs H rp dr d wl v As st us R/\RdR hs O R/\R.length<=900/\∀H',Same H H'->Q (.bl ((R.map λe=>decide (e.2.2.1<=zcN (zA (st e.2.1).2.1 e.1))).all id)) H'
theorem zk2(Y:Ev K mg):FnOk P w K mg base CX0 3 Y.a_Run_is_still Y.d_Run_is_still zaP (zhG Y.c_House Y.c_Run):=by
 have G_Run_was_heard:FnOk P w K mg base CX0 2 Y.a_Run_was_heard Y.d_Run_was_heard zaE (zlt Y.c_House Y.c_Run):=znq Y
 refine Y.Run_is_still.fn.okQ zf7 (λvs H Q E h=>?_) `X3
 ·obtain ⟨hs,O,rp,dr,d,wl,v,As,st,us,R,rfl,_⟩:=h;rfl
 ·obtain ⟨hs,O,rp,dr,d,wl,v,As,st,us,R,rfl,A0,hR,l9,q⟩:=h
  refine⟨_,(zi (zt (zv (zmg rfl) Y.all zsb (za (zeX (src:=[none,some 0]) zcE rfl rfl (zkp (zJ (qc 0))) (λ_ _ _ _ _=>(zn 0 zcE.nd)) (λ_ _ _ _ _=>zek) (λ_ _ _ _ _=>(zb4 (qc 1) Y.k_Run Y.Run_was_heard.m G_Run_was_heard `U3 Y.Run_was_heard.b .nil zm (za (qv 0) zc)))) zc)))),?_⟩
  refine⟨_,rfl,rp,_,dr,_,_,rfl,A0.hr,Y.k_Run,Y.n_Run_waiting,zbA,wl,rfl,⟨_,SqL.of A0.hw⟩,?_⟩
  refine zpV (f:=λe=>decide (e.2.2.1<=zcN (zA (st e.2.1).2.1 e.1))) (σr:=[some (.ref rp)]) (zhS (K:=K)) (λH' s'=>SqL.of (s' _ _ A0.hw)) A0.rd l9 rfl (λx e HA Q1 sA lx he q1=>?_) λl H1 s1 hl1 e1=>?_
  ·exact ⟨_,rfl,rp,dr,_,rfl,sA _ _ A0.hr,rfl,_,rfl,hs,rp,dr,d,wl,v,x,As,st,us,R,e.1,e.2.1,e.2.2,rfl,A0.same sA,lx,(hR e he).2.1,λHB sB=>q1 HB sB⟩
  ·exact ⟨l,_,rfl,SqL.of e1,q _ s1⟩
theorem zgh{n:Nat}{g:TG}{tk:TE}{src:List (Option Nat)}{Q:VK}(Pv:Addr->Nat->List (Key×V)->St->Hp->Prop)
 (h0:∀l,H1 l=none->Pv l 0 [] (zep src σ) (upd H1 l (.dK []))) (hgo:∀l i ys σ H,H1 l=none->i<n->Pv l i ys σ H->J.go i H) (hst:∀l ys σ H,H1 l=none->Pv l n ys σ H->J.stop n H)
 (hs:∀l i x ys σ H H2,H1 l=none->i<n->Pv l i ys σ H->H l=some (.dK ys)->J.yld i H x H2->g x σ H2 λσ2 H3=>tc σ2 H3 λb H4=>
   if b=true then tk σ2 H4 λk H5=>tv σ2 H5 λy H6=>∃k',k=kV k'/\H6 l=some (.dK ys)/\ys.length<sizeLine/\Pv l (i+1) (zah ys k' y) σ2 (upd H6 l (.dK (zah ys k' y)))else H4 l=some (.dK ys)/\Pv l (i+1) ys σ2 H4)
 (hd:∀l ys σ H,H1 l=none->Pv l n ys σ H->H l=some (.dK ys)->Q (.ref l) H):zf0 g tc tk tv src σ Q J H1:=by
 intro l hl
 refine⟨λi m ys σ H=>m=n -i/\i<=n/\Pv l i ys σ H,⟨n,`Z3,W1 _,h0 l hl⟩,?_⟩
 rintro i m ys σ' H' ⟨rfl,hi,p⟩ hl'
 by_cases hlt:i<n
 ·exact .inr ⟨hgo l i ys σ' H' hl hlt p,Pv l (i+1),λzs σ2 H2 q=>⟨n -(i+1),(),rfl,hlt,q⟩,λx H2 y=>hs l i x ys σ' H' H2 hl hlt p hl' y⟩
 ·have e:i=n:=()
  subst e
  exact .inl ⟨hst l ys σ' H' hl p,hd l ys σ' H' hl p hl'⟩
inductive ChE(H:Hp):List (Key×V)->List (Str×Option WM)->Prop
 |nil:ChE H [] []
 |cons {x:Str} {v y:V} {b:Option WM} {kvs:List (Key×V)} {ws:List (Str×Option WM)} (h:WmAt H v y b) (t:ChE H kvs ws):ChE H ((Sum.inr x,v)::kvs) ((x,b)::ws)
section
variable{ws:List (Str×Option WM)}
theorem ChE.mono(h:ChE H kvs ws)(m:∀c xs,H c=some (.tup xs)->H' c=some (.tup xs)):ChE H' kvs ws:=by
 induction h with
 |nil=>exact .nil
 |cons h t ih=>exact .cons (h.mono m) ih
theorem ChE.snoc(h:ChE H kvs ws){y:V}{b:Option WM}(hw:WmAt H v y b):ChE H (kvs ++ [(Sum.inr x,v)]) (ws ++ [(x,b)]):=by
 induction h with
 |nil=>exact .cons hw .nil
 |cons h t ih=>exact .cons h ih
theorem ChE.none(h:ChE H kvs ws){x:Str}(hx:x∉ws.map (·.1)):zaA kvs (Sum.inr x)=none:=by
 induction h with
 |nil=>rfl
 |cons h t ih=>
  rw[Z1,X0,not_or] at hx
  rw[zbk (λz=>hx.1 (by injection z with z;exact z.symm))]
  exact ih hx.2
theorem ChE.len(h:ChE H kvs ws):kvs.length=ws.length:=by
 induction h with
 |nil=>rfl
 |cons h t ih=>rw[J1,J1,ih]
theorem zod{x y:V}{b:Option WM}(h:WmAt H x y b)(ok:zdK b):Tr H x (zc3 b):=by
 match b,h,ok with
 |none,⟨h1,_⟩,_=>rw[h1];exact .non
 |some (w,ms),⟨pw,pm,h1,h2,h3,h4⟩,ok=>
  rw[h1]
  refine .tup h3 (by unfold zx;rw[D0,D0]) λi v d e1 e2=>?_
  unfold zx at e2
  rw[U0] at e1 e2
  cases e3:w[i]? with
  |none=>rw[e3] at e1;cases e1
  |some x=>rw[e3] at e1 e2;cases e1;cases e2;exact .str x (zaF (ok.1 x (D1 e3)))
theorem ChE.alk(h:ChE H kvs ws)(ok:∀e∈ws,zdK e.2):∀{kvs'},ChE H kvs' ws->Alk H kvs kvs':=by
 induction h with
 |nil=>intro kvs' h';cases h';exact .nil
 |cons h t ih=>
  intro kvs' h'
  cases h' with
  |cons h2 t2=>
   have o:=ok _ K1
   exact .cons (zod h o) (zod h2 o) (V1 (zbz) ⋯) (ih (λe he=>ok e (b0 _ he)) t2)
end
noncomputable def zgl(C CR:Addr):Sp:=λvs H Q _=>∃(hs:List Str) (rp dr d wl:Addr) (v:V) (As:List HA) (st:Str->S3) (us:List V) (R:RdL),vs=[.ref rp]/\RnAt C CR hs H rp dr d wl v As st us R/\hs.Nodup/\hs.length<=10/\∀l kvs H',H' l=some (.dK kvs)->ChE H' kvs (hs.map λx=>(x,(st x).1))->Same H H'->Q (.ref l) H'
theorem zjD(Y:Ev K mg):FnOk P w K mg base CX0 2 Y.a_Run_choice Y.d_Run_choice zby (zgl Y.c_House Y.c_Run):=by
 have G_House_way:FnOk P w K mg base CX0 1 Y.a_House_way Y.d_House_way zcf (zlD Y.c_House 0):=znc Y
 refine Y.Run_choice.fn.okQ zia (λvs H Q E h=>?_) `X3
 ·obtain ⟨hs,rp,dr,d,wl,v,As,st,us,R,rfl,_⟩:=h;rfl
 ·obtain ⟨hs,rp,dr,d,wl,v,As,st,us,R,rfl,A0,nd,l10,q⟩:=h
  refine⟨_,(zi (zt (zkE (zfL (src:=[none,none]) zb5 rfl rfl (zjO (zJ (qv 0))) (λ_ _ _ _ _=>(zfR (K:=K) 2 rfl rfl (zr (zn 0 zb5.nd) (zr (zn 1 zb5.nd) zay)))) (λ_ _ _ _ _=>zek) (λ_ _ _ _ _=>(qv 0)) (λ_ _ _ _ _=>(zaC (qv 1) Y.k_House Y.House_way.m G_House_way `U3 Y.House_way.b .nil zm)))))),?_⟩
  refine⟨_,rfl,rp,_,dr,_,_,rfl,A0.hr,Y.k_Run,Y.n_Run_people,zcA,d,_,rfl,A0.hd,λo _=>?_⟩
  have la:As.length=hs.length:=by rw[←A0.ns,D0]
  have sd:∀{c ob},H c=some ob->c≠d->upd H d (.frz o (.dK (ppl As))) c=some ob:=λ{c ob} e n=>by rw[zd n];exact e
  refine zgh (n:=As.length) (λl i ys σ' H'=>(∃o1 o2,σ'=[o1,o2])/\ChE H' ys ((As.take i).map λa=>(a.nm,(st a.nm).1))/\H' d=some (.frz o (.dK (ppl As)))/\∀c ob,c≠d->H c=some ob->H' c=some ob) ?_ ?_ ?_ ?_ ?_
  ·intro l hl
   have nl:l≠d:=λz=>by rw[z,zb] at hl;cases hl
   exact⟨⟨_,_,rfl⟩, .nil,by rw[zd (Ne.symm nl)];exact zb,λc ob n e=>by rw[zd (zg (sd e n) hl)];exact sd e n⟩
  ·exact λl i ys σ' H' hl hi z=>⟨by rw[D0];unfold ppl;rw[D0];exact hi,z.2.2.1⟩
  ·exact λl ys σ' H' hl z=>⟨by rw[D0];unfold ppl;rw[D0];exact P0 _,z.2.2.1⟩
  ·rintro l i x ys σ' H1 H2 hl hi ⟨⟨o1,o2,rfl⟩,ch,hd1,k1⟩ hl1 ⟨T,p,hp,rfl,hT,rfl⟩
   have ei:As[i]?=some As[i]:=F0 hi
   have ep:p=(V.str As[i].nm,V.ref As[i].p):=by
    unfold ppl at hp
    rw[List.map_map,U0,ei] at hp
    cases hp;rfl
   subst ep
   have hm:=List.getElem_mem hi
   have ix:∀j b,As[j]?=some b->b.nm=As[i].nm->j=i:=λj b e1 e2=>zbQ nd (show hs[j]?=some b.nm by rw[←A0.ns,U0,e1];rfl) (show hs[i]?=some b.nm by rw[←A0.ns,U0,ei,e2];rfl)
   have tk:(As.take (i+1)).map (λa=>(a.nm,(st a.nm).1))=(As.take i).map (λa=>(a.nm,(st a.nm).1))++ [(As[i].nm,(st As[i].nm).1)]:=by rw[List.take_add_one,ei,List.map_append];rfl
   obtain⟨ga,n,kh,kt,B⟩:=A0.ha _ hm
   generalize As[i]=a at *
   have S:=Same.new (o:= .tup [V.str a.nm,V.ref a.p]) hT
   have kd:∀c ob,c≠d->H c=some ob->upd H1 T (.tup [V.str a.nm,V.ref a.p]) c=some ob:=λc ob n e=>S _ _ (k1 c ob n e)
   have nd1:∀{c ob},H c=some ob->(∀z,ob≠ .dK z)->c≠d:=λ{c ob} e h z=>by rw[z,A0.hd] at e;cases e;exact h _ rfl
   have hp2:=kd _ _ (nd1 B.hp (λz y=>nomatch y)) B.hp
   obtain⟨gx,gy,hg,wm⟩:=B.gr
   have hg2:=kd _ _ (nd1 hg (λz y=>nomatch y)) hg
   have wm2:WmAt (upd H1 T (.tup [V.str a.nm,V.ref a.p])) gx gy (st a.nm).1:=wm.mono λc xs e=>kd _ _ (nd1 e (λz y=>nomatch y)) e
   have hl2:=S _ _ hl1
   have hd2:=S _ _ hd1
   have ch2:=ch.mono (H':=upd H1 T (.tup [V.str a.nm,V.ref a.p])) λc xs e=>S _ _ e
   refine⟨T,_,rfl, .inl (.inl zb),rfl,_,_,rfl,_,_,rfl,rfl,?_⟩
   refine⟨_,rfl,_,rfl,a.p,a.dx,_,rfl,hp2,rfl,a.p,a.dx,a.hd,a.td,ga,v,a.nm,n,_,gx,rfl,hp2,hg2,rfl,Sum.inr a.nm,rfl,hl2,?_,?_⟩
   ·have:=ch.len
    rw[D0,J2] at this
    exact zo ()
   ·have nx:a.nm∉((As.take i).map λa=>(a.nm,(st a.nm).1)).map (·.1):=λz=>by
     rw[List.map_map] at z
     obtain⟨b,hb,e⟩:=y1.mp z
     obtain⟨j,hj,ej⟩:=K2 hb
     rw[J2] at hj
     rw[List.getElem_take] at ej
     have:=ix j b (by rw[F0 (),ej]) e
     lia
    have up:∀c xs,upd H1 T (.tup [V.str a.nm,V.ref a.p]) c=some (.tup xs)->upd (upd H1 T (.tup [V.str a.nm,V.ref a.p])) l (.dK (zah ys (Sum.inr a.nm) gx)) c=some (.tup xs):=λc xs e=>by rw[zd (zy e hl2 (λz=>nomatch z))];exact e
    refine⟨⟨_,_,rfl⟩,?_,?_,λc ob n e=>?_⟩
    ·rw[tk,zes _ (ch.none nx)]
     rw[zes _ (ch.none nx)] at up
     exact(ch2.mono up).snoc (wm2.mono up)
    ·rw[zd λz=>by rw[z,hl2] at hd2;cases hd2]
     exact hd2
    ·have nl:c≠l:=zg (sd e n) hl
     rw[zd nl]
     exact kd c ob n e
  ·rintro l ys σ' H1 hl ⟨_,ch,hd1,k1⟩ hl1
   rw[List.take_length] at ch
   have ew:(As.map λa=>(a.nm,(st a.nm).1))=hs.map λx=>(x,(st x).1):=by rw[←A0.ns,List.map_map];rfl
   rw[ew] at ch
   refine⟨d,o,_,hd1,λo' u' z=>?_,q l ys _ ?_ (ch.mono λc xs e=>?_) λc ob e=>?_⟩
   ·have z:H d=some (.frz o' u'):=z
    rw[A0.hd] at z;cases z
   ·rw[zd λz=>by rw[z,hd1] at hl1;cases hl1];exact hl1
   ·rw[zd λz=>by rw[z,hd1] at e;cases e];exact e
   ·by_cases z:c=d
    ·rw[z,zb,←A0.hd,←z];exact e
    ·rw[zd z];exact k1 c ob z e
noncomputable def znd(st:Str->S3)(nm:Str)(s:S3):Str->S3:=λx=>if x=nm then s else st x
theorem ztc{nm:Str}{hd td g d:Addr}{n:Int}{C' dx dx':Addr}(h:(HO.ins C dx (zcG v nm hd td g n))= .ins C' dx' (zhg v' d wl)):False:=by
 injection h with _ _ h
 have:=Z2 List.length h
 exact absurd (show(6:Nat)=3 from this) ⋯
section
variable{CR:Addr}{d:Addr}{As:List HA}{st:Str->S3}{R:RdL}
theorem RnAt.wait(A0:RnAt C CR hs H rp dr d wl v As st us R){R':RdL}(h:RdO H us' R'):RnAt C CR hs (upd H wl (.lst us')) rp dr d wl v As st us' R':=by
 have m:∀c xs,H c=some (.tup xs)->upd H wl (.lst us') c=some (.tup xs):=λc xs e=>by rw[zd (zy e A0.hw (λz=>nomatch z))];exact e
 exact⟨by rw[zd (zy A0.hr A0.hw (λz=>nomatch z))];exact A0.hr,by rw[zd (zy A0.hd A0.hw (λz=>nomatch z))];exact A0.hd,zb,h.mono m,A0.ha.hold m λc hc o e=>by rw[zd (a:=wl) (b:=c) λz=>zh9 A0.ha A0.hw (by rw[←z];exact hc)];exact e,A0.ns,A0.sep⟩
theorem RnAt.hear(A0:RnAt C CR hs H rp dr d wl v As st us R)(nd:hs.Nodup){a:HA}(ha:a∈As){s':S3}(B1:HsE C hs H1 v a s')(k1:∀c o,c≠a.p->c≠a.hd->c≠a.td->H c=some o->H1 c=some o):
 RnAt C CR hs H1 rp dr d wl v As (znd st a.nm s') us R/\∀c o,c∉zct As->H c=some o->H1 c=some o:=by
 obtain⟨ga,n,kh,kt,B0⟩:=A0.ha a ha
 have na:∀c,c∉adr a->c≠a.p/\c≠a.hd/\c≠a.td:=λc hc=>⟨λz=>hc (by simp[adr,z]),λz=>hc (by simp[adr,z]),λz=>hc (by simp[adr,z])⟩
 have k2:∀c o,c∉adr a->H c=some o->H1 c=some o:=λc o hc e=>k1 c o (na c hc).1 (na c hc).2.1 (na c hc).2.2 e
 have m:∀c xs,H c=some (.tup xs)->H1 c=some (.tup xs):=λc xs e=>k1 c _ (zy e B0.hp (λz=>nomatch z)) (zy e B0.hh (λz=>nomatch z)) (zy e B0.ht (λz=>nomatch z)) e
 have sd:d∉adr a:=λz=>(U2.mp A0.sep).1 (List.mem_flatMap.mpr ⟨a,ha,z⟩)
 refine⟨⟨?_,k2 _ _ sd A0.hd,k1 _ _ (zy A0.hw B0.hp (λz=>nomatch z)) (zy A0.hw B0.hh (λz=>nomatch z)) (zy A0.hw B0.ht (λz=>nomatch z)) A0.hw,A0.rd.mono m,λb hb=>?_,A0.ns,A0.sep⟩,λc o hc e=>k2 c o (λz=>hc (List.mem_flatMap.mpr ⟨a,ha,z⟩)) e⟩
 ·refine k1 _ _ (λz=>?_) (zy A0.hr B0.hh (λz=>nomatch z)) (zy A0.hr B0.ht (λz=>nomatch z)) A0.hr
  have:=A0.hr
  rw[z,B0.hp] at this
  exact ztc (U1 this)
 ·by_cases e:b.nm=a.nm
  ·have:=zrI A0.ns nd hb ha e
   subst this
   show HsE C hs H1 v b (if b.nm=b.nm then s' else _)
   rw[R0 rfl]
   exact B1
  ·show HsE C hs H1 v b (if b.nm=a.nm then s' else st b.nm)
   rw[N0 e]
   exact(A0.ha b hb).hold m λc hc o e'=>k2 c o (zrF (U2.mp A0.sep).2 hb ha (λz=>e (by rw[z])) hc) e'
end
noncomputable def zjw(er:Bool)(C CR:Addr):Sp:=λvs H Q _=>∃(g:Str) (hs:List Str) (ps:List (Str×Str)) (lks hds:List D) (O:List Str) (rp dr d wl:Addr) (v:V) (As:List HA) (st:Str->S3) (us:List V) (R:RdL) (k:Nat) (e:Str×Lt),vs=[.ref rp, .int (k:Int)]/\RnAt C CR hs H rp dr d wl v As st us R/\Tn g hs ps lks hds O/\Rep H v (zaq g hs ps lks hds)/\(∀x∈hs,SOk g hs ps lks hds O x (st x))/\RdR hs O R/\R.length<=800/\R[k]?=some e/\
 ∀(s':S3) (L:List Lt) (us':List V) (H':Hp),HearR hs ps hds e.2.1 (st e.2.1) e.1 e.2.2 s' L->SOk g hs ps lks hds O e.2.1 s'->RdR hs O (L.map λl=>(e.2.1,l))->RnAt C CR hs H' rp dr d wl v As (znd st e.2.1 s') us' ((if er=true then R.eraseIdx k else R)++L.map λl=>(e.2.1,l))->(∀c o,c≠wl->c∉zct As->H c=some o->H' c=some o)->Q .non H'
theorem zma(Y:Ev K mg):FnOk P w K mg base CX0 10 Y.a_Run_come Y.d_Run_come za8 (zjw true Y.c_House Y.c_Run):=by
 have G_at_place:FnOk P w K mg base CX0 3 Y.a_at_place Y.d_at_place zb1 zha:=zkd Y
 have G_House_hear:FnOk P w K mg base CX0 9 Y.a_House_hear Y.d_House_hear zbK (ziV Y.c_House):=zmh Y
 refine Y.Run_come.fn.okQ zcL (λvs H Q E h=>?_) `X3
 ·obtain ⟨g,hs,ps,lks,hds,O,rp,dr,d,wl,v,As,st,us,R,k,e,rfl,_⟩:=h;rfl
 ·obtain ⟨g,hs,ps,lks,hds,O,rp,dr,d,wl,v,As,st,us,R,k,⟨one,nm,r⟩,rfl,A0,N,hv,hst,hR,l8,he,q⟩:=h
  obtain⟨lv,ev,lt⟩:=A0.rd.get he
  have h3:=hR _ (D1 he)
  have lu:=A0.rd.1
  have hk:=(X1.mp he).1
  refine⟨_,(zf (zu 2 zcL.nd (zk G_at_place `U3 Y.at_place.mg Y.at_place.kp Y.at_place.b .nil zm (za (zJ (qv 0)) (za (qv 1) zc))))
   (zf (zaK (zg4 F.plainAttrs_list F.slot_list_pop F.type_list_pop znk (zJ (qv 0)) (za (qv 1) zc)))
   (zi (zaK (zg4 F.plainAttrs_list F.slot_list_extend F.type_list_extend zhp (zJ (qv 0)) (za (zb4 (zkI (hu1 hr) (zJ (qv 0)) (zaa zY (qv 2) zh)) Y.k_House Y.House_hear.m G_House_hear `U3 Y.House_hear.b .nil zm (za (qv 2) zc)) zc)))))),?_⟩
  refine⟨_,rfl,rp,_,dr,_,_,rfl,A0.hr,Y.k_Run,Y.n_Run_waiting,zbA,_,rfl,wl,k,us,lv,rfl,A0.hw,(),ev,?_⟩
  refine⟨_,rfl,rp,_,dr,_,_,rfl,A0.hr,Y.k_Run,Y.n_Run_waiting,zbA, .inl ⟨rfl,_,SqL.of A0.hw⟩,_,rfl,wl,us,_,k,lv,rfl,rfl,A0.hw,(),(),?_,ev,?_⟩
  ·have:=StrLaws.seqIndex_nonneg (i:=(k:Int)) (n:=us.length) () ();rw[Int.toNat_natCast] at this;exact this
  have A1:=A0.wait (A0.rd.erase k)
  have f1:∀c o,c≠wl->H c=some o->upd H wl (.lst (us.eraseIdx k)) c=some o:=λc o n e=>by rw[zd n];exact e
  generalize upd H wl (.lst (us.eraseIdx k))=H1 at *
  have m1:∀c xs,H c=some (.tup xs)->H1 c=some (.tup xs):=λc xs e=>f1 _ _ (zy e A0.hw (λz=>nomatch z)) e
  have lt1:=lt.mono m1
  obtain⟨t,x,y,rfl,ht,wm⟩:=lt1
  obtain⟨a,ha,en,eva⟩:=zh3 A1.ns h3.2.1
  have hna:a.nm=nm:=en
  obtain⟨ga,n,kh,kt,B⟩:=A1.ha a ha
  rw[hna] at B
  obtain⟨L0,I0⟩:=(hst nm h3.2.1).hi
  refine⟨_,rfl,rp,_,dr,_,_,rfl,A1.hr,Y.k_Run,Y.n_Run_waiting,zbA, .inl ⟨rfl,_,SqL.of A1.hw⟩,?_⟩
  refine⟨_,rfl,rp,_,dr,_,_,rfl,A1.hr,Y.k_Run,Y.n_Run_people,zcA,_,rfl,t,_,1,_,rfl,rfl, .inl (.inl ht),zT (j:=1) rfl,d,_,rfl,dgk A1.hd eva,a.p,a.dx,_,rfl,B.hp,rfl,_,rfl,?_⟩
  refine⟨a.p,a.dx,a.hd,a.td,ga,v,_,nm,one,r,n,_,kh,kt,_,_,L0,g,hs,ps,lks,hds,rfl,⟨t,x,y,rfl,ht,wm⟩,h3.1,h3.2.2.hr N,B,I0,zak hv N.T m1,N.T,N.hf,h3.2.1,λl ga' us2 n' b' kh' kt' tm' L H2 hl0 hl2 R2 B2 I2 k2 lL ee=>?_⟩
  have hh:HearR hs ps hds nm (st nm) one r (b',zdU (st nm).2.1 (one,r),tm') L:=⟨rfl,lL,ee⟩
  obtain⟨so,rl⟩:=zlY N h3.2.1 (hst nm h3.2.1) h3.2.2 hh I2
  obtain⟨A2,f2⟩:=A1.hear N.T.hs_nd ha (s':=(b',zdU (st nm).2.1 (one,r),tm')) ⟨ga',n',kh',kt',by rw[hna];exact B2⟩ k2
  rw[hna] at A2
  have lk:=R2.len
  refine⟨wl,l,_,us2,rfl,rfl,A2.hw,hl2,Nat.le_of_lt (zo (by rw[List.length_eraseIdx];split<;>lia)),?_⟩
  refine q (b',zdU (st nm).2.1 (one,r),tm') L _ _ hh so rl (A2.wait (A2.rd.app (RdO.lts R2))) λc o n1 n2 e=>?_
  rw[zd n1]
  exact f2 c o n2 (f1 c o n1 e)
noncomputable def s0:S3:=(none,[],[])
noncomputable def znA(g x:Str):Option WM:=if x=g then some ([x],[])else none
noncomputable def zfM(g:Str)(hs:List Str)(ps:List (Str×Str))(hds:List D)(x:Str):S3:=(znA g x,[],zbm (zp hs hds x) (znA g x) [] (due hs ps x))
noncomputable def zpO(g:Str)(hs:List Str)(ps:List (Str×Str))(hds:List D)(x:Str):RdL:=(za2 (zp hs hds x) (znA g x) [] (due hs ps x)).map λl=>(x,l)
noncomputable def stB(g:Str)(hs:List Str)(ps:List (Str×Str))(hds:List D)(xs:List Str)(x:Str):S3:=if x∈xs then zfM g hs ps hds x else s0
noncomputable def rdB(g:Str)(hs:List Str)(ps:List (Str×Str))(hds:List D)(xs:List Str):RdL:=xs.flatMap (zpO g hs ps hds)
theorem ziG{g:Str}{hs:List Str}{ps:List (Str×Str)}{hds:List D}(h:hs.length<=10):∀xs:List Str,(rdB g hs ps hds xs).length<=10*xs.length
 |[]=>W1 _
 |x::xs=>by
  have h1:=ziG (g:=g) (ps:=ps) (hds:=hds) h xs
  have h2:(zpO g hs ps hds x).length<=10:=by
   unfold zpO
   rw[D0]
   exact V1 zdc (V1 (List.length_filter_le _ _) h)
  unfold rdB at h1⊢
  rw[List.flatMap_cons,F1,J1]
  lia
theorem zoW{xs:List Str}:znd (stB g hs ps hds xs) x (zfM g hs ps hds x)=stB g hs ps hds (xs ++ [x]):=by
 funext y
 unfold znd stB
 by_cases c:y=x
 ·rw[R0 c,c,R0 `Z3]
 ·rw[N0 c]
  by_cases d:y∈xs
  ·rw[R0 d,R0 (List.mem_append_left _ d)]
  ·rw[N0 d,N0 λz=>(Q2.mp z).elim d λz=>c (C2.mp z)]
theorem HsAll.congr{As:List HA}{st st':Str->S3}(h:HsAll C hs H v As st)(e:∀a∈As,st' a.nm=st a.nm):HsAll C hs H v As st':=λa ha=>by rw[e a ha];exact h a ha
theorem zsI{nm:Str}{b:Option WM}{tm:Tb}{L:List Lt}(i:HInv g nm (zp hs lks nm) (zp hs hds nm) (due hs ps nm) b [] tm L):b=znA g nm:=by
 unfold znA
 by_cases c:nm=g
 ·rw[R0 c,i.goal c]
 ·rw[N0 c]
  exact zmK (λ_=>Iff.rfl) (λe he=>by cases(show e∈([]:List WM)from he)) (i.best c) (rfl:zgK (zp hs lks nm) (zbU nm (zp hs lks nm) []) none)
theorem zrS{nm:Str}(hn:nm∈hs){L:List Lt}(i:HInv g nm (zp hs lks nm) (zp hs hds nm) (due hs ps nm) (zfM g hs ps hds nm).1 [] (zfM g hs ps hds nm).2.2 L):SOk g hs ps lks hds O nm (zfM g hs ps hds nm):=
 ⟨⟨_,i⟩,zjR hn i λ_ z=>(nomatch z),λ_ z=>(nomatch z),List.nodup_nil⟩
theorem zoc(N:Tn g hs ps lks hds O){xs:List Str}(h:∀x∈xs,x∈hs/\SOk g hs ps lks hds O x (zfM g hs ps hds x)):RdR hs O (rdB g hs ps hds xs):=λe he=>by
 obtain⟨x,hx,he⟩:=List.mem_flatMap.mp he
 exact zi3 N (h x hx).1 (h x hx).2.b e he
structure NwA(C:Addr)(hs:List Str)(H H':Hp)(v:V)(As:List HA)(xs:List Str):Prop where
 ns:As.map (·.nm)=xs
 al:HsAll C hs H' v As λ_=>s0
 nd:(zct As).Nodup
 nw:∀c∈zct As,H c=none
 sm:Same H H'
theorem ze5{As:List HA}{a:HA}:zct (As ++ [a])=zct As ++adr a:=by unfold zct;rw[List.flatMap_append];simp
theorem NwA.one{H4:Hp}{As:List HA}{xs:List Str}{p dx hd td e:Addr}{nm:Str}(N:NwA C hs H H3 v As xs)(np:H3 p=none)(ndx:H3 dx=none)
 (f1:upd (upd H3 dx (.own p)) p (.ins C dx []) hd=none) (f2:upd (upd H3 dx (.own p)) p (.ins C dx []) td=none) (nht:hd≠td) (hp4:H4 p=some (.ins C dx (zcG v nm hd td ga 0))) (hh4:H4 hd=some (.dK [])) (ht4:H4 td=some (.dK [])) (hg4:H4 ga=some (.tup [.non, .ref e])) (he4:H4 e=some (.tup []))
 (k4:Keep p (upd (upd H3 dx (.own p)) p (.ins C dx [])) H4):NwA C hs H H4 v (As ++ [⟨nm,p,dx,hd,td⟩]) (xs ++ [nm])/\Same H3 H4:=by
 have ndp:∀{c o},H3 c=some o->c≠p:=λ{c o} e=>zg e np
 have u34:Same H3 (upd (upd H3 dx (.own p)) p (.ins C dx [])):=λc o e=>by rw[zd (ndp e),zd (zg e ndx)];exact e
 have s34:Same H3 H4:=λc o e=>k4 c o (ndp e) (u34 c o e)
 have hd0:H3 hd=none:=u34.free f1
 have td0:H3 td=none:=u34.free f2
 have A4:HsAt C hs H4 p dx hd td ga v nm 0 none [] [] [] []:=⟨hp4,hh4, .nil, .nil,ht4, .nil, .nil,⟨.non, .ref e,hg4,rfl,e,rfl,he4⟩,trivial,nht⟩
 have free3:∀c∈adr ⟨nm,p,dx,hd,td⟩,H3 c=none:=λc hc=>by
  simp only[adr,X0,E2,or_false] at hc
  rcases hc with rfl|rfl|rfl
  ·exact np
  ·exact hd0
  ·exact td0
 refine⟨⟨by rw[List.map_append,N.ns];rfl,λa ha=>?_,?_,λc hc=>?_,N.sm.trans s34⟩,s34⟩
 ·rcases Q2.mp ha with ha|ha
  ·exact (N.al.same s34) a ha
  ·rw[C2.mp ha]
   exact⟨ga,0,[],[],A4⟩
 ·rw[ze5,List.nodup_append]
  refine⟨N.nd,?_,λc hc c' hc' ee=>?_⟩
  ·have n1:p≠hd:=zy hp4 hh4 (λz=>nomatch z)
   have n2:p≠td:=zy hp4 ht4 (λz=>nomatch z)
   simp[adr,n1,n2,nht]
  ·obtain ⟨o,ho⟩:=znm N.al hc
   rw[ee,free3 c' hc'] at ho
   cases ho
 ·rw[ze5] at hc
  rcases Q2.mp hc with hc|hc
  ·exact N.nw c hc
  ·exact N.sm.free (free3 c hc)
theorem NwA.put{As:List HA}{xs:List Str}{o:HO}(N:NwA C hs H H3 v As xs)(hl:H l=none)(hl3:H3 l=some o)(nt:∀z,o≠ .tup z)(na:l∉zct As):NwA C hs H (upd H3 l o') v As xs:=
 ⟨N.ns,N.al.hold (λc xs e=>by rw[zd λz=>by rw[z,hl3] at e;cases e;exact nt _ rfl];exact e) λc hc ob e=>by rw[zd λz=>na (by rw[←z];exact hc)];exact e,N.nd,N.nw,λc ob e=>by rw[zd (zg e hl)];exact N.sm c ob e⟩
theorem zoy{As:List HA}{a:HA}:ppl (As ++ [a])=ppl As ++ [(Sum.inr a.nm, .ref a.p)]:=by unfold ppl;rw[List.map_append];rfl
theorem zn7{As:List HA}(h:x∉As.map (·.nm)):zaA (ppl As) (Sum.inr x)=none:=by
 induction As with
 |nil=>rfl
 |cons a As ih=>
  rw[Z1,X0,not_or] at h
  show zaA ((Sum.inr a.nm, .ref a.p)::ppl As) (Sum.inr x)=none
  rw[zbk (λz=>h.1 (by injection z with z;exact z.symm))]
  exact ih h.2
theorem zjt(nd:hs.Nodup)(h:hs[i]?=some x):x∉hs.take i:=λz=>by
 obtain⟨j,hj,ej⟩:=K2 z
 rw[J2] at hj
 rw[List.getElem_take] at ej
 have:=zbQ nd (show hs[j]?=some x by rw[F0 (),ej]) h
 lia
noncomputable def zlo(C CR:Addr):Sp:=λvs H Q _=>∃(g:Str) (hs:List Str) (ps:List (Str×Str)) (lks hds:List D) (O:List Str) (rp dr:Addr) (v:V),vs=[.ref rp,v]/\H rp=some (.ins CR dr [])/\Tn g hs ps lks hds O/\Rep H v (zaq g hs ps lks hds)/\
 ∀(d wl:Addr) (As:List HA) (us:List V) (H':Hp),RnAt C CR hs H' rp dr d wl v As (zfM g hs ps hds) us (rdB g hs ps hds hs)->(∀x∈hs,SOk g hs ps lks hds O x (zfM g hs ps hds x))->H wl=none->H d=none->(∀c∈zct As,H c=none)->Keep rp H H'->Q .non H'
theorem znX(Y:Ev K mg):FnOk P w K mg base CX0 9 Y.a_Run___init__ Y.d_Run___init__ zaU (zlo Y.c_House Y.c_Run):=by
 have G_House___init__:FnOk P w K mg base CX0 1 Y.a_House___init__ Y.d_House___init__ zax (zjS Y.c_House):=zmJ Y
 have G_House_begin:FnOk P w K mg base CX0 8 Y.a_House_begin Y.d_House_begin zbh (zhb Y.c_House):=zk1 Y
 refine Y.Run___init__.fn.okQ zdh (λvs H Q E h=>?_) `X3
 ·obtain ⟨g,hs,ps,lks,hds,O,rp,dr,v,rfl,_⟩:=h;rfl
 ·obtain ⟨g,hs,ps,lks,hds,O,rp,dr,v,rfl,hrp,N,hv,q⟩:=h
  have T10:=N.T.ten
  refine⟨_,(zf (zdQ (qv 0) (qc 1))
   (zf (zdQ (qv 0) (zfL (src:=[none,some 1]) zcy rfl rfl (zdP (zaa zY (qc 1) zh)) (λ_ _ _ _ _=>(zn 0 zcy.nd)) (λ_ _ _ _ _=>zek) (λ_ _ _ _ _=>(qv 0)) (λ_ _ _ _ _=>(znf Y.mk_House G_House___init__ `U3 Y.m_House Y.House___init__.b .nil zm (za (qc 1) (za (qv 0) zc))))))
   (zf (zdQ (qv 0) (zcj zc))
   (zi (zci PassesOwn.never rfl (zdP (zaa zY (qc 1) zh)) (zn 2 zdh.nd) (zi (zaK (zg4 F.plainAttrs_list F.slot_list_extend F.type_list_extend zhp (zJ (qv 0)) (za (zaC (zkI (hu1 hr) (zJ (qv 0)) (qv 2)) Y.k_House Y.House_begin.m G_House_begin `U3 Y.House_begin.b .nil zm) zc))))))))),?_⟩
  refine⟨_,rfl,_,rfl,rp,_,dr,[],rfl,hrp,Y.k_Run,Y.n_Run_place,(by decide:0<1000),?_⟩
  have k1:Keep rp H (upd H rp (.ins Y.c_Run dr (zad "place" v []))):=Keep.upd _ _ _
  have r1:upd H rp (.ins Y.c_Run dr (zad "place" v [])) rp=some (.ins Y.c_Run dr [("place",v)]):=zb
  generalize upd H rp (.ins Y.c_Run dr (zad "place" v []))=H1 at *
  have m1:∀c xs,H c=some (.tup xs)->H1 c=some (.tup xs):=λc xs e=>k1 _ _ (zy e hrp (λz=>nomatch z)) e
  have hv1:=zak hv N.T m1
  obtain⟨p,pr,pt,pl,pa,vt,vl,va,rfl,hp,hpr,hpt,rt,hpl,rl,hpa,ra⟩:=zeI hv1
  refine⟨_,rfl,p,_,1,_,rfl,rfl, .inl (.inl hp),at1,pr,rfl,⟨_, .inl (.inl hpr)⟩,?_⟩
  refine zl8 (zcv (K:=K) (xs:=hs.map V.str)) (λl i ys σ' H'=>(∃o1,σ'=[o1,some (.ref p)])/\∃As,ys=ppl As/\l∉zct As/\NwA Y.c_House hs H1 H' (.ref p) As (hs.take i)) ?_ ?_ ?_ ?_
  ·exact λl hl=>⟨⟨_,rfl⟩,[],rfl,(λz=>nomatch z),rfl,(λ_ z=>nomatch z),List.nodup_nil,(λ_ z=>nomatch z),Same.new hl⟩
  ·exact λl i ys σ' H' hl ⟨_,As,_,_,Nw⟩=> .inl (.inl (Nw.sm _ _ hpr))
  ·rintro l i x ys σ' H3 hl hi hx ⟨⟨o1,rfl⟩,As,rfl,nl,Nw⟩ hl3
   rw[D0] at hi
   have ei:hs[i]?=some hs[i]:=F0 hi
   have ex:x= .str hs[i]:=by rw[U0,ei] at hx;cases hx;rfl
   subst ex
   have tk:hs.take (i+1)=hs.take i ++ [hs[i]]:=by rw[List.take_add_one,ei];rfl
   have nx:=zjt N.T.hs_nd ei
   generalize hs[i]=nm at *
   refine⟨_,rfl,_,rfl,_,rfl,λp4 dx np ndx nex=>⟨p4,dx, .ref p,nm,rfl,zb,λhd td ga e H4 f1 f2 f3 f4 nht hp4 hh4 ht4 hg4 he4 k4=>⟨rfl,?_⟩⟩⟩
   obtain⟨Nw4,s34⟩:=Nw.one (nm:=nm) np ndx f1 f2 nht hp4 hh4 ht4 hg4 he4 k4
   have hl4:=s34 _ _ hl3
   have nl4:l∉zct (As ++ [⟨nm,p4,dx,hd,td⟩]):=λz=>by
    rw[ze5] at z
    rcases Q2.mp z with z|z
    ·exact nl z
    ·simp only[adr,X0,E2,or_false] at z
     have u34:Same H3 (upd (upd H3 dx (.own p4)) p4 (.ins Y.c_House dx [])):=λc o e=>by rw[zd (zg e np),zd (zg e ndx)];exact e
     rcases z with z|z|z
     ·rw[←z,hl3] at np;cases np
     ·rw[←z,u34 _ _ hl3] at f1;cases f1
     ·rw[←z,u34 _ _ hl3] at f2;cases f2
   have la:As.length<=10:=by have:=Z2 List.length Nw.ns;rw[D0,J2] at this;lia
   refine⟨Sum.inr nm,rfl,hl4,zo (by unfold ppl;rw[D0];lia),⟨_,rfl⟩,_,?_,nl4,?_⟩
   ·rw[zes _ (zn7 (by rw[Nw.ns];exact nx)),zoy]
   ·rw[tk]
    exact Nw4.put hl hl4 (λz y=>nomatch y) nl4
  rintro d ys σ' H3 hd0 ⟨_,As,rfl,nl,Nw⟩ hd3
  rw[show hs.take (hs.map V.str).length=hs by rw[D0];exact List.take_length] at Nw
  have nr:rp∉zct As:=λz=>by have:=Nw.nw _ z;rw[r1] at this;cases this
  have hr3:=Nw.sm _ _ r1
  refine⟨_,rfl,rp,_,dr,_,rfl,hr3,Y.k_Run,Y.n_Run_people,(by decide:1<1000),?_⟩
  have k4:Keep rp H3 (upd H3 rp (.ins Y.c_Run dr (zad "people" (.ref d) [("place", .ref p)]))):=Keep.upd _ _ _
  have r4:upd H3 rp (.ins Y.c_Run dr (zad "people" (.ref d) [("place", .ref p)])) rp=some (.ins Y.c_Run dr [("place", .ref p),("people", .ref d)]):=zb
  generalize upd H3 rp (.ins Y.c_Run dr (zad "people" (.ref d) [("place", .ref p)]))=H4 at *
  refine⟨few rfl,λwl hwl=>⟨_,rfl,rp,_,dr,_,rfl,Same.new hwl _ _ r4,Y.k_Run,Y.n_Run_waiting,(by decide:2<1000),?_⟩⟩
  have nwr:wl≠rp:=λz=>by rw[z,r4] at hwl;cases hwl
  have r5:upd (upd H4 wl (.lst [])) rp (.ins Y.c_Run dr (zad "waiting" (.ref wl) [("place", .ref p),("people", .ref d)])) rp=some (.ins Y.c_Run dr (zhg (.ref p) d wl)):=zb
  have w5:upd (upd H4 wl (.lst [])) rp (.ins Y.c_Run dr (zad "waiting" (.ref wl) [("place", .ref p),("people", .ref d)])) wl=some (.lst []):=by rw[zd nwr];exact zb
  have k5:∀c o,c≠rp->H3 c=some o->upd (upd H4 wl (.lst [])) rp (.ins Y.c_Run dr (zad "waiting" (.ref wl) [("place", .ref p),("people", .ref d)])) c=some o:=λc o n e=>by
   have e4:=k4 c o n e
   rw[zd n,zd (zg e4 hwl)];exact e4
  generalize upd (upd H4 wl (.lst [])) rp (.ins Y.c_Run dr (zad "waiting" (.ref wl) [("place", .ref p),("people", .ref d)]))=H5 at *
  have m5:∀c xs,H3 c=some (.tup xs)->H5 c=some (.tup xs):=λc xs e=>k5 c _ (zy e hr3 (λz=>nomatch z)) e
  have hd5:=k5 d _ (zy hd3 hr3 (λz=>nomatch z)) hd3
  have A5:RnAt Y.c_House Y.c_Run hs H5 rp dr d wl (.ref p) As (stB g hs ps hds []) [] (rdB g hs ps hds []):=⟨r5,hd5,w5, .nil,(Nw.al.hold m5 λc hc o e=>k5 c o (λz=>nr (by rw[←z];exact hc)) e).congr λa _=>rfl,Nw.ns,U2.mpr ⟨nl,Nw.nd⟩⟩
  have m15:∀c xs,H1 c=some (.tup xs)->H5 c=some (.tup xs):=λc xs e=>m5 _ _ (Nw.sm _ _ e)
  refine⟨_,rfl,p,_,1,_,rfl,rfl, .inl (.inl (m15 _ _ hp)),at1,pr,rfl,⟨_, .inl (.inl (m15 _ _ hpr))⟩,?_⟩
  have ntw:∀{c xs},H5 c=some (.tup xs)->c≠wl:=λ{c xs} e=>zy e w5 (λz=>nomatch z)
  refine zaZ (zcv (K:=K) (xs:=hs.map V.str)) (λi σ' H'=>(∃o2,σ'=[some (.ref rp),some (.ref p),o2])/\(∃us,RnAt Y.c_House Y.c_Run hs H' rp dr d wl (.ref p) As (stB g hs ps hds (hs.take i)) us (rdB g hs ps hds (hs.take i)))/\(∀x∈hs.take i,SOk g hs ps lks hds O x (zfM g hs ps hds x))/\∀c o,c≠wl->c∉zct As->H5 c=some o->H' c=some o) ?_ ?_ ?_ ?_
  ·exact ⟨⟨_,rfl⟩,⟨[],A5⟩,(λ_ z=>nomatch z),λc o _ _ e=>e⟩
  ·exact λi σ' H' z=> .inl (.inl (z.2.2.2 _ _ (ntw (m15 _ _ hpr)) (zhP A5.ha (m15 _ _ hpr)) (m15 _ _ hpr)))
  ·rintro i y σ' H6 hi hy ⟨⟨o2,rfl⟩,⟨us,A6⟩,so6,k6⟩
   rw[D0] at hi
   have ei:hs[i]?=some hs[i]:=F0 hi
   have ex:y= .str hs[i]:=by rw[U0,ei] at hy;cases hy;rfl
   subst ex
   have tk:hs.take (i+1)=hs.take i ++ [hs[i]]:=by rw[List.take_add_one,ei];rfl
   have nx:=zjt N.T.hs_nd ei
   have hnm:=List.getElem_mem hi
   generalize hs[i]=nm at *
   obtain⟨a,ha,en,eva⟩:=zh3 A6.ns hnm
   obtain⟨ga,n,kh,kt,B⟩:=A6.ha a ha
   rw[en,show stB g hs ps hds (hs.take i) nm=s0 from N0 nx] at B
   cases B.th
   cases B.tt
   have m56:∀c xs,H5 c=some (.tup xs)->H6 c=some (.tup xs):=λc xs e=>k6 _ _ (ntw e) (zhP A5.ha e) e
   have lR:=ziG (g:=g) (ps:=ps) (hds:=hds) T10 (hs.take i)
   rw[J2] at lR
   have lu:=A6.rd.1
   refine⟨_,rfl,rp,_,dr,_,_,rfl,A6.hr,Y.k_Run,Y.n_Run_waiting,zbA, .inl ⟨rfl,_,SqL.of A6.hw⟩,?_⟩
   refine⟨_,rfl,rp,_,dr,_,_,rfl,A6.hr,Y.k_Run,Y.n_Run_people,zcA,_,rfl,d,_,rfl,dgk A6.hd eva,a.p,a.dx,_,rfl,B.hp,rfl,?_⟩
   refine⟨a.p,a.dx,a.hd,a.td,ga, .ref p,nm,n,g,hs,ps,lks,hds,rfl,B,zak hv1 N.T λc xs e=>m56 _ _ (m15 _ _ e),N.T,N.hf,hnm,λl ga' us2 n' b' kt' tm' L H7 hl0 hl7 R7 B7 I7 k7 lL eL eT=>?_⟩
   have eb:=zsI I7
   subst eb
   subst eL
   subst eT
   obtain⟨A7,f7⟩:=A6.hear N.T.hs_nd ha (s':=zfM g hs ps hds nm) ⟨ga',n',_,kt',by rw[en];exact B7⟩ k7
   rw[en,zoW,←tk] at A7
   have lk:=R7.len
   refine⟨wl,l,us,us2,rfl,rfl,A7.hw,hl7,Nat.le_of_lt (zo ()),⟨_,rfl⟩,⟨us ++us2,?_⟩,λx hx=>?_,λc o n1 n2 e=>?_⟩
   ·have e2:rdB g hs ps hds (hs.take (i+1))=rdB g hs ps hds (hs.take i)++zpO g hs ps hds nm:=by rw[tk];unfold rdB;rw[List.flatMap_append];simp
    rw[e2]
    exact A7.wait (A7.rd.app (RdO.lts R7))
   ·rw[tk] at hx
    rcases Q2.mp hx with hx|hx
    ·exact so6 x hx
    ·rw[C2.mp hx];exact zrS hnm I7
   ·rw[zd n1]
    exact f7 c o n2 (k6 c o n1 n2 e)
  ·rintro σ' H6 ⟨_,⟨us,A6⟩,so6,k6⟩
   rw[show hs.take (hs.map V.str).length=hs by rw[D0];exact List.take_length] at A6 so6
   have back:∀c,H1 c=none->H c=none:=λc e=>by
    cases z:H c with
    |none=>rfl
    |some o=>
     by_cases y:c=rp
     ·rw[y,r1] at e;cases e
     ·rw[k1 c o y z] at e;cases e
   have nm1:∀{c o},H1 c=some o->c∉zct As:=λ{c o} e z=>by rw[Nw.nw c z] at e;cases e
   refine q d wl As us H6 ⟨A6.hr,A6.hd,A6.hw,A6.rd,A6.ha.congr λa ha=>?_,A6.ns,A6.sep⟩ so6 (back wl ?_) (back d hd0) (λc hc=>back c (Nw.nw c hc)) λc o n e=>?_
   ·exact (R0 (by rw[←A6.ns];exact y1.mpr ⟨a,ha,rfl⟩)).symm
   ·cases z:H1 wl with
    |none=>rfl
    |some o=>rw[k4 wl o nwr (Nw.sm _ _ z)] at hwl;cases hwl
   ·have e1:=k1 c o n e
    have e3:=Nw.sm _ _ e1
    exact k6 c o (λz=>by rw[z] at e3;rw[k4 wl o nwr e3] at hwl;cases hwl) (nm1 e1) (k5 c o n e3)
theorem zhT(Y:Ev K mg):FnOk P w K mg base CX0 1 Y.a_is_number Y.d_is_number zaJ (zqR zoT):=by
 refine Y.is_number.fn.okQ zfj (λvs H Q E h=>?_) `X3
 ·obtain ⟨v,d,rfl,_⟩:=h;rfl
 ·obtain ⟨v,d,rfl,hd,q⟩:=h
  obtain⟨t,ht,h1,h2,h3,h4⟩:=hd.isi (K:=K)
  have q:=q H (Same.refl H)
  refine⟨_,(zi (zt (ziY (zv zel Y.isinstance zac (za (qv 0) (za (zoi Y.int zeT) zc))) (zjf (zlz (zv zel Y.isinstance zac (za (qv 0) (za (zoi Y.bool zk3) zc)))))))),?_⟩
  refine⟨_,rfl,_,_,_,_,rfl,ht,h2,_,rfl,?_⟩
  refine zbP (λe=>?_) (λe=>?_)
  ·refine ⟨_,rfl,_,_,_,_,rfl,ht,h3,_,rfl,?_⟩
   cases d<;>first|exact q|cases e
  ·cases d<;>first|exact q|exact absurd rfl e
def zl4(d:D)(n:Nat):Prop:=∀k:Int,d= .int k->¬(0<=k/\k<=(n:Int) -1)
noncomputable def zjJ:Sp:=λvs H Q _=>∃v d,∃a b:Int,vs=[v, .int a, .int b]/\Rep H v d/\(∀k:Int,d= .int k->¬(a<=k/\k<=b))/\∀H',Same H H'->Q (.bl false) H'
theorem zmO(Y:Ev K mg):FnOk P w K mg base CX0 2 Y.a_is_whole Y.d_is_whole za5 zjJ:=by
 have G_is_number:FnOk P w K mg base CX0 1 Y.a_is_number Y.d_is_number zaJ (zqR zoT):=zhT Y
 refine Y.is_whole.fn.okQ zgB (λvs H Q E h=>?_) `X3
 ·obtain ⟨v,d,a,b,rfl,_⟩:=h;rfl
 ·obtain ⟨v,d,a,b,rfl,hd,hb,q⟩:=h
  refine⟨_,(zi (zt (ziY (zk G_is_number `U3 Y.is_number.mg Y.is_number.kp Y.is_number.b .nil zm (za (qv 0) zc)) (zjf (zlU zhh zhh (qv 1) (qv 0) (qv 2)))))),?_⟩
  refine⟨_,rfl,v,d,rfl,hd,λH1 s1=>⟨_,rfl,?_⟩⟩
  refine zbP (λe=>?_) (λe=>q H1 s1)
  cases hd with
  |int k=>
   refine⟨_,rfl,_,rfl,_,_,rfl,rfl,_,rfl,zbP (λh1=>?_) (λ_=>q H1 s1)⟩
   refine⟨_,rfl,_,_,rfl,rfl,?_⟩
   have h2:¬k<=b:=λz=>hb k rfl ⟨S0 h1,z⟩
   show Q (.bl (decide (k<=b))) H1
   rw[E1 h2]
   exact q H1 s1
  |_=>cases e
noncomputable def znL(NL:Addr):Sp:=λvs H _ E=>∃(l:Addr) (us:List V) (v:V) (d:D),vs=[.ref l,v]/\H l=some (.lst us)/\us.length<=1000/\Rep H v d/\zl4 d us.length/\∀H',Same H H'->E (.ref NL) none H'
theorem ze3(Y:Ev K mg):FnOk P w K mg base (CXe P w) 3 Y.a_at_place Y.d_at_place zb1 (znL Y.X_NoLetter):=by
 have G_is_whole:FnOk P w K mg base CX0 2 Y.a_is_whole Y.d_is_whole za5 zjJ:=zmO Y
 refine Y.at_place.fn.okX zfO (λvs H Q E h=>?_) (λcdv A outer s H vs Q E hr h z=>?_)
 ·obtain ⟨l,us,v,d,rfl,_⟩:=h;rfl
 ·obtain ⟨l,us,v,d,rfl,hl,l1,hd,hb,q⟩:=h
  refine⟨_,(zf (zap (zeB (zeD (zk G_is_whole `U3 Y.is_whole.mg Y.is_whole.kp Y.is_whole.b .nil zm (za (qv 1) (za zh (za (zB zhX (zv z8 Y.len zbw (za (qv 0) zc)) zh) zc)))))) (zi (zp2 z Y.m_NoLetter Y.e_NoLetter F.excBase_ValueError)) zX)
   (zi (zt (zaa zO (qv 0) (qv 1))))),?_⟩
  refine⟨_,rfl,_,rfl, .inl ⟨l,us,rfl, .inl (SqL.of hl),_,_,rfl,rfl,v,d,0,_,rfl,hd,hb,λH1 s1=>?_⟩⟩
  exact⟨false,rfl,zbW rfl (q H1 s1)⟩
noncomputable def zeb(C CR NL:Addr):Sp:=λvs H _ E=>∃(hs:List Str) (rp dr d wl:Addr) (v0:V) (As:List HA) (st:Str->S3) (us:List V) (R:RdL) (v:V) (dd:D),vs=[.ref rp,v]/\RnAt C CR hs H rp dr d wl v0 As st us R/\us.length<=1000/\Rep H v dd/\zl4 dd us.length/\∀H',Same H H'->E (.ref NL) none H'
theorem zoo(Y:Ev K mg):FnOk P w K mg base (CXe P w) 10 Y.a_Run_come Y.d_Run_come za8 (zeb Y.c_House Y.c_Run Y.X_NoLetter):=by
 refine Y.Run_come.fn.okX zcL (λvs H Q E h=>?_) (λcdv A outer s H vs Q E hr h z=>?_)
 ·obtain ⟨hs,rp,dr,d,wl,v0,As,st,us,R,v,dd,rfl,_⟩:=h;rfl
 ·obtain ⟨hs,rp,dr,d,wl,v0,As,st,us,R,v,dd,rfl,A0,l1,hd,hb,q⟩:=h
  refine⟨_,(zf (zu 2 zcL.nd (zk (ze3 Y) `U3 Y.at_place.mg Y.at_place.kp Y.at_place.b .nil z.pass (za (zJ (qv 0)) (za (qv 1) zc)))) (zf zdI (zi zdI))),?_⟩
  exact⟨_,rfl,rp,_,dr,_,_,rfl,A0.hr,Y.k_Run,Y.n_Run_waiting,zbA,_,rfl,wl,us,v,dd,rfl,A0.hw,l1,hd,hb,q⟩
theorem zn3(Y:Ev K mg):FnOk P w K mg base (CXe P w) 10 Y.a_Run_copy Y.d_Run_copy zcK (zeb Y.c_House Y.c_Run Y.X_NoLetter):=by
 refine Y.Run_copy.fn.okX zgs (λvs H Q E h=>?_) (λcdv A outer s H vs Q E hr h z=>?_)
 ·obtain ⟨hs,rp,dr,d,wl,v0,As,st,us,R,v,dd,rfl,_⟩:=h;rfl
 ·obtain ⟨hs,rp,dr,d,wl,v0,As,st,us,R,v,dd,rfl,A0,l1,hd,hb,q⟩:=h
  refine⟨_,(zf (zu 2 zgs.nd (zk (ze3 Y) `U3 Y.at_place.mg Y.at_place.kp Y.at_place.b .nil z.pass (za (zJ (qv 0)) (za (qv 1) zc)))) (zi zdI)),?_⟩
  exact⟨_,rfl,rp,_,dr,_,_,rfl,A0.hr,Y.k_Run,Y.n_Run_waiting,zbA,_,rfl,wl,us,v,dd,rfl,A0.hw,l1,hd,hb,q⟩
theorem zo0(Y:Ev K mg):FnOk P w K mg base (CXe P w) 10 Y.a_Run_lose Y.d_Run_lose zcV (zeb Y.c_House Y.c_Run Y.X_NoLetter):=by
 refine Y.Run_lose.fn.okX zgr (λvs H Q E h=>?_) (λcdv A outer s H vs Q E hr h z=>?_)
 ·obtain ⟨hs,rp,dr,d,wl,v0,As,st,us,R,v,dd,rfl,_⟩:=h;rfl
 ·obtain ⟨hs,rp,dr,d,wl,v0,As,st,us,R,v,dd,rfl,A0,l1,hd,hb,q⟩:=h
  refine⟨_,(zf (zu 2 zgr.nd (zk (ze3 Y) `U3 Y.at_place.mg Y.at_place.kp Y.at_place.b .nil z.pass (za (zJ (qv 0)) (za (qv 1) zc)))) (zf zdI (zi zdI))),?_⟩
  exact⟨_,rfl,rp,_,dr,_,_,rfl,A0.hr,Y.k_Run,Y.n_Run_waiting,zbA,_,rfl,wl,us,v,dd,rfl,A0.hw,l1,hd,hb,q⟩
theorem znE:W.kitOne K (.ref C) (.ref C)=some true:=by
 unfold W.kitOne
 rw[R0 (beq_self_eq_true _)]
theorem ztf{l:List α}(h:l.length=5):∃a b c d e,l=[a,b,c,d,e]:=by
 match l,h with
 |[a,b,c,d,e],_=>exact ⟨a,b,c,d,e,rfl⟩
noncomputable def zfr(C CR:Addr):Sp:=λvs H Q _=>∃(hs:List Str) (rp dr d wl:Addr) (v0:V) (As:List HA) (st:Str->S3) (us:List V) (R:RdL) (word:Str) (v:V) (dd:D),vs=[.ref rp, .str word,v]/\RnAt C CR hs H rp dr d wl v0 As st us R/\us.length<=1000/\Rep H v dd/\zl4 dd us.length/\∀H',Same H H'->Q (.bl true) H'
theorem ziD(Y:Ev K mg):FnOk P w K mg base CX0 11 Y.a__law_refused Y.d__law_refused zaO (zfr Y.c_House Y.c_Run):=by
 have GX_Run_come:FnOk P w K mg base (CXe P w) 10 Y.a_Run_come Y.d_Run_come za8 (zeb Y.c_House Y.c_Run Y.X_NoLetter):=zoo Y
 have GX_Run_copy:FnOk P w K mg base (CXe P w) 10 Y.a_Run_copy Y.d_Run_copy zcK (zeb Y.c_House Y.c_Run Y.X_NoLetter):=zn3 Y
 have GX_Run_lose:FnOk P w K mg base (CXe P w) 10 Y.a_Run_lose Y.d_Run_lose zcV (zeb Y.c_House Y.c_Run Y.X_NoLetter):=zo0 Y
 refine Y._law_refused.fn.okQ zaR (λvs H Q E h=>?_) `X3
 ·obtain ⟨hs,rp,dr,d,wl,v0,As,st,us,R,word,v,dd,rfl,_⟩:=h;rfl
 ·obtain ⟨hs,rp,dr,d,wl,v0,As,st,us,R,word,v,dd,rfl,A0,l1,hd,hb,q⟩:=h
  refine⟨_,(zf (zu 3 zaR.nd zc6)
   (zf (zsF (i:=4) (λ_ _=>(zi (zap (zL zau (qv 1) zai) (zi (zaK (zb4 (qv 0) Y.k_Run Y.Run_come.m GX_Run_come `U3 Y.Run_come.b .nil zgj (za (qv 2) zc)))) (zi (zap (zL zau (qv 1) zai) (zi (zaK (zb4 (qv 0) Y.k_Run Y.Run_copy.m GX_Run_copy `U3 Y.Run_copy.b .nil zgj (za (qv 2) zc)))) (zi (zaK (zb4 (qv 0) Y.k_Run Y.Run_lose.m GX_Run_lose `U3 Y.Run_lose.b .nil zgj (za (qv 2) zc))))))))) (λ_ _=>(zi (zu 3 zaR.nd (qv 4)))) rfl rfl zaR.nd rfl rfl Y.m_RestError Y.e_RestError ⋯)
   (zf (zap (t_w (zqr (zeB (zeD (zv zgk Y.isinstance zac (za (qv 3) (za (zcn (v:= .ref Y.X_NoLetter) Y.m_NoLetter rfl) zc))))) (zlb (zeB (zeD (zv zgk Y.isinstance zac (za (qv 3) (za (zoi Y.ValueError zgY) zc)))))))) (zi (zt zfz)) zX)
   (zi (zt (zlz (zv zgk Y.isinstance zac (za (qv 3) (za (zG (za (zcn (v:= .ref Y.X_Forged) Y.m_Forged rfl) (za (zcn (v:= .ref Y.X_HasRing) Y.m_HasRing rfl) (za (zcn (v:= .ref Y.X_Needed) Y.m_Needed rfl) (za (zcn (v:= .ref Y.X_NoDeed) Y.m_NoDeed rfl) (za (zcn (v:= .ref Y.X_NoRow) Y.m_NoRow rfl) (za (zcn (v:= .ref Y.X_NoText) Y.m_NoText rfl) (za (zcn (v:= .ref Y.X_TooMany) Y.m_TooMany rfl) zc)))))))) zc))))))))),?_⟩
  refine⟨λCv _ H1=>Cv= .ref Y.X_NoLetter/\Same H H1,?_,?_⟩
  ·have bad:∀Q1,zeb Y.c_House Y.c_Run Y.X_NoLetter [.ref rp,v] H Q1 (λCv _ H1=>Cv= .ref Y.X_NoLetter/\Same H H1):=λQ1=>
    ⟨hs,rp,dr,d,wl,v0,As,st,us,R,v,dd,rfl,A0,l1,hd,hb,λH' s'=>⟨rfl,s'⟩⟩
   refine⟨_,rfl,rfl,_,rfl,zbP (λ_=>?_) (λ_=>?_)⟩
   ·exact ⟨_,rfl,rp,dr,_,rfl,A0.hr,rfl,_,rfl,bad λ_ _=>True⟩
   ·refine ⟨_,rfl,rfl,_,rfl,zbP (λ_=>?_) (λ_=>?_)⟩
    ·exact ⟨_,rfl,rp,dr,_,rfl,A0.hr,rfl,_,rfl,bad λ_ _=>True⟩
    ·exact ⟨_,rfl,rp,dr,_,rfl,A0.hr,rfl,_,rfl,bad λ_ _=>True⟩
  ·rintro Cv o H1 ⟨rfl,s1⟩
   refine⟨_,rfl,Y.u_NoLetter_RestError,λσ' a hσ ha=>?_⟩
   obtain⟨o0,o1,o2,o3,o4,rfl⟩:=ztf hσ
   have e1:upd H1 a (.ext (ExcAt Y.X_NoLetter a)) a=some (.ext (ExcAt Y.X_NoLetter a)):=zb
   have s2:Same H (upd H1 a (.ext (ExcAt Y.X_NoLetter a))):=s1.trans (Same.new ha)
   generalize upd H1 a (.ext (ExcAt Y.X_NoLetter a))=H2 at *
   refine⟨_,rfl,?_⟩
   refine⟨_,rfl,a,Y.X_NoLetter,_,true,rfl,e1,Y.i_NoLetter, .inl ⟨_,rfl,znE⟩,true,rfl,zbG rfl ?_⟩
   refine⟨_,rfl,a,Y.X_NoLetter,_,true,rfl,e1,Y.i_NoLetter, .inr (.inl ⟨_,rfl,Y.k_NoLetter_ValueError⟩),true,rfl,zbG rfl ?_⟩
   refine⟨_,rfl,few rfl,λp hp=>?_⟩
   refine⟨a,Y.X_NoLetter,_,false,rfl,by rw[zd (zg e1 hp)];exact e1,Y.i_NoLetter, .inr (.inr ⟨p,[Y.X_Forged,Y.X_HasRing,Y.X_Needed,Y.X_NoDeed,Y.X_NoRow,Y.X_NoText,Y.X_TooMany],rfl,zb,Y.j_NoLetter⟩),false,rfl,?_⟩
   exact q _ (s2.trans (Same.new hp))
inductive TmE(H:Hp):List (Key×V)->List HA->Prop
 |nil:TmE H [] []
 |cons {a:HA} {n:Int} {kvs:List (Key×V)} {As:List HA} (h:∃C dx fs,H a.p=some (.ins C dx fs)/\fs.lookup ("times":Str)=some (.int n)) (t:TmE H kvs As):TmE H ((Sum.inr a.nm, .int n)::kvs) (a::As)
section
variable{As:List HA}
theorem TmE.snoc(h:TmE H kvs As){a:HA}{n:Int}(x:∃C dx fs,H a.p=some (.ins C dx fs)/\fs.lookup ("times":Str)=some (.int n)):TmE H (kvs ++ [(Sum.inr a.nm, .int n)]) (As ++ [a]):=by
 induction h with
 |nil=>exact .cons x .nil
 |cons h t ih=>exact .cons h ih
theorem TmE.none(h:TmE H kvs As){x:Str}(hx:x∉As.map (·.nm)):zaA kvs (Sum.inr x)=none:=by
 induction h with
 |nil=>rfl
 |cons h t ih=>
  rw[Z1,X0,not_or] at hx
  rw[zbk (λz=>hx.1 (by injection z with z;exact z.symm))]
  exact ih hx.2
theorem TmE.len(h:TmE H kvs As):kvs.length=As.length:=by
 induction h with
 |nil=>rfl
 |cons h t ih=>rw[J1,J1,ih]
theorem TmE.alk(s:Same H H')(h:TmE H kvs As):∀{kvs'},TmE H' kvs' As->Alk H2 kvs kvs':=by
 induction h with
 |nil=>intro kvs' h';cases h';exact .nil
 |cons h t ih=>
  intro kvs' h'
  cases h' with
  |cons h2 t2=>
   obtain⟨C,dx,fs,e1,e2⟩:=h
   obtain⟨C',dx',fs',e3,e4⟩:=h2
   have e5:=s _ _ e1
   rw[e5] at e3
   cases e3
   rw[e2] at e4
   cases e4
   exact .cons (.int _) (.int _) (by simp[PyData.depth]) (ih t2)
end
noncomputable def zfh(C CR:Addr):Sp:=λvs H Q _=>∃(hs:List Str) (rp dr d wl:Addr) (v:V) (As:List HA) (st:Str->S3) (us:List V) (R:RdL),vs=[.ref rp]/\RnAt C CR hs H rp dr d wl v As st us R/\hs.Nodup/\hs.length<=10/\∀l kvs H',H' l=some (.dK kvs)->TmE H kvs As->Same H H'->Q (.ref l) H'
theorem zic(Y:Ev K mg):FnOk P w K mg base CX0 1 Y.a_Run_changes Y.d_Run_changes zbf (zfh Y.c_House Y.c_Run):=by
 refine Y.Run_changes.fn.okQ zg5 (λvs H Q E h=>?_) `X3
 ·obtain ⟨hs,rp,dr,d,wl,v,As,st,us,R,rfl,_⟩:=h;rfl
 ·obtain ⟨hs,rp,dr,d,wl,v,As,st,us,R,rfl,A0,nd,l10,q⟩:=h
  refine⟨_,(zi (zt (zkE (zfL (src:=[none,none]) zbu rfl rfl (zjO (zJ (qv 0))) (λ_ _ _ _ _=>(zfR (K:=K) 2 rfl rfl (zr (zn 0 zbu.nd) (zr (zn 1 zbu.nd) zay)))) (λ_ _ _ _ _=>zek) (λ_ _ _ _ _=>(qv 0)) (λ_ _ _ _ _=>(zrD (K:=K) rfl (qv 1))))))),?_⟩
  refine⟨_,rfl,rp,_,dr,_,_,rfl,A0.hr,Y.k_Run,Y.n_Run_people,zcA,d,_,rfl,A0.hd,λo _=>?_⟩
  have la:As.length=hs.length:=by rw[←A0.ns,D0]
  have sd:∀{c ob},H c=some ob->c≠d->upd H d (.frz o (.dK (ppl As))) c=some ob:=λ{c ob} e n=>by rw[zd n];exact e
  refine zgh (n:=As.length) (λl i ys σ' H'=>(∃o1 o2,σ'=[o1,o2])/\TmE H ys (As.take i)/\H' d=some (.frz o (.dK (ppl As)))/\∀c ob,c≠d->H c=some ob->H' c=some ob) ?_ ?_ ?_ ?_ ?_
  ·intro l hl
   have nl:l≠d:=λz=>by rw[z,zb] at hl;cases hl
   exact⟨⟨_,_,rfl⟩, .nil,by rw[zd (Ne.symm nl)];exact zb,λc ob n e=>by rw[zd (zg (sd e n) hl)];exact sd e n⟩
  ·exact λl i ys σ' H' hl hi z=>⟨by rw[D0];unfold ppl;rw[D0];exact hi,z.2.2.1⟩
  ·exact λl ys σ' H' hl z=>⟨by rw[D0];unfold ppl;rw[D0];exact P0 _,z.2.2.1⟩
  ·rintro l i x ys σ' H1 H2 hl hi ⟨⟨o1,o2,rfl⟩,ch,hd1,k1⟩ hl1 ⟨T,p,hp,rfl,hT,rfl⟩
   have ei:As[i]?=some As[i]:=F0 hi
   have ep:p=(V.str As[i].nm,V.ref As[i].p):=by
    unfold ppl at hp
    rw[List.map_map,U0,ei] at hp
    cases hp;rfl
   subst ep
   have hm:=List.getElem_mem hi
   have ix:∀j b,As[j]?=some b->b.nm=As[i].nm->j=i:=λj b e1 e2=>zbQ nd (show hs[j]?=some b.nm by rw[←A0.ns,U0,e1];rfl) (show hs[i]?=some b.nm by rw[←A0.ns,U0,ei,e2];rfl)
   have tk:As.take (i+1)=As.take i ++ [As[i]]:=by rw[List.take_add_one,ei];rfl
   obtain⟨ga,n,kh,kt,B⟩:=A0.ha _ hm
   generalize As[i]=a at *
   have S:=Same.new (o:= .tup [V.str a.nm,V.ref a.p]) hT
   have kd:∀c ob,c≠d->H c=some ob->upd H1 T (.tup [V.str a.nm,V.ref a.p]) c=some ob:=λc ob n e=>S _ _ (k1 c ob n e)
   have nd1:∀{c ob},H c=some ob->(∀z,ob≠ .dK z)->c≠d:=λ{c ob} e h z=>by rw[z,A0.hd] at e;cases e;exact h _ rfl
   have hp2:=kd _ _ (nd1 B.hp (λz y=>nomatch y)) B.hp
   have hl2:=S _ _ hl1
   have hd2:=S _ _ hd1
   refine⟨T,_,rfl, .inl (.inl zb),rfl,_,_,rfl,_,_,rfl,rfl,?_⟩
   refine⟨_,rfl,_,rfl,a.p,_,a.dx,_,_,rfl,hp2,Y.k_House,Y.n_House_times,zge,Sum.inr a.nm,rfl,hl2,?_,?_⟩
   ·have:=ch.len
    rw[J2] at this
    exact zo ()
   ·have nx:a.nm∉(As.take i).map (·.nm):=λz=>by
     obtain⟨b,hb,e⟩:=y1.mp z
     obtain⟨j,hj,ej⟩:=K2 hb
     rw[J2] at hj
     rw[List.getElem_take] at ej
     have:=ix j b (by rw[F0 (),ej]) e
     lia
    refine⟨⟨_,_,rfl⟩,?_,?_,λc ob n e=>?_⟩
    ·rw[tk,zes _ (ch.none nx)]
     exact ch.snoc ⟨_,_,_,B.hp,zge⟩
    ·rw[zd λz=>by rw[z,hl2] at hd2;cases hd2]
     exact hd2
    ·have nl:c≠l:=zg (sd e n) hl
     rw[zd nl]
     exact kd c ob n e
  ·rintro l ys σ' H1 hl ⟨_,ch,hd1,k1⟩ hl1
   rw[List.take_length] at ch
   refine⟨d,o,_,hd1,λo' u' z=>?_,q l ys _ ?_ ch λc ob e=>?_⟩
   ·have z:H d=some (.frz o' u'):=z
    rw[A0.hd] at z;cases z
   ·rw[zd λz=>by rw[z,hd1] at hl1;cases hl1];exact hl1
   ·by_cases z:c=d
    ·rw[z,zb,←A0.hd,←z];exact e
    ·rw[zd z];exact k1 c ob z e
noncomputable def zjg(C CR:Addr):Sp:=λvs H Q _=>∃(hs:List Str) (rp dr d wl:Addr) (v:V) (As:List HA) (st:Str->S3) (us:List V) (R:RdL),vs=[.ref rp]/\RnAt C CR hs H rp dr d wl v As st us R/\Q v H
theorem zl2(Y:Ev K mg):FnOk P w K mg base CX0 1 Y.a_Run_town Y.d_Run_town zcR (zjg Y.c_House Y.c_Run):=by
 refine Y.Run_town.fn.okQ zkt (λvs H Q E h=>?_) `X3
 ·obtain ⟨hs,rp,dr,d,wl,v,As,st,us,R,rfl,_⟩:=h;rfl
 ·obtain ⟨hs,rp,dr,d,wl,v,As,st,us,R,rfl,A0,q⟩:=h
  refine⟨_,(zi (zt (zJ (qv 0)))),?_⟩
  exact⟨_,rfl,rp,_,dr,_,_,rfl,A0.hr,Y.k_Run,Y.n_Run_place,znF,q⟩
noncomputable def zp5(a c:Str)(r:Hr):PyData:= .tuple [.str a, .str c, .int r.1,zc3 r.2,zet r.2]
theorem zsd{x y:V}{b:Option WM}(h:WmAt H x y b)(ok:zdK b):Tr H y (zet b):=by
 match b,h,ok with
 |none,⟨_,e,h1,h2⟩,_=>rw[h1];exact .tup h2 rfl λi v d e1=>by cases e1
 |some (w,ms),⟨pw,pm,h1,h2,h3,h4⟩,ok=>
  rw[h2]
  refine .tup h4 (by unfold zx;rw[D0,D0]) λi v d e1 e2=>?_
  unfold zx at e2
  rw[U0] at e1 e2
  cases e3:ms[i]? with
  |none=>rw[e3] at e1;cases e1
  |some x=>rw[e3] at e1 e2;cases e1;cases e2;exact .str x (zaF (ok.2 x (D1 e3)))
theorem LtO.tr{a c:Str}{r:Hr}(h:LtO H v a c r)(ha:zj a=true)(hc:zj c=true)(ok:zdK r.2):Tr H v (zp5 a c r):=by
 obtain⟨t,x,y,rfl,ht,wa⟩:=h
 refine .tup ht rfl λi v d e1 e2=>?_
 match i with
 |0=>cases e1;cases e2;exact .str a (zaF ha)
 |1=>cases e1;cases e2;exact .str c (zaF hc)
 |2=>cases e1;cases e2;exact .int _
 |3=>cases e1;cases e2;exact zod wa ok
 |4=>cases e1;cases e2;exact zsd wa ok
 |i+5=>cases e1
noncomputable def zrY(R:RdL):PyData:= .list (R.map λe=>zp5 e.1 e.2.1 e.2.2)
theorem RdO.tr(N:Tn g hs ps lks hds O){R:RdL}(h:RdO H us R)(e:H l=some (.lst us))(r:RdR hs O R):Tr H (.ref l) (zrY R):=by
 refine .lst e (by rw[D0];exact h.1) λi v d e1 e2=>?_
 obtain⟨p,ep,hp⟩:=h.of e1
 rw[U0,ep] at e2
 cases e2
 obtain⟨o1,o2,o3⟩:=r p (D1 ep)
 exact hp.tr (N.T.names _ o1) (N.T.names _ o2) (o3.wm N)
theorem znr{R:RdL}:(zrY R).depth<=60:=by
 have h3:PyData.depthAll (R.map λe=>zp5 e.1 e.2.1 e.2.2)<=3:=zc7 λd hd=>by
  obtain⟨o,_,rfl⟩:=y1.mp hd
  have h1:=zbz (b:=o.2.2.2)
  have h2:=zfe (b:=o.2.2.2)
  unfold zp5
  rw[PyData.depth,PyData.depthAll,PyData.depthAll,PyData.depthAll,PyData.depthAll,PyData.depthAll,PyData.depthAll,PyData.depth,PyData.depth,PyData.depth]
  lia
 unfold zrY
 rw[PyData.depth]
 lia
theorem TmE.mono{As:List HA}(h:TmE H kvs As)(m:∀c C dx fs,H c=some (.ins C dx fs)->H' c=some (.ins C dx fs)):TmE H' kvs As:=by
 induction h with
 |nil=>exact .nil
 |cons h t ih=>exact .cons (let⟨C,dx,fs,e,l⟩:=h;⟨C,dx,fs,m _ _ _ _ e,l⟩) ih
noncomputable def zsV(st:Str->S3)(R:RdL):Bool:=(R.map λe=>decide (e.2.2.1<=zcN (zA (st e.2.1).2.1 e.1))).all id
def ToldA(hs:List Str)(p:Addr)(As:List HA)(st:Str->S3)(us:List V)(R:RdL)(H:Hp)(t l:Addr):Prop:=
 ∃(c m:Addr) (kv kt:List (Key×V)),H t=some (.tup [.ref l, .ref c, .ref m, .bl (zsV st R), .ref p])/\H l=some (.lst us)/\RdO H us R/\H c=some (.dK kv)/\ChE H kv (hs.map λx=>(x,(st x).1))/\H m=some (.dK kt)/\TmE H kt As
theorem ToldA.hold{p:Addr}{As:List HA}{st:Str->S3}{R:RdL}{t:Addr}(h:ToldA hs p As st us R H t l)(ea:H a=some (.lst xs))(n:l≠a)(k:Keep a H H'):ToldA hs p As st us R H' t l:=by
 obtain⟨c,m,kv,kt,h1,h2,h3,h4,h5,h6,h7⟩:=h
 have mt:∀c xs,H c=some (.tup xs)->H' c=some (.tup xs):=λc xs e=>k c _ (zy e ea (λz=>nomatch z)) e
 exact⟨c,m,kv,kt,mt _ _ h1,k _ _ n h2,h3.mono mt,k _ _ (zy h4 ea (λz=>nomatch z)) h4,h5.mono mt,k _ _ (zy h6 ea (λz=>nomatch z)) h6,h7.mono λc C dx fs e=>k _ _ (zy e ea (λz=>nomatch z)) e⟩
theorem ToldA.same{p:Addr}{As:List HA}{st:Str->S3}{R:RdL}{t:Addr}(h:ToldA hs p As st us R H t l)(k:Same H H'):ToldA hs p As st us R H' t l:=by
 obtain⟨c,m,kv,kt,h1,h2,h3,h4,h5,h6,h7⟩:=h
 exact⟨c,m,kv,kt,k _ _ h1,k _ _ h2,h3.mono λc xs e=>k _ _ e,k _ _ h4,h5.mono λc xs e=>k _ _ e,k _ _ h6,h7.mono λc C dx fs e=>k _ _ e⟩
theorem ToldA.ne(N:Tn g hs ps lks hds O){p:Addr}{As:List HA}{st:Str->S3}{R:RdL}{t t' l':Addr}(rr:RdR hs O R)(so:∀x∈hs,SOk g hs ps lks hds O x (st x))(h:ToldA hs p As st us R H t l)(h':ToldA hs p As st us R H t' l'):∃a b xs ys,V.ref t= .ref a/\V.ref t'= .ref b/\H a=some (.tup xs)/\H b=some (.tup ys)/\xs.length=ys.length/\(∀(i:Nat) (v v':V),xs[i]?=some v->ys[i]?=some v'->Eqw H v v'):=by
 obtain⟨c,m,kv,kt,h1,h2,h3,h4,h5,h6,h7⟩:=h
 obtain⟨c',m',kv',kt',g1,g2,g3,g4,g5,g6,g7⟩:=h'
 refine⟨t,t',_,_,rfl,rfl,h1,g1,rfl,λi v v' e e'=>?_⟩
 match i with
 |0=>cases e;cases e';exact .tree (h3.tr N h2 rr) (g3.tr N g2 rr) znr
 |1=>
  cases e;cases e'
  refine .dict h4 g4 (h5.alk (λe he=>?_) g5)
  obtain⟨x,hx,rfl⟩:=y1.mp he
  exact(so x hx).b.wm N
 |2=>cases e;cases e';exact .dict h6 g6 (h7.alk (Same.refl _) g7)
 |3=>cases e;cases e';exact .tree (.bl _) (.bl _) (by simp[PyData.depth])
 |4=>cases e;cases e';exact .same
 |i+5=>cases e
noncomputable def zje(C CR:Addr):Sp:=λvs H Q _=>∃(hs O:List Str) (rp dr d wl p:Addr) (As:List HA) (st:Str->S3) (us:List V) (R:RdL),vs=[.ref rp]/\RnAt C CR hs H rp dr d wl (.ref p) As st us R/\hs.Nodup/\hs.length<=10/\RdR hs O R/\R.length<=900/\∀t l H',H l=none->ToldA hs p As st us R H' t l->Same H H'->Q (.ref t) H'
theorem zmx(Y:Ev K mg):FnOk P w K mg base CX0 4 Y.a__law_told Y.d__law_told zcg (zje Y.c_House Y.c_Run):=by
 have G_Run_road:FnOk P w K mg base CX0 1 Y.a_Run_road Y.d_Run_road zb3 (zgf Y.c_House Y.c_Run):=zhf Y
 have G_Run_choice:FnOk P w K mg base CX0 2 Y.a_Run_choice Y.d_Run_choice zby (zgl Y.c_House Y.c_Run):=zjD Y
 have G_Run_changes:FnOk P w K mg base CX0 1 Y.a_Run_changes Y.d_Run_changes zbf (zfh Y.c_House Y.c_Run):=zic Y
 have G_Run_is_still:FnOk P w K mg base CX0 3 Y.a_Run_is_still Y.d_Run_is_still zaP (zhG Y.c_House Y.c_Run):=zk2 Y
 have G_Run_town:FnOk P w K mg base CX0 1 Y.a_Run_town Y.d_Run_town zcR (zjg Y.c_House Y.c_Run):=zl2 Y
 refine Y._law_told.fn.okQ zi4 (λvs H Q E h=>?_) `X3
 ·obtain ⟨hs,O,rp,dr,d,wl,p,As,st,us,R,rfl,_⟩:=h;rfl
 ·obtain ⟨hs,O,rp,dr,d,wl,p,As,st,us,R,rfl,A0,nd,l10,rr,lR,q⟩:=h
  refine⟨_,(zi (zt (zG (za (zaC (qv 0) Y.k_Run Y.Run_road.m G_Run_road `U3 Y.Run_road.b .nil zm) (za (zaC (qv 0) Y.k_Run Y.Run_choice.m G_Run_choice `U3 Y.Run_choice.b .nil zm) (za (zaC (qv 0) Y.k_Run Y.Run_changes.m G_Run_changes `U3 Y.Run_changes.b .nil zm) (za (zaC (qv 0) Y.k_Run Y.Run_is_still.m G_Run_is_still `U3 Y.Run_is_still.b .nil zm) (za (zaC (qv 0) Y.k_Run Y.Run_town.m G_Run_town `U3 Y.Run_town.b .nil zm) zc)))))))),?_⟩
  refine⟨_,rfl,rp,dr,_,rfl,A0.hr,rfl,hs,rp,dr,d,wl, .ref p,As,st,us,R,rfl,A0,λl hl=>?_⟩
  have S1:=Same.new (o:= .lst us) hl
  have e1:=zb (H:=H) (a:=l) (o:= .lst us)
  generalize upd H l (.lst us)=H1 at *
  have A1:=A0.same S1
  refine⟨_,rfl,rp,dr,_,rfl,A1.hr,rfl,hs,rp,dr,d,wl, .ref p,As,st,us,R,rfl,A1,nd,l10,λc kv H2 e2 ch2 s2=>?_⟩
  have A2:=A1.same s2
  refine⟨_,rfl,rp,dr,_,rfl,A2.hr,rfl,hs,rp,dr,d,wl, .ref p,As,st,us,R,rfl,A2,nd,l10,λm kt H3 e3 tm3 s3=>?_⟩
  have A3:=A2.same s3
  refine⟨_,rfl,rp,dr,_,rfl,A3.hr,rfl,hs,O,rp,dr,d,wl, .ref p,As,st,us,R,rfl,A3,rr,lR,λH4 s4=>?_⟩
  have A4:=A3.same s4
  refine⟨_,rfl,rp,dr,_,rfl,A4.hr,rfl,hs,rp,dr,d,wl, .ref p,As,st,us,R,rfl,A4,few rfl,λt ht=>?_⟩
  have S5:=Same.new (o:= .tup [.ref l, .ref c, .ref m, .bl (zsV st R), .ref p]) ht
  have s35:=s4.trans S5
  have s25:=s3.trans s35
  have s15:=s2.trans s25
  exact q t l _ hl ⟨c,m,kv,kt,zb,s15 _ _ e1,(A4.same S5).rd,s25 _ _ e2,ch2.mono λc xs e=>s25 _ _ e,s35 _ _ e3,tm3.mono λc C dx fs e=>s25 _ _ e⟩ (S1.trans s15)
theorem zbY{n:Int}(h:Hand H a n):∃xs,H a=some (.lst xs):=let⟨x,m,t,e,r⟩:=h;⟨_,e⟩
theorem zmd{n:Int}(h:Hand H a n)(k:∀o,H a=some o->H' a=some o):Hand H' a n:=let⟨x,m,t,e,r⟩:=h;⟨x,m,t,k _ e,r⟩
theorem RdR.app{R R':RdL}(h:RdR hs O R)(h':RdR hs O R'):RdR hs O (R ++R'):=λe he=>(Q2.mp he).elim (h e) (h' e)
theorem RdR.erase{R:RdL}(h:RdR hs O R)(k:Nat):RdR hs O (R.eraseIdx k):=λe he=>h e (List.mem_of_mem_eraseIdx he)
structure LwJ(C CR:Addr)(g:Str)(hs:List Str)(ps:List (Str×Str))(lks hds:List D)(O:List Str)(H H':Hp)(a:Addr)(n:Int)(rp dr d wl p:Addr)(As:List HA)(st:Str->S3)(us:List V)(R:RdL):Prop where
 rn:RnAt C CR hs H' rp dr d wl (.ref p) As st us R
 so:∀x∈hs,SOk g hs ps lks hds O x (st x)
 rr:RdR hs O R
 hh:Hand H' a n
 hv:Rep H' (.ref p) (zaq g hs ps lks hds)
 sm:Same H H'
theorem LwJ.same{CR:Addr}{n:Int}{d p:Addr}{As:List HA}{st:Str->S3}{R:RdL}(I:LwJ C CR g hs ps lks hds O H H' a n rp dr d wl p As st us R)(s:Same H' H2):LwJ C CR g hs ps lks hds O H H2 a n rp dr d wl p As st us R:=
 ⟨I.rn.same s,I.so,I.rr,I.hh.same s,I.hv.same s,I.sm.trans s⟩
theorem LwJ.hand{CR:Addr}{n:Int}{d p:Addr}{As:List HA}{st:Str->S3}{R:RdL}(N:Tn g hs ps lks hds O)(I:LwJ C CR g hs ps lks hds O H H' a n rp dr d wl p As st us R)(na:H a=none)(nwa:wl≠a)(k:Keep a H' H2)(h:Hand H2 a n'):LwJ C CR g hs ps lks hds O H H2 a n' rp dr d wl p As st us R:=by
 obtain⟨xs,ea⟩:=zbY I.hh
 have m:∀c xs,H' c=some (.tup xs)->H2 c=some (.tup xs):=λc xs e=>k c _ (zy e ea (λz=>nomatch z)) e
 have q1:=zh9 I.rn.ha ea
 exact⟨⟨k _ _ (zy I.rn.hr ea (λz=>nomatch z)) I.rn.hr,k _ _ (zy I.rn.hd ea (λz=>nomatch z)) I.rn.hd,k _ _ nwa I.rn.hw,I.rn.rd.mono m,I.rn.ha.hold m λc hc o e=>k c o (λz=>q1 (by rw[←z];exact hc)) e,I.rn.ns,I.rn.sep⟩,I.so,I.rr,h,zak I.hv N.T m,λc o e=>k c o (zg e na) (I.sm c o e)⟩
def zql(n:Nat)(H:Hp)(v:V):Prop:=∃dd,Rep H v dd/\zl4 dd n
theorem zdC{n:Nat}{k:Int}(h:¬(0<=k/\k<=(n:Int) -1)):zl4 (.int k) n:=λj e=>by cases e;exact h
theorem zsD(h:i<3):∃word:Str,atI [V.str "come", .str "copy", .str "lose"] (0+(i:Int))=some (.str word):=by
 match i,h with
 |0,_=>exact ⟨_,rfl⟩
 |1,_=>exact ⟨_,rfl⟩
 |2,_=>exact ⟨_,rfl⟩
noncomputable abbrev zgV(n:Int)(p1 p2 p3 p4:Addr):List V:=[.int (-1), .int n, .int (n+1), .bl true, .bl false, .non, .str "0", .ref p1, .ref p2, .int (10^(40:Int).toNat), .int (-n -1), .ref p3, .ref p4]
theorem zqx{n:Nat}{p1 p2 p3 p4:Addr}(hn:n<=1000)(h1:H p1=some (.lst [.int 0]))(h2:H p2=some (.tup [.int 0]))(h3:H p3=some (.tup []))(h4:H p4=some (.dK [])):∀v∈zgV (n:Int) p1 p2 p3 p4,zql n H v:=by
 intro v hv
 have nb:∀dd:D,(∀k,dd≠ .int k)->zl4 dd n:=λdd h k e=>absurd e (h k)
 simp only[zgV,X0,E2,or_false] at hv
 rcases hv with rfl|rfl|rfl|rfl|rfl|rfl|rfl|rfl|rfl|rfl|rfl|rfl|rfl
 ·exact ⟨_, .int _,zdC ()⟩
 ·exact ⟨_, .int _,zdC ()⟩
 ·exact ⟨_, .int _,zdC ()⟩
 ·exact ⟨_, .bl _,nb _ λk e=>nomatch e⟩
 ·exact ⟨_, .bl _,nb _ λk e=>nomatch e⟩
 ·exact ⟨_, .non,nb _ λk e=>nomatch e⟩
 ·exact ⟨_, .str _ ⋯,nb _ λk e=>nomatch e⟩
 ·exact ⟨_, .lst h1,nb _ λk e=>nomatch e⟩
 ·exact ⟨_, .mk1 h2 (.int _),nb _ λk e=>nomatch e⟩
 ·exact ⟨_, .int _,zdC (by rw[show(10:Int)^(40:Int).toNat=10000000000000000000000000000000000000000 by decide +kernel];lia)⟩
 ·exact ⟨_, .int _,zdC ()⟩
 ·exact ⟨_, .mkL h3 ⋯ .nil,nb _ λk e=>nomatch e⟩
 ·exact ⟨_, .dK h4,nb _ λk e=>nomatch e⟩
noncomputable def spLaw(K:W.Frag):Sp:=λvs H Q _=>∃(a:Addr) (ns:List Int),vs=[.ref a]/\SqL K H a (ns.map V.int)/\ns.length<=63/\∀H',Q (.bl true) H'
theorem ok_law_of(Y:Ev K mg){fl:Addr}{fdl:FuncData}(FL:Fun K "law" "law" zlc fl fdl):FnOk P w K mg base CX0 12 fl fdl znI (spLaw K):=by
 have G__law_all:FnOk P w K mg base CX0 2 Y.a__law_all Y.d__law_all zcX (zlh K):=zoN Y
 have G__law_town:FnOk P w K mg base CX0 6 Y.a__law_town Y.d__law_town zck znv:=zp4 Y
 have G__law_take:FnOk P w K mg base CX0 1 Y.a__law_take Y.d__law_take zN zcZ:=zb9 Y
 have G__law_pick:FnOk P w K mg base CX0 2 Y.a__law_pick Y.d__law_pick zM (zbs K):=zcb Y
 have G_Run___init__:FnOk P w K mg base CX0 9 Y.a_Run___init__ Y.d_Run___init__ zaU (zlo Y.c_House Y.c_Run):=znX Y
 have G_Run_road:FnOk P w K mg base CX0 1 Y.a_Run_road Y.d_Run_road zb3 (zgf Y.c_House Y.c_Run):=zhf Y
 have G_Run_come:FnOk P w K mg base CX0 10 Y.a_Run_come Y.d_Run_come za8 (zjw true Y.c_House Y.c_Run):=zma Y
 have G__law_refused:FnOk P w K mg base CX0 11 Y.a__law_refused Y.d__law_refused zaO (zfr Y.c_House Y.c_Run):=ziD Y
 have G__law_told:FnOk P w K mg base CX0 4 Y.a__law_told Y.d__law_told zcg (zje Y.c_House Y.c_Run):=zmx Y
 refine FL.okQ zdS (λvs H Q E h=>?_) `X3
 ·obtain ⟨a,ns,rfl,_⟩:=h;rfl
 ·obtain ⟨sc,ns,rfl,hS,hns,q⟩:=h
  refine⟨_,(zf (zu 1 zdS.nd (zk G__law_all `U3 Y._law_all.mg Y._law_all.kp Y._law_all.b .nil zm (za (qv 0) zc)))
   (zf (zu 2 zdS.nd (zk G__law_town `U3 Y._law_town.mg Y._law_town.kp Y._law_town.b .nil zm (za (qv 1) zc)))
   (zf (zu 3 zdS.nd (znf Y.mk_Run G_Run___init__ `U3 Y.m_Run Y.Run___init__.b .nil zm (za (qv 2) zc)))
   (zf (zci PassesOwn.never rfl (zda Y.range (za (zB zZ zh (zv (zfb rfl) Y.min ze8 (za zh (za (zv z8 Y.len zbw (za (qv 0) zc)) zc)))) zc)) (zn 4 zdS.nd) (zf (zu 5 zdS.nd (zv z8 Y.len zbw (za (zaC (qv 3) Y.k_Run Y.Run_road.m G_Run_road `U3 Y.Run_road.b .nil zm) zc)))
   (zf (zu 6 zdS.nd (zcj (za (zlW zeZ zh) (za (qv 5) (za (zB zZ (qv 5) zh) (za zfz (za zfz (za zc6 (za zai (za (zcj (za zh zc)) (za (zG (za zh zc)) (za (zB zfa zh zh) (za (zB zhX (zlW zeZ (qv 5)) zh) (za (zG zc) (za zj3 zc)))))))))))))))
   (zf (zu 7 zdS.nd (zk G__law_told `U3 Y._law_told.mg Y._law_told.kp Y._law_told.b .nil zm (za (qv 3) zc)))
   (zf (zci PassesOwn.never rfl (zda Y.range (za zh zc)) (zn 8 zdS.nd) (zf (zu 9 zdS.nd (zk G__law_pick `U3 Y._law_pick.mg Y._law_pick.kp Y._law_pick.b .nil zm (za (qv 1) (za (qv 6) zc))))
   (zi (zap (t_w (zqr (zeB (zeD (zk G__law_refused `U3 Y._law_refused.mg Y._law_refused.kp Y._law_refused.b .nil zm (za (qv 3) (za (zaa zO (zcj (za zai (za zai (za zai zc)))) (qv 8)) (za (qv 9) zc)))))) (zlb (zL (zrw (ztt hr)) (zk G__law_told `U3 Y._law_told.mg Y._law_told.kp Y._law_told.b .nil zm (za (qv 3) zc)) (qv 7))))) (zi (zt zfz)) zX))))
   (zi (zap (zL zjl (qv 5) zh) (zi (zaK (zb4 (qv 3) Y.k_Run Y.Run_come.m G_Run_come `U3 Y.Run_come.b .nil zm (za (zk G__law_take `U3 Y._law_take.mg Y._law_take.kp Y._law_take.b .nil zm (za (qv 1) (za (qv 5) zc))) zc)))) (zi (zap (zeB (zeD (zk G__law_refused `U3 Y._law_refused.mg Y._law_refused.kp Y._law_refused.b .nil zm (za (qv 3) (za (zk G__law_pick `U3 Y._law_pick.mg Y._law_pick.kp Y._law_pick.b .nil zm (za (qv 1) (za (zcj (za zai (za zai (za zai zc)))) zc))) (za zh zc)))))) (zi (zt zfz)) zX)))))))))
   (zi (zt zfz)))))),?_⟩
  refine⟨_,rfl,sc,ns,rfl,hS,hns,λa H1 ha hH1 s1=>?_⟩
  refine⟨_,rfl,a,0,rfl,hH1,⋯,λv g hs ps lks hds H2 hv T _ ⟨O,PO⟩ _ hf hH2 k2=>?_⟩
  have N:Tn g hs ps lks hds O:=⟨T,PO,hf⟩
  have s02:Same H H2:=λc o e=>k2 c o (zg e ha) (s1 c o e)
  refine⟨_,rfl,λrp dr np ndr ner=>⟨g,hs,ps,lks,hds,O,rp,dr,v,rfl,zb,N,?_,λd wl As us H3 A3 so3 nwl ndd nad k3=>⟨rfl,?_⟩⟩⟩
  ·exact hv.same λc o e=>by rw[zd (zg e np),zd (zg e ndr)];exact e
  have u23:Same H2 (upd (upd H2 dr (.own rp)) rp (.ins Y.c_Run dr [])):=λc o e=>by rw[zd (zg e np),zd (zg e ndr)];exact e
  have s23:Same H2 H3:=λc o e=>k3 c o (zg e np) (u23 c o e)
  have nwl2:=u23.free nwl
  have nas:∀c∈zct As,H c=none:=λc hc=>s02.free (u23.free (nad c hc))
  have nwl0:=s02.free nwl2
  have nwa:wl≠a:=λz=>by obtain⟨xs,e⟩:=zbY hH2;rw[←z,nwl2] at e;cases e
  have hv3:=hv.same s23
  obtain⟨p,pr,pt,pl,pa,vt,vl,va,rfl,_⟩:=zeI hv3
  have T10:=T.ten
  have l100:=ziG (g:=g) (ps:=ps) (hds:=hds) T10 hs
  have I3:LwJ Y.c_House Y.c_Run g hs ps lks hds O H H3 a 9000 rp dr d wl p As _ us _:=⟨A3,so3,zoc N λx hx=>⟨hx,so3 x hx⟩,hH2.same s23,hv3,s02.trans s23⟩
  clear nwl ndd nad k3 u23 A3 so3 nwl2 hH1 hH2 k2 hv hv3
  generalize zfM g hs ps hds=st3 at *
  generalize rdB g hs ps hds hs=R3 at *
  refine⟨_,rfl, .inl ⟨sc,_,rfl, .inl (I3.sm.seq hS),_,_,rfl,_,_,rfl,rfl,_,rfl,by split<;>lia,by rw[D0];split<;>lia,?_⟩⟩
  refine zaZ zcp (λi σ' H'=>∃st us R,(∃o4 o5 o6 o7 o8 o9,σ'=[some (.ref sc),some (.ref a),some (.ref p),some (.ref rp),o4,o5,o6,o7,o8,o9])/\R.length<=100+10*i/\LwJ Y.c_House Y.c_Run g hs ps lks hds O H H' a (9000+4*i) rp dr d wl p As st us R) ?_ (λ_ _ _ _=>trivial) ?_ ?_
  ·exact ⟨_,_,_,⟨_,_,_,_,_,_,rfl⟩,(),I3⟩
  ·rintro i y σ' H4 hi rfl ⟨st,us,R,⟨o4,o5,o6,o7,o8,o9,rfl⟩,lR,I4⟩
   have hi70:i<70:=by
    refine O1 hi ?_
    rw[D0]
    split<;>lia
   clear I3 hi l100
   have lu:=I4.rn.rd.1
   refine⟨_,rfl,rp,dr,_,rfl,I4.rn.hr,rfl,hs,rp,dr,d,wl, .ref p,As,st,us,R,rfl,I4.rn,λl hl=>?_⟩
   refine .inl ⟨l,_,rfl, .inl (SqL.of zb),?_⟩
   have S5:=Same.new (o:= .lst us) hl
   generalize upd H4 l (.lst us)=H5 at *
   have I5:=I4.same S5
   clear I4 S5 hl
   refine⟨_,rfl,_,rfl,_,rfl,_,_,rfl,rfl,few rfl,λp1 hp1=>?_⟩
   have S6:=Same.new (o:= .lst [.int 0]) hp1
   have e6:=zb (H:=H5) (a:=p1) (o:= .lst [.int 0])
   generalize upd H5 p1 (.lst [.int 0])=H6 at *
   refine⟨few rfl,λp2 hp2=>?_⟩
   have S7:=Same.new (o:= .tup [.int 0]) hp2
   have e7:=zb (H:=H6) (a:=p2) (o:= .tup [.int 0])
   generalize upd H6 p2 (.tup [.int 0])=H7 at *
   refine⟨_,_,rfl,rfl,⟨⋯,⋯,⋯⟩,_,rfl,_,rfl,_,_,rfl,rfl,few rfl,λp3 hp3=>?_⟩
   have S8:=Same.new (o:= .tup []) hp3
   have e8:=zb (H:=H7) (a:=p3) (o:= .tup [])
   generalize upd H7 p3 (.tup [])=H8 at *
   refine λp4 hp4=>?_
   have S9:=Same.new (o:= .dK []) hp4
   have e9:=zb (H:=H8) (a:=p4) (o:= .dK [])
   generalize upd H8 p4 (.dK [])=H9 at *
   refine⟨few rfl,λol hol=>?_⟩
   have e10:=zb (H:=H9) (a:=ol) (o:= .lst (zgV us.length p1 p2 p3 p4))
   have S10:=Same.new (o:= .lst (zgV us.length p1 p2 p3 p4)) hol
   have s69:=S7.trans (S8.trans S9)
   have od9:=zqx (n:=us.length) () (s69 _ _ e6) ((S8.trans S9) _ _ e7) (S9 _ _ e8) e9
   have s510:=(S6.trans s69).trans S10
   have nola:ol≠a:=λz=>by obtain⟨xs,e⟩:=zbY (I5.same (S6.trans s69)).hh;rw[z,e] at hol;cases hol
   have od10:∀v∈zgV us.length p1 p2 p3 p4,zql us.length (upd H9 ol (.lst (zgV us.length p1 p2 p3 p4))) v:=λv hv=>let ⟨dd,r,b⟩:=od9 v hv;⟨dd,r.same S10,b⟩
   generalize upd H9 ol (.lst (zgV us.length p1 p2 p3 p4))=H10 at *
   have I10:=I5.same s510
   clear I5 S6 S7 S8 S9 S10 s69 s510 e6 e7 e8 e9 od9 hp1 hp2 hp3 hp4 hol
   refine⟨_,rfl,hs,O,rp,dr,d,wl,p,As,st,us,R,rfl,I10.rn,T.hs_nd,T10,I10.rr,(),λt l11 H11 nl11 tA s11=>?_⟩
   have I11:=I10.same s11
   have nla:l11≠a:=λz=>by obtain⟨xs,e⟩:=zbY I10.hh;rw[z,e] at nl11;cases nl11
   refine⟨3,rfl,⋯,⋯,?_⟩
   refine zaZ zcp (λj σ' H'=>(∃o8 o9,σ'=[some (.ref sc),some (.ref a),some (.ref p),some (.ref rp),some (.int (0+(i:Int))),some (.int us.length),some (.ref ol),some (.ref t),o8,o9])/\LwJ Y.c_House Y.c_Run g hs ps lks hds O H H' a (9000+4*i+j) rp dr d wl p As st us R/\ToldA hs p As st us R H' t l11/\H' ol=some (.lst (zgV us.length p1 p2 p3 p4))/\∀v∈zgV us.length p1 p2 p3 p4,zql us.length H' v) ?_ (λ_ _ _ _=>trivial) ?_ ?_
   ·exact ⟨⟨_,_,rfl⟩,by simpa using I11,tA,s11 _ _ e10,λv hv=>let ⟨dd,r,b⟩:=od10 v hv;⟨dd,r.same s11,b⟩⟩
   ·rintro j y σ' H12 hj rfl ⟨⟨o8,o9,rfl⟩,I12,tA12,e12,od12⟩
    have hj:j<3:=hj
    obtain⟨xa,ea⟩:=zbY I12.hh
    refine⟨_,rfl,_,rfl,a,_,I12.hh,(), .inl ⟨ol,_,rfl,nola,SqL.of e12,Nat.succ_pos _,(by show 13<1000;decide),λpv H13 hpv hH13 k13=>?_⟩⟩
    have I13:=I12.hand N ha nwa k13 hH13
    have tA13:=tA12.hold ea nla k13
    have e13:=k13 _ _ nola e12
    have mo:=Mono.keep k13 I12.hh hH13
    have od13:∀v∈zgV us.length p1 p2 p3 p4,zql us.length H13 v:=λv hv=>let ⟨dd,r,b⟩:=od12 v hv;⟨dd,r.mono mo,b⟩
    clear I12 tA12 e12 od12 mo k13
    obtain⟨dd,rd,bd⟩:=od13 pv hpv
    obtain⟨word,hw⟩:=zsD hj
    refine⟨_,rfl,few rfl,λwl3 hwl3=>?_⟩
    have S14:=Same.new (o:= .lst [.str "come", .str "copy", .str "lose"]) hwl3
    have e14:=zb (H:=H13) (a:=wl3) (o:= .lst [.str "come", .str "copy", .str "lose"])
    generalize upd H13 wl3 (.lst [.str "come", .str "copy", .str "lose"])=H14 at *
    have I14:=I13.same S14
    refine⟨_,rfl,wl3,_,_,_,rfl,rfl,SqL.of e14,hw,_,rfl,hs,rp,dr,d,wl, .ref p,As,st,us,R,word,pv,dd,rfl,I14.rn,(),rd.same S14,bd,λH15 s15=>⟨true,rfl,zbG rfl ?_⟩⟩
    have I15:=I14.same s15
    refine⟨_,rfl,hs,O,rp,dr,d,wl,p,As,st,us,R,rfl,I15.rn,T.hs_nd,T10,I15.rr,(),λt16 l16 H16 _ tA16 s16=>?_⟩
    have s1316:=S14.trans (s15.trans s16)
    obtain⟨x1,x2,xs,ys,z1,z2,z3,z4,z5,z6⟩:=ToldA.ne N I15.rr I15.so tA16 (tA13.same s1316)
    refine⟨_,rfl,x1,x2,xs,ys,z1,z2,z3,z4,z5,z6,?_⟩
    refine⟨_,rfl,zbG rfl ⟨⟨_,_,rfl⟩,?_,tA13.same s1316,s1316 _ _ e13,λv hv=>let ⟨dd,r,b⟩:=od13 v hv;⟨dd,r.same s1316,b⟩⟩⟩
    have I16:=I15.same s16
    exact{I16 with hh:=I16.hh.mono ()}
   ·rintro σ' H12 ⟨⟨o8,o9,rfl⟩,I12,_,_,_⟩
    have I12:LwJ Y.c_House Y.c_Run g hs ps lks hds O H H12 a (9000+4*i+3) rp dr d wl p As st us R:={I12 with hh:=I12.hh.mono `Z3}
    clear I10 I11 tA od10 e10
    refine⟨_,rfl,_,_,rfl,rfl,_,rfl,?_⟩
    by_cases c0:(0:Int)<(us.length:Int)
    ·refine zbW (Y0 c0) ⟨_,rfl,rp,dr,_,rfl,I12.rn.hr,rfl,_,rfl,_,rfl,a,_,_,rfl,I12.hh,(),(),(),λk0 H13 t0 t1 hH13 k13=>?_⟩
     obtain⟨k,rfl⟩:∃k:Nat,k0=(k:Int):=⟨k0.toNat,()⟩
     have I13:=I12.hand N ha nwa k13 hH13
     obtain⟨e1,he⟩:∃e1,R[k]?=some e1:=⟨_,F0 (by rw[←lu];lia)⟩
     refine⟨g,hs,ps,lks,hds,O,rp,dr,d,wl, .ref p,As,st,us,R,k,e1,rfl,I13.rn,N,I13.hv,I13.so,I13.rr,(),he,λs' L us' H14 hh so rL rn f=>?_⟩
     have m:∀c xs,H13 c=some (.tup xs)->H14 c=some (.tup xs):=λc xs e=>f c _ (zy e I13.rn.hw (λz=>nomatch z)) (zhP I13.rn.ha e) e
     obtain⟨xb,eb⟩:=zbY hH13
     have lL:=hh.n
     refine⟨_,us',_,⟨_,_,_,_,_,_,rfl⟩,?_,rn,λx hx=>?_,RdR.app (I13.rr.erase k) rL,(zmd hH13 λo e=>f a o (Ne.symm nwa) (zh9 I13.rn.ha eb) e).mono (),zak I13.hv T m,λc o e=>f c o (zg e nwl0) (λz=>by rw[nas c z] at e;cases e) (I13.sm c o e)⟩
     ·rw[R0 rfl,F1,D0,List.length_eraseIdx]
      split<;>lia
     ·unfold znd
      by_cases c:x=e1.2.1
      ·rw[R0 c,c];exact so
      ·rw[N0 c];exact I13.so x hx
    ·refine zbG (E1 c0) ⟨_,rfl,_,rfl,few rfl,λwl3 hwl3=>?_⟩
     have S13:=Same.new (o:= .lst [.str "come", .str "copy", .str "lose"]) hwl3
     have e13:=zb (H:=H12) (a:=wl3) (o:= .lst [.str "come", .str "copy", .str "lose"])
     generalize upd H12 wl3 (.lst [.str "come", .str "copy", .str "lose"])=H13 at *
     have I13:=I12.same S13
     have nwa3:wl3≠a:=λz=>by obtain⟨xs,e⟩:=zbY I12.hh;rw[z,e] at hwl3;cases hwl3
     refine⟨a,_,I13.hh,(), .inl ⟨wl3,_,rfl,nwa3,SqL.of e13,⋯,⋯,λpv H14 hpv hH14 k14=>?_⟩⟩
     have I14:=I13.hand N ha nwa k14 hH14
     obtain⟨word,rfl⟩:∃x:Str,pv= .str x:=by
      simp only[X0,E2,or_false] at hpv
      rcases hpv with z|z|z<;>exact ⟨_,z⟩
     refine⟨hs,rp,dr,d,wl, .ref p,As,st,us,R,word,_,_,rfl,I14.rn,(), .int _,zdC (),λH15 s15=>⟨true,rfl,zbG rfl ?_⟩⟩
     have I15:=I14.same s15
     exact⟨st,us,R,⟨_,_,_,_,_,_,rfl⟩,(),{I15 with hh:=I15.hh.mono ()}⟩
  ·rintro σ' H4 _
   exact q H4
end
noncomputable def evOf  {h:Heap}  (F:Fk K) (X:K.In h) (G:h.Ns mainGlobals mg):Ev K mg:={
 c_House:=F.C_House,k_House:=⟨F.c_House.pg9,F.c_House.hd9,F.c_House.po9,F.c_House.sa9⟩,m_House:=W.mg_of X G F.c_House.a9,n_House_place:=F.n_House_place,n_House_name:=F.n_House_name,n_House_hearings:=F.n_House_hearings,n_House_tellings:=F.n_House_tellings,n_House_going:=F.n_House_going,n_House_times:=F.n_House_times,
 c_Run:=F.C_Run,k_Run:=⟨F.c_Run.pg9,F.c_Run.hd9,F.c_Run.po9,F.c_Run.sa9⟩,m_Run:=W.mg_of X G F.c_Run.a9,n_Run_place:=F.n_Run_place,n_Run_people:=F.n_Run_people,n_Run_waiting:=F.n_Run_waiting,
 mk_House:=⟨F.c_House.ms9,F.House___init__.a9,F.House___init__.i9,F.c_House.kc9⟩,
 mk_Run:=⟨F.c_Run.ms9,F.Run___init__.a9,F.Run___init__.i9,F.c_Run.kc9⟩,
 a_NOTHING:=F.NOTHING.f9,e_NOTHING:=F.NOTHING.e9,m_NOTHING:=W.mg_of X G F.NOTHING.a9,t_NOTHING:=erN F.NOTHING,u_NOTHING:=erN0 F.NOTHING,
 X_NoLetter:=F.X_NoLetter,m_NoLetter:=W.mg_of X G F.x_NoLetter.a9,
 X_RestError:=F.X_RestError,m_RestError:=W.mg_of X G F.x_RestError.a9,
 X_Forged:=F.X_Forged,m_Forged:=W.mg_of X G F.x_Forged.a9,
 X_HasRing:=F.X_HasRing,m_HasRing:=W.mg_of X G F.x_HasRing.a9,
 X_Needed:=F.X_Needed,m_Needed:=W.mg_of X G F.x_Needed.a9,
 X_NoDeed:=F.X_NoDeed,m_NoDeed:=W.mg_of X G F.x_NoDeed.a9,
 X_NoRow:=F.X_NoRow,m_NoRow:=W.mg_of X G F.x_NoRow.a9,
 X_NoText:=F.X_NoText,m_NoText:=W.mg_of X G F.x_NoText.a9,
 X_TooMany:=F.X_TooMany,m_TooMany:=W.mg_of X G F.x_TooMany.a9,
 e_NoLetter:=F.e_NoLetter,
 e_RestError:=F.e_RestError,
 i_NoLetter:=F.i_NoLetter,
 u_NoLetter_RestError:=F.u_NoLetter_RestError,
 j_NoLetter:=F.j_NoLetter,
 k_NoLetter_ValueError:=F.k_NoLetter_ValueError,
 a_is_number:=_,d_is_number:=_,is_number:=erA F.is_number X G λ_ _ _ _ _ _=>(of1 λ_=>rfl),
 a_is_whole:=_,d_is_whole:=_,is_whole:=erA F.is_whole X G λ_ _ _ _ _ _=>(of3 λ_ _ _=>rfl),
 a_holds:=_,d_holds:=_,holds:=erD F.holds 3 X G rfl (λ_ _ _ _ _ _ _=>(of4 λ_ _ _ _=>⟨_,rfl,rfl⟩)) (λ_ _ _ _ _ _ _=>(of3 λ_ _ _=>⟨_,rfl,rfl⟩)),
 a_all_hold:=_,d_all_hold:=_,all_hold:=erD F.all_hold 3 X G rfl (λ_ _ _ _ _ _ _=>(of4 λ_ _ _ _=>⟨_,rfl,rfl⟩)) (λ_ _ _ _ _ _ _=>(of3 λ_ _ _=>⟨_,rfl,rfl⟩)),
 a_likings_of:=_,d_likings_of:=_,likings_of:=erA F.likings_of X G λ_ _ _ _ _ _=>(of2 λ_ _=>rfl),
 a_hands_of:=_,d_hands_of:=_,hands_of:=erA F.hands_of X G λ_ _ _ _ _ _=>(of2 λ_ _=>rfl),
 a_tied:=_,d_tied:=_,tied:=erA F.tied X G λ_ _ _ _ _ _=>(of2 λ_ _=>rfl),
 a_marks_behind:=_,d_marks_behind:=_,marks_behind:=erA F.marks_behind X G λ_ _ _ _ _ _=>(of2 λ_ _=>rfl),
 a_handed:=_,d_handed:=_,handed:=erA F.handed X G λ_ _ _ _ _ _=>(of4 λ_ _ _ _=>rfl),
 a_worth:=_,d_worth:=_,worth:=erA F.worth X G λ_ _ _ _ _ _=>(of3 λ_ _ _=>rfl),
 a_liking_key:=_,d_liking_key:=_,liking_key:=erA F.liking_key X G λ_ _ _ _ _ _=>(of3 λ_ _ _=>rfl),
 a_most_liked:=_,d_most_liked:=_,most_liked:=erA F.most_liked X G λ_ _ _ _ _ _=>(of2 λ_ _=>rfl),
 a_House___init__:=_,d_House___init__:=_,House___init__:=erM F.House___init__ λ_ _ _ _ _ _=>(of3 λ_ _ _=>rfl),
 a_House_way:=_,d_House_way:=_,House_way:=erM F.House_way λ_ _ _ _ _ _=>(of1 λ_=>rfl),
 a_House_heard:=_,d_House_heard:=_,House_heard:=erM F.House_heard λ_ _ _ _ _ _=>(of2 λ_ _=>rfl),
 a_House_begin:=_,d_House_begin:=_,House_begin:=erM F.House_begin λ_ _ _ _ _ _=>(of1 λ_=>rfl),
 a_House_hear:=_,d_House_hear:=_,House_hear:=erM F.House_hear λ_ _ _ _ _ _=>(of2 λ_ _=>rfl),
 a_House_choose:=_,d_House_choose:=_,House_choose:=erM F.House_choose λ_ _ _ _ _ _=>(of1 λ_=>rfl),
 a_House_open_ways:=_,d_House_open_ways:=_,House_open_ways:=erM F.House_open_ways λ_ _ _ _ _ _=>(of1 λ_=>rfl),
 a_House_go_by:=_,d_House_go_by:=_,House_go_by:=erM F.House_go_by λ_ _ _ _ _ _=>(of2 λ_ _=>rfl),
 a_House_offer:=_,d_House_offer:=_,House_offer:=erM F.House_offer λ_ _ _ _ _ _=>(of2 λ_ _=>rfl),
 a_House_letters:=_,d_House_letters:=_,House_letters:=erM F.House_letters λ_ _ _ _ _ _=>(of1 λ_=>rfl),
 a_at_place:=_,d_at_place:=_,at_place:=erA F.at_place X G λ_ _ _ _ _ _=>(of2 λ_ _=>rfl),
 a_is_outdone:=_,d_is_outdone:=_,is_outdone:=erA F.is_outdone X G λ_ _ _ _ _ _=>(of2 λ_ _=>rfl),
 a_Run___init__:=_,d_Run___init__:=_,Run___init__:=erM F.Run___init__ λ_ _ _ _ _ _=>(of2 λ_ _=>rfl),
 a_Run_road:=_,d_Run_road:=_,Run_road:=erM F.Run_road λ_ _ _ _ _ _=>(of1 λ_=>rfl),
 a_Run_choice:=_,d_Run_choice:=_,Run_choice:=erM F.Run_choice λ_ _ _ _ _ _=>(of1 λ_=>rfl),
 a_Run_changes:=_,d_Run_changes:=_,Run_changes:=erM F.Run_changes λ_ _ _ _ _ _=>(of1 λ_=>rfl),
 a_Run_town:=_,d_Run_town:=_,Run_town:=erM F.Run_town λ_ _ _ _ _ _=>(of1 λ_=>rfl),
 a_Run_was_heard:=_,d_Run_was_heard:=_,Run_was_heard:=erM F.Run_was_heard λ_ _ _ _ _ _=>(of2 λ_ _=>rfl),
 a_Run_come:=_,d_Run_come:=_,Run_come:=erM F.Run_come λ_ _ _ _ _ _=>(of2 λ_ _=>rfl),
 a_Run_copy:=_,d_Run_copy:=_,Run_copy:=erM F.Run_copy λ_ _ _ _ _ _=>(of2 λ_ _=>rfl),
 a_Run_lose:=_,d_Run_lose:=_,Run_lose:=erM F.Run_lose λ_ _ _ _ _ _=>(of2 λ_ _=>rfl),
 a_Run_is_still:=_,d_Run_is_still:=_,Run_is_still:=erM F.Run_is_still λ_ _ _ _ _ _=>(of1 λ_=>rfl),
 a__law_hand:=_,d__law_hand:=_,_law_hand:=erA F._law_hand X G λ_ _ _ _ _ _=>(of2 λ_ _=>rfl),
 a__law_all:=_,d__law_all:=_,_law_all:=erA F._law_all X G λ_ _ _ _ _ _=>(of1 λ_=>rfl),
 a__law_take:=_,d__law_take:=_,_law_take:=erA F._law_take X G λ_ _ _ _ _ _=>(of2 λ_ _=>rfl),
 a__law_pick:=_,d__law_pick:=_,_law_pick:=erA F._law_pick X G λ_ _ _ _ _ _=>(of2 λ_ _=>rfl),
 a__law_names:=_,d__law_names:=_,_law_names:=erA F._law_names X G λ_ _ _ _ _ _=>(of2 λ_ _=>rfl),
 a__law_cond:=_,d__law_cond:=_,_law_cond:=erA F._law_cond X G λ_ _ _ _ _ _=>(of4 λ_ _ _ _=>rfl),
 a__law_conds:=_,d__law_conds:=_,_law_conds:=erA F._law_conds X G λ_ _ _ _ _ _=>(of4 λ_ _ _ _=>rfl),
 a__law_likings:=_,d__law_likings:=_,_law_likings:=erA F._law_likings X G λ_ _ _ _ _ _=>(of3 λ_ _ _=>rfl),
 a__law_hands:=_,d__law_hands:=_,_law_hands:=erA F._law_hands X G λ_ _ _ _ _ _=>(of3 λ_ _ _=>rfl),
 a__law_ties:=_,d__law_ties:=_,_law_ties:=erA F._law_ties X G λ_ _ _ _ _ _=>(of3 λ_ _ _=>rfl),
 a__law_town:=_,d__law_town:=_,_law_town:=erA F._law_town X G λ_ _ _ _ _ _=>(of1 λ_=>rfl),
 a__law_refused:=_,d__law_refused:=_,_law_refused:=erA F._law_refused X G λ_ _ _ _ _ _=>(of3 λ_ _ _=>rfl),
 a__law_told:=_,d__law_told:=_,_law_told:=erA F._law_told X G λ_ _ _ _ _ _=>(of1 λ_=>rfl),
 a_law:=_,d_law:=_,law:=erA F.law X G λ_ _ _ _ _ _=>(of1 λ_=>rfl),
 ValueError:=N2 X G F.z_ValueError,
 all:=N2 X G F.z_all,
 bool:=N2 X G F.z_bool,
 dict:=N2 X G F.z_dict,
 int:=N2 X G F.z_int,
 isinstance:=N2 X G F.z_isinstance,
 len:=N2 X G F.z_len,
 list:=N2 X G F.z_list,
 max:=N2 X G F.z_max,
 min:=N2 X G F.z_min,
 range:=N2 X G F.z_range,
 sorted:=N2 X G F.z_sorted,
 str:=N2 X G F.z_str,
 tuple:=N2 X G F.z_tuple}
end L2
open PySem PySem.W PyProof.Rows L2 L2
theorem PySem.Challenge.cw_restways_k43_runs_refuse_holds : PySem.Challenge.rw_restways_k43_runs_refuse.Holds := by
 refine topE λq loose XP YP d K hdf hd hY F=>walk_of (l:=PySem.Challenge.rw_restways_k43_runs_refuse) (n:=63) (k:=12) (x:="_law_script") (CX:=λ_=>CX0) (sp:=λw=>spLaw (K w.params)) rfl (by decide) hdf ⟨rfl,by decide,by decide,rfl⟩ hY (λw mg fa h X G e=>?_) (λ_ _ a ns hl _ hS=>⟨a,ns,rfl,hS,hl,λ_=>rfl⟩) λ_ _ _ _ _ z=>z
 have Y:=evOf (F w) X G
 rw[hd] at e
 cases e.symm.trans Y.law.mg
 refine⟨_,λs v=>?_,λbase _ _=>ok_law_of Y Y.law.fn⟩
 obtain⟨_,_,_,_,_,_,_,_,_,e,_⟩:=Y.law.fn.ex
 rw[e]
 exact .of_eq rfl
