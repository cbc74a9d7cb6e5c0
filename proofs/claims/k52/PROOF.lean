import PyProof.Rows.All
import Wide.All
import OpenK.AllK
import Wide.FinOn
import Lean
import PyProof.EqAt
import PyProof.EqKinds
import PyProof.TupleCall
import KE.KSortTup
import KE.KDictSum
import PyProof.Rows.SortStr
import PyProof.AutoSeq1
import PyProof.ZipIter
import PyProof.Rows.FStr
import PyProof.Rows.FStrParts
import PyProof.AttrMissHeap
import KE.KDictOf
import PyProof.StrCalls
import KE.KStrOpen
import KE.KRevIter
import PyProof.WalkInts
import KE.KDictList
import PyProof.Rows.SetFrom
import PyProof.SetRoads
import PyProof.DictCompW
import PyProof.DictItems
import KE.KPairComp
import KE.KEqDict
import PyProof.Rows.Range3
import PyProof.WalksMore
import PyProof.DictWalks
import KE.KMinKey
import PyProof.Rows.SortRuns
import PySem.Challenge.RW_restways_k52_first_states
abbrev ζa:=@List.length_map
abbrev ζb:=@PySem.wpAny_bind
abbrev ζc:=@PySem.Heap.get?_push_of_some
abbrev ζd:=@List.getElem?_eq_getElem
abbrev ζe:=@List.length_append
abbrev ζf:=@decide_eq_true
abbrev ζg:=@decide_eq_true_iff
abbrev ζh:=@of_decide_eq_true
abbrev ζi:=@List.getElem?_eq_none
abbrev ζj:=@PySem.Heap.get?_push_size
abbrev ζk:=@List.mem_of_getElem?
abbrev ζl:=@List.length_take
abbrev ζm:=@PySem.Heap.lt_size
abbrev ζn:=@decide_eq_false
abbrev ζo:=@List.mem_cons_self
abbrev ζp:=@List.getElem?_map
abbrev ζq:=@List.length_drop
abbrev ζr:=@PySem.wpAny_pure
abbrev ζs:=@Bool.and_eq_true
abbrev ζt:=@Nat.le_refl
abbrev ζu:=@List.size_toArray
abbrev ζv:=@List.length_cons
abbrev ζw:=@Nat.lt_or_ge
abbrev ξa:=@Nat.le_trans
abbrev ξb:=@List.map_append
abbrev ξc:=@List.mem_cons_of_mem
abbrev ξd:=@Bool.eq_iff_iff
abbrev ξe:=@Bool.false_ne_true
abbrev ξf:=@Nat.lt_of_lt_of_le
abbrev ξg:=@Nat.le_of_lt
abbrev ξh:=@Option.some.inj
abbrev ξi:=@Nat.zero_le
abbrev ξj:=@Nat.ne_of_lt
abbrev ξk:=@PySem.W.Frag
abbrev ξl:=@List.mem_append_right
abbrev ξm:=@List.getElem?_append_right
abbrev ξn:=@Array.toList_append
abbrev ξo:=@Array.getElem?_toList
abbrev ξp:=@List.append_assoc
abbrev ξq:=@Array.length_toList
abbrev ξr:=@List.take_append_drop
abbrev ξs:=@List.take_add_one
abbrev ξt:=@List.map_cons
abbrev ξu:=@List.mem_of_mem_take
abbrev ξv:=@List.take_length
abbrev ξw:=@List.append_nil
abbrev ψa:=@List.getElem?_append_left
abbrev ψb:=@List.not_mem_nil
abbrev ψc:=@PySem.wpAny_mono
abbrev ψd:=@PySem.wpAny_holding
set_option Elab.async false
set_option linter.all false
set_option maxRecDepth 100000
namespace L2
open PySem PySem.Spec PyProof.Rows
noncomputable abbrev Key:=Sum Int Str
noncomputable def zgj:Key->Value->Bool
 | .inl k,v=>Value.isInt k v
 | .inr x,v=>Value.isStrOf x v
noncomputable def zsp(w:World):Key->Int
 | .inl k=>hashInt k
 | .inr x=>hashStr w x
theorem zaj:∀{k:Key} {v:Value},zgj k v=true->(∃i t,k=Sum.inl i/\v=Value.int i t)\/(∃x t,k=Sum.inr x/\v=Value.str x t)
 | .inl i,v,h=>by
   obtain⟨t,e⟩:=Value.isInt_shape (k:=i) (v:=v) h
   exact .inl ⟨i,t,rfl,e⟩
 | .inr x,v,h=>by
   obtain⟨t,e⟩:=Value.isStrOf_shape (x:=x) (v:=v) h
   exact .inr ⟨x,t,rfl,e⟩
theorem zlH(i:Int)(t:Tok):zgj (.inl i) (.int i t)=true:=by simp[zgj,Value.isInt]
theorem zln(x:Str)(t:Tok):zgj (.inr x) (.str x t)=true:=by simp[zgj,Value.isStrOf]
theorem zq2(a b:Int):decide ((Sum.inl a:Key)=Sum.inl b)=(a==b):=by
 by_cases e:a=b
 ·subst e;simp
 ·have h:¬(Sum.inl a:Key)=Sum.inl b:=λq=>e (Sum.inl.inj q)
  rw[ζn h]
  exact(beq_eq_false_iff_ne.mpr e).symm
theorem zq6(a b:Str):decide ((Sum.inr a:Key)=Sum.inr b)=decide (a=b):=by
 by_cases e:a=b
 ·subst e;simp
 ·have h:¬(Sum.inr a:Key)=Sum.inr b:=λq=>e (Sum.inr.inj q)
  rw[ζn h,ζn e]
theorem zqY(a:Int)(b:Str):decide ((Sum.inl a:Key)=Sum.inr b)=false:=ζn (λq=>nomatch q)
theorem zqD(a:Str)(b:Int):decide ((Sum.inr a:Key)=Sum.inl b)=false:=ζn (λq=>nomatch q)
noncomputable def zai(prog:Program)(w:World):PySem.KeyKind prog w Key where
 is:=zgj
 hash:=zsp w
 inj:=λv a b ha hb=>by
  rcases zaj ha with⟨i,t,rfl,rfl⟩|⟨x,t,rfl,rfl⟩
  ·rcases zaj hb with⟨j,u,rfl,e⟩|⟨y,u,rfl,e⟩
   ·injection e with e1 _;rw[e1]
   ·exact nomatch e
  ·rcases zaj hb with⟨j,u,rfl,e⟩|⟨y,u,rfl,e⟩
   ·exact nomatch e
   ·injection e with e1 _;rw[e1]
 byValue:=λk v h=>by
   rcases zaj h with⟨i,t,rfl,rfl⟩|⟨x,t,rfl,rfl⟩<;>rfl
 pyHash:=λhv h=>by
  rcases zaj hv with⟨i,t,rfl,rfl⟩|⟨x,t,rfl,rfl⟩
  ·exact wpAny_pyHash_int h
  ·exact wpAny_pyHash_str h
 eqBool:=λhu hv h=>by
  rcases zaj hu with⟨i,t,rfl,rfl⟩|⟨x,t,rfl,rfl⟩
  ·rcases zaj hv with⟨j,u,rfl,rfl⟩|⟨y,u,rfl,rfl⟩
   ·rw[zq2] at h;exact wpAny_eqBool_int h
   ·rw[zqY] at h;exact SeqAt.EqAt.int_str i t y u _ _ _ _ h
  ·rcases zaj hv with⟨j,u,rfl,rfl⟩|⟨y,u,rfl,rfl⟩
   ·rw[zqD] at h;exact SeqAt.EqAt.str_int x t j u _ _ _ _ h
   ·rw[zq6] at h;exact wpAny_eqBool_str h
 «strs»:=λk x t v h=>by
  rcases zaj h with⟨i,u,rfl,e⟩|⟨y,u,rfl,e⟩
  ·exact nomatch e
  ·injection e with e1 _
   subst e1
   cases v<;>rfl
theorem zh5(prog:Program)(w:World)(i:Int)(t:Tok):(zai prog w).is (.inl i) (.int i t)=true:=zlH i t
theorem zeV(prog:Program)(w:World)(x:Str)(t:Tok):(zai prog w).is (.inr x) (.str x t)=true:=zln x t
inductive V where
 |non|bl (b:Bool)|int (i:Int)|str (x:Str)|byt (b:Array UInt8)|flt (b:UInt64)|ref (a:Addr)|ty (n:String)
 deriving DecidableEq
def RelV:V->Value->Prop
 | .non,u=>u=Value.none
 | .bl b,u=>u=Value.bool b
 | .int i,u=>∃t,u=Value.int i t
 | .str x,u=>∃t,u=Value.str x t
 | .byt b,u=>∃t,u=Value.bytes b t
 | .flt b,u=>∃t,u=Value.float b t
 | .ref a,u=>u=Value.ref a
 | .ty n,u=>u=Value.type n
abbrev Vals:List V->List Value->Prop:=Paired RelV
theorem Vals.length{xs:List V}{us:List Value}(r:Vals xs us):xs.length=us.length:=Paired.length r
theorem Vals.get:∀{xs:List V} {us:List Value} {i:Nat} {x:V},Vals xs us->xs[i]?=some x->∃u,us[i]?=some u/\RelV x u
 |_,_,_,_, .nil,e=>by simp at e
 |_,_,0,_, .cons r _,e=>by simp at e;subst e;exact⟨_,rfl,r⟩
 |_,_,i+1,x, .cons _ t,e=>by
  obtain⟨u,h1,h2⟩:=Vals.get (i:=i) (x:=x) t (by simpa using e)
  exact⟨u,by simpa using h1,h2⟩
theorem Vals.set{x:V}{u:Value}(r:RelV x u):∀{xs:List V} {us:List Value} (i:Nat),Vals xs us->Vals (xs.set i x) (us.set i u)
 |_,_,_, .nil=> .nil
 |_,_,0, .cons _ t=> .cons r t
 |_,_,i+1, .cons q t=> .cons q (Vals.set r i t)
theorem Vals.append:∀{xs ys:List V} {us ws:List Value},Vals xs us->Vals ys ws->Vals (xs ++ys) (us ++ws)
 |_,_,_,_, .nil,s=>s
 |_,_,_,_, .cons r t,s=> .cons r (Vals.append t s)
theorem Vals.take:∀{xs:List V} {us:List Value} (n:Nat),Vals xs us->Vals (xs.take n) (us.take n)
 |_,_,0,_=> .nil
 |_,_,_+1, .nil=> .nil
 |_,_,n+1, .cons r t=> .cons r (Vals.take n t)
theorem Vals.drop:∀{xs:List V} {us:List Value} (n:Nat),Vals xs us->Vals (xs.drop n) (us.drop n)
 |_,_,0,r=>r
 |_,_,_+1, .nil=> .nil
 |_,_,n+1, .cons _ t=>Vals.drop n t
def RelO:Option V->Option Value->Prop
 |some v,some u=>RelV v u
 |none,none=>True
 |_,_=>False
def KV{κ:Type}:List (κ×V)->List (κ×Value)->Prop:=Paired λ(p:κ×V) (q:κ×Value)=>p.1=q.1/\RelV p.2 q.2
noncomputable def kV:Key->V
 | .inl i=> .int i
 | .inr x=> .str x
inductive HO where
 |lst (xs:List V)
 |tup (xs:List V)
 |dK (kvs:List (Key×V))|dT (kvs:List (List Key×V))
 |set (S:Int->Bool) (n:Nat)
 |ins (C dx:Addr) (fs:List (Str×V))
 |own (x:Addr)
 |xd (fs:List (Str×V))
 |met (f x:Addr)
 |rng (lo hi:Int)
 |frz (o:Obj) (u:HO)
 |tbl (ps:Array Value)
 |ext (φ:Heap->Prop)
noncomputable abbrev Hp:=Addr->Option HO
noncomputable def upd(H:Hp)(a:Addr)(o:HO):Hp:=λb=>if b=a then some o else H b
theorem zb{H:Hp}{a:Addr}{o:HO}:upd H a o a=some o:=by unfold upd;rw[if_pos rfl]
theorem zi{H:Hp}{a b:Addr}{o:HO}(h:b≠a):upd H a o b=H b:=by unfold upd;rw[if_neg h]
theorem zca{H:Hp}{a b:Addr}{o u:HO}(h:H a=some o)(h':H b=some u)(d:o≠u):a≠b:=by
 intro e;subst e;rw[h] at h';exact d (ξh h')
theorem ze{H:Hp}{a b:Addr}{o:HO}(h:H a=some o)(h':H b=none):a≠b:=by
 intro e;subst e;rw[h] at h';cases h'
section
variable(P:Program)(w:World)
def NoDict(h:Heap)(a:Addr):Prop:=∀o,h.get? a=some o->o.dict=none
theorem NoDict.new{h:Heap}{o:Obj}(e:o.dict=none)(f:(h.push o).get? h.objs.size=some o):NoDict (h.push o) h.objs.size:=λo' z=>by rw[f] at z;cases z;exact e
def ObjOk(H:Hp)(h:Heap)(a:Addr):HO->Prop
 | .lst xs=>xs.length<=sizeLine/\∃(its:List Value) (n:Nat),Vals xs its/\h.get? a=some {cls:= .type "list",data:= .seq its.toArray n}
 | .tup xs=>xs.length<=sizeLine/\∃its:List Value,Vals xs its/\IsTup h a its.toArray/\NoDict h a
 | .dK kvs=>kvs.length<=sizeLine/\(a==sysModules)=false/\∃vs,KV kvs vs/\h.DictOf (zai P w) a vs
 | .dT kvs=>kvs.length<=sizeLine/\(a==sysModules)=false/\∃xs:List (List Key×Addr×Value),
    Paired (λ(p:List Key×V) (q:List Key×Addr×Value)=>p.1=q.1/\H q.2.1=some (.tup (p.1.map kV))/\RelV p.2 q.2.2) kvs xs/\
    ∃o es ep,h.get? a=some o/\o.ExactDict/\o.data= .dict es ep/\es.toList=xs.map (entryOfKey (tupleKind (zai P w)))/\(xs.map (·.1)).Nodup
 | .set S n=>h.SetOf (intKind P w) a S n
 | .ins C dx fs=>H dx=some (.own a)/\fs.length<=1000/\dx≠a/\h.get? a=some (PySem.W.instObj C dx)/\
    ∃mA,h.Ns1 dx mA/\(∀f,RelO (fs.lookup f) (mA f))/\PySem.Within mA (fs.map (·.1))
 | .own _=>∃o,h.get? a=some o
 | .xd fs=>∃mA,h.Ns1 a mA/\∀f,RelO (fs.lookup f) (mA f)
 | .rng lo hi=>∃t u v,h.get? a=some {cls:= .type "range",data:= .fields #[.int lo t, .int hi u, .int 1 v]}
 | .frz o u=>h.get? a=some o/\ObjOk H h a u
 | .tbl ps=>h.get? a=some {cls:= .none,data:= .fields ps}
 | .met f x=>h.get? a=some (PySem.W.methodObj (.ref f) (.ref x))
 | .ext φ=>φ h/\(∃o,h.get? a=some o)/\∀h1 h2:Heap,φ h1->(∀o,h1.get? a=some o->h2.get? a=some o)->φ h2
def HOk(H:Hp)(h:Heap):Prop:=∀a o,H a=some o->ObjOk P w H h a o
end
section
variable{P:Program}{w:World}{H H':Hp}{h h':Heap}{a:Addr}{o:HO}
theorem ObjOk.lt(x:ObjOk P w H h a o):a<h.objs.size:=by
 cases o with
 |lst xs=>obtain ⟨_,_,_,_,e⟩:=x;exact ζm e
 |tup xs=>obtain ⟨_,_,_,p,_⟩:=x;exact p.lt
 |dK kvs=>obtain ⟨_,_,_,_,o,_,_,e,_⟩:=x;exact ζm e
 |dT kvs=>obtain ⟨_,_,_,_,o,_,_,e,_⟩:=x;exact ζm e
 |set S n=>obtain ⟨o,_,_,_,e,_⟩:=x;exact ζm e
 |ins C dx fs=>obtain ⟨_,_,_,e,_⟩:=x;exact ζm e
 |own y=>obtain ⟨_,e⟩:=x;exact ζm e
 |xd fs=>obtain ⟨_,⟨_,_,_,e,_⟩,_⟩:=x;exact ζm e
 |rng lo hi=>obtain ⟨_,_,_,e⟩:=x;exact ζm e
 |frz ob u=>obtain ⟨e,_⟩:=x;exact ζm e
 |tbl ps=>exact ζm (show h.get? a=some _ from x)
 |met f y=>exact ζm (show h.get? a=some _ from x)
 |ext φ=>obtain ⟨_,⟨_,e⟩,_⟩:=x;exact ζm e
theorem Paired.mapP{α β:Type}{F G:α->β->Prop}:∀{l₁:List α} {l₂:List β},Paired F l₁ l₂->(∀a b,F a b->G a b)->Paired G l₁ l₂
 |_,_, .nil,_=> .nil
 |_,_, .cons r t,f=> .cons (f _ _ r) (Paired.mapP t f)
theorem ObjOk.stay(x:ObjOk P w H h a o)(k:∀b u,(b=a\/H b=some (.own a))->h.get? b=some u->h'.get? b=some u)
 (ho:∀b,H b=some (.own a)->H' b=some (.own a)) (ht:∀b xs,H b=some (.tup xs)->H' b=some (.tup xs)):ObjOk P w H' h' a o:=by
 induction o with
 |lst xs=>obtain ⟨z,its,n,r,e⟩:=x;exact⟨z,its,n,r,k _ _ (.inl rfl) e⟩
 |tup xs=>obtain ⟨z,its,r,⟨ob,e,c⟩,nd⟩:=x;exact⟨z,its,r,⟨ob,k _ _ (.inl rfl) e,c⟩,λo q=>by rw[k _ _ (.inl rfl) e] at q;cases q;exact nd _ e⟩
 |dK kvs=>obtain ⟨z,y,vs,r,ob,es,ep,e,c⟩:=x;exact⟨z,y,vs,r,ob,es,ep,k _ _ (.inl rfl) e,c⟩
 |dT kvs=>
  obtain⟨z,y,xs,r,ob,es,ep,e,c⟩:=x
  exact⟨z,y,xs,Paired.mapP r λp q z=>⟨z.1,ht _ _ z.2.1,z.2.2⟩,ob,es,ep,k _ _ (.inl rfl) e,c⟩
 |set S n=>obtain ⟨ob,es,ep,t,e,c⟩:=x;exact⟨ob,es,ep,t,k _ _ (.inl rfl) e,c⟩
 |ins C dx fs=>
  obtain⟨d,z,ne,e,mA,⟨od,es,ep,e2,c⟩,r⟩:=x
  exact⟨ho _ d,z,ne,k _ _ (.inl rfl) e,mA,⟨od,es,ep,k _ _ (.inr d) e2,c⟩,r⟩
 |own y=>obtain ⟨ob,e⟩:=x;exact⟨ob,k _ _ (.inl rfl) e⟩
 |xd fs=>obtain ⟨mA,⟨od,es,ep,e,c⟩,r⟩:=x;exact⟨mA,⟨od,es,ep,k _ _ (.inl rfl) e,c⟩,r⟩
 |rng lo hi=>obtain ⟨t,u,v,e⟩:=x;exact⟨t,u,v,k _ _ (.inl rfl) e⟩
 |frz ob u ih=>obtain ⟨e,q⟩:=x;exact⟨k _ _ (.inl rfl) e,ih q⟩
 |tbl ps=>
  have e:h.get? a=some {cls:= .none,data:= .fields ps}:=x
  show h'.get? a=some {cls:= .none,data:= .fields ps}
  exact k a _ (.inl rfl) e
 |met f y=>
  have e:h.get? a=some (PySem.W.methodObj (.ref f) (.ref y)):=x
  show h'.get? a=some (PySem.W.methodObj (.ref f) (.ref y))
  exact k a _ (.inl rfl) e
 |ext φ=>obtain ⟨p,⟨o,e⟩,st⟩:=x;exact⟨st _ _ p λo q=>k _ _ (.inl rfl) q,⟨o,k _ _ (.inl rfl) e⟩,st⟩
theorem HOk.lt(x:HOk P w H h)(e:H a=some o):a<h.objs.size:=(x a o e).lt
theorem HOk.fresh(x:HOk P w H h)(e:h.objs.size<=a):H a=none:=by
 cases q:H a with
 |none=>rfl
 |some u=>exact absurd (ξf (x.lt q) e) (Nat.lt_irrefl _)
theorem HOk.kept(x:HOk P w H h)(k:∀b u,h.get? b=some u->h'.get? b=some u):HOk P w H h':=λa o e=>
 (x a o e).stay (λb u _ q=>k b u q) (λ_ q=>q) λ_ _ q=>q
theorem HOk.laid(x:HOk P w H h)(k:∀b u,h.get? b=some u->h'.get? b=some u)(hp:h.objs.size<=a)(new:ObjOk P w (upd H a o) h' a o):HOk P w (upd H a o) h':=λb u e=>by
 have hn:=x.fresh hp
 by_cases hb:b=a
 ·subst hb;rw[zb] at e;cases e;exact new
 ·rw[zi hb] at e
  exact(x b u e).stay (λc v _ q=>k c v q) (λc q=>by rw[zi (ze q hn)];exact q) λc xs q=>by rw[zi (ze q hn)];exact q
end
def Rd(H:Hp)(a:Addr)(u:HO):Prop:=H a=some u\/∃o,H a=some (.frz o u)
theorem Rd.ok{P:Program}{w:World}{H:Hp}{h:Heap}{a:Addr}{u:HO}(r:Rd H a u)(x:HOk P w H h):ObjOk P w H h a u:=by
 rcases r with r|⟨o,r⟩
 ·exact x a u r
 ·obtain ⟨_,q⟩:=x a _ r
  exact q
def Mut:Option HO->Prop
 |some (.lst _)=>True
 |some (.dK _)=>True
 |some (.dT _)=>True
 |some (.set _ _)=>True
 |some (.ins _ _ _)=>True
 |some (.ext _)=>True
 |_=>False
section
variable{P:Program}{w:World}{H:Hp}{h h':Heap}{x e:Addr}{o':HO}
theorem HOk.write(ok:HOk P w H h)(mu:Mut (H x))(he:e=x\/H e=some (.own x))(k:∀b u,b≠e->h.get? b=some u->h'.get? b=some u)(heo:∃u,h'.get? e=some u)
 (new:ObjOk P w (upd H x o') h' x o'):HOk P w (upd H x o') h':=λb u q=>by
 have nown:∀c y,H c=some (.own y)->c≠x:=λc y r z=>by subst z;rw[r] at mu;exact mu
 have ntup:∀c xs,H c=some (.tup xs)->c≠x:=λc xs r z=>by subst z;rw[r] at mu;exact mu
 by_cases hb:b=x
 ·subst hb;rw[zb] at q;cases q;exact new
 ·rw[zi hb] at q
  by_cases hbe:b=e
  ·have q':H b=some (.own x):=by
    rcases he with z|z
    ·exact absurd (hbe.trans z) hb
    ·rw[hbe];exact z
   rw[q] at q';cases q'
   obtain⟨v,hv⟩:=heo
   exact⟨v,by rw[hbe];exact hv⟩
  ·refine (ok b u q).stay (λc v hc r=>k c v ?_ r) (λc r=>by rw[zi (nown c b r)];exact r) λc xs r=>by rw[zi (ntup c xs r)];exact r
   rcases hc with rfl|hc
   ·exact hbe
   ·rintro rfl
    rcases he with z|z
    ·exact nown c b hc z
    ·rw[hc] at z;cases z;exact hb rfl
end
structure Un(fs ex:List Addr)(H H':Hp)(h h':Heap):Prop where
 keep:∀b o,h.get? b=some o->H b=none->b∉fs->b∉ex->h'.get? b=some o
 slot:∀b o,h.get? b=some o->H b=none->b∈fs->b∉ex->∃sl,h'.get? b=some {o with slots:=sl}
 free:∀b o,h.get? b=some o->H b=none->b∉ex->H' b=none
 there:∀b o,h.get? b=some o->b∉ex->∃o',h'.get? b=some o'
 tups:∀b xs,H b=some (.tup xs)->H' b=some (.tup xs)
 frzs:∀b o u,H b=some (.frz o u)->H' b=some (.frz o u)
 tbls:∀b ps,H b=some (.tbl ps)->∃more,H' b=some (.tbl (ps ++more))
section
variable{fs fs' ex ex':List Addr}{H H1 H2:Hp}{h h1 h2 h':Heap}{a x e:Addr}{o:HO}
theorem Un.any(u:Un fs ex H H1 h h1){b:Addr}{ob:Obj}(q:h.get? b=some ob)(n:H b=none)(hx:b∉ex):∃sl,h1.get? b=some {ob with slots:=sl}:=by
 by_cases hb:b∈fs
 ·exact u.slot b ob q n hb hx
 ·exact ⟨ob.slots,u.keep b ob q n hb hx⟩
theorem Un.kept(k:∀b u,h.get? b=some u->h'.get? b=some u):Un fs ex H H h h':=
 ⟨λb ob q _ _ _=>k b ob q,λb ob q _ _ _=>⟨ob.slots,k b ob q⟩,λ_ _ _ n _=>n,λb ob q _=>⟨ob,k b ob q⟩,λ_ _ q=>q,λ_ _ _ q=>q,λ_ ps q=>⟨#[],by rw[q];simp⟩⟩
theorem Un.refl:Un fs ex H H h h:=Un.kept λ_ _ q=>q
theorem Un.laid(k:∀b u,h.get? b=some u->h'.get? b=some u)(hp:h.objs.size<=a)(hn:H a=none):Un fs ex H (upd H a o) h h' where
 keep:=λb u q _ _ _=>k b u q
 slot:=λb u q _ _ _=>⟨u.slots,k b u q⟩
 free:=λb u q n _=>by rw[zi (ξj (ξf (ζm q) hp))];exact n
 there:=λb u q _=>⟨u,k b u q⟩
 tups:=λb xs q=>by rw[zi (ze q hn)];exact q
 frzs:=λb u xs q=>by rw[zi (ze q hn)];exact q
 tbls:=λb ps q=>⟨#[],by rw[zi (ze q hn),q];simp⟩
theorem Un.write(mu:Mut (H x))(he:e=x\/H e=some (.own x))(k:∀b u,b≠e->h.get? b=some u->h'.get? b=some u)(heo:∃u,h'.get? e=some u):Un fs ex H (upd H x o) h h':=by
 have hx:∀b,H b=none->b≠x:=λb n z=>by subst z;rw[n] at mu;exact mu
 have hb:∀b,H b=none->b≠e:=λb n z=>by
  subst z
  rcases he with r|r
  ·exact hx b n r
  ·rw[n] at r;cases r
 have hm:∀b u,H b=some u->¬Mut (some u)->b≠x:=λb u q nm z=>by subst z;rw[q] at mu;exact nm mu
 refine⟨λb u q n _ _=>k b u (hb b n) q,λb u q n _ _=>⟨u.slots,k b u (hb b n) q⟩,λb u q n _=>by rw[zi (hx b n)];exact n,λb u q _=>?_,
  λb xs q=>by rw[zi (hm b _ q λz=>z)];exact q,λb u xs q=>by rw[zi (hm b _ q λz=>z)];exact q,λb ps q=>⟨#[],by rw[zi (hm b _ q λz=>z),q];simp⟩⟩
 by_cases hbe:b=e
 ·subst hbe;exact heo
 ·exact ⟨u,k b u hbe q⟩
end
noncomputable def trk(h:Heap)(H:Hp):List Addr:=(List.range h.objs.size).filter λa=>(H a).isSome
noncomputable def zhB(h:Heap)(H:Hp):Heap:=PySem.W.hideAll h (trk h H)
theorem zly(h:Heap)(H:Hp):(zhB h H).objs.size=h.objs.size:=PySem.W.hideAll_size _ _
theorem zmP{h:Heap}{H:Hp}{b:Addr}{o:Obj}(e:h.get? b=some o)(n:H b=none):(zhB h H).get? b=some o:=
 PySem.W.hideAll_get _ e λhm=>by
  have q:(H b).isSome=true:=(List.mem_filter.mp hm).2
  rw[n] at q;simp at q
theorem zpe{h:Heap}{H:Hp}{b:Addr}{o:Obj}(e:(zhB h H).get? b=some o):h.get? b=some o/\H b=none:=by
 have e':h.get? b=some o:=PySem.W.of_hideAll (trk h H) e
 refine⟨e',?_⟩
 cases q:H b with
 |none=>rfl
 |some x=>
  have hm:b∈trk h H:=List.mem_filter.mpr ⟨List.mem_range.mpr (ζm e'),by simp[q]⟩
  have z:(zhB h H).get? b=none:=PySem.W.hideAll_none (trk h H) hm
  rw[z] at e;cases e
structure Mod(K:ξk)(mg:Str->Option Value)(base:Heap):Prop where
 kin:K.In base
 glob:base.Ns mainGlobals mg
 blt:∃mb,base.Ns builtinsNs mb/\∀x:Str,x≠"__name__"->mb x=bootBuiltins x
 nolimit:base.NoLimit
structure Cx where
 prog:Program
 w:World
 K:ξk
 mg:Str->Option Value
 base:Heap
 A:Around
 N:List Str
 s₀:Shared
 H₀:Hp
 env:Env
 outer:List Env
 stack:List Env
 ex:List Addr
 fn:Str->Bool
 calm:Bool
 pn:List (Addr×Obj)
 xe:Value->Shared->Prop
noncomputable def frs(l:List Env):List Addr:=l.filterMap (·.frame)
noncomputable abbrev Cx.fs(X:Cx):List Addr:=frs X.outer
def Vis(sc:Scope)(x:Str):Prop:=sc.names.lookup x=some .local\/sc.names.lookup x=some .cell\/sc.names.lookup x=some .free
def Loc(sc:Scope)(x:Str):Prop:=sc.names.lookup x=some .local\/sc.names.lookup x=some .cell
def zsd(env:Env)(h:Heap)(m:Str->Option Value)(x:Str)(u:Value):Prop:=
 (env.kindOf x=some .local/\m x=some u)\/((env.kindOf x=some .cell\/env.kindOf x=some .free)/\∃c,env.cells.lookup x=some c/\h.IsCell c (some u))
structure Cx.Ok(X:Cx):Prop where
 mod:Mod X.K X.mg X.base
 kind:X.env.scope.kind= .function
 glob:X.env.globals=mainGlobals
 blt:X.env.builtins=builtinsNs
 above:X.s₀.heap.objs.size<=X.env.locals
 inj:∀x y c,X.env.cells.lookup x=some c->X.env.cells.lookup y=some c->x=y
 has:∀x,(X.env.kindOf x=some .cell\/X.env.kindOf x=some .free)->∃c,X.env.cells.lookup x=some c
 cab:∀x c,X.fn x=true->X.env.cells.lookup x=some c->X.s₀.heap.objs.size<=c
 hd:X.calm=true->X.A.handled=none
 frames:X.A.frames=some X.stack
 stk:X.stack=X.outer\/(X.stack=X.env::X.outer/\X.env.frame=some X.env.locals)
 exf:∀b∈X.ex,b≠X.env.locals/\∀x c,X.env.cells.lookup x=some c->c≠b
 bs:∀b o,X.base.get? b=some o->X.s₀.heap.get? b=some o/\X.H₀ b=none
 bsz:X.base.objs.size<=X.s₀.heap.objs.size
 noex:∀b o,X.base.get? b=some o->b∉X.ex
 exfs:∀b∈X.ex,b∉X.fs
 funs:X.s₀.heap.FunFrames X.base X.outer
 frf:∀b∈X.fs,X.H₀ b=none
structure Inv(X:Cx)(pins:List (Addr×Obj))(σ:List (Option V))(H:Hp)(s:Shared):Prop where
 ok:X.Ok
 os:s.os=X.s₀.os
 bare:AllBare s.gens
 base:Un X.fs X.ex X.H₀ H X.s₀.heap s.heap
 loc:∃m,s.heap.Ns X.env.locals m/\∀(i:Nat) (x:Str) (v:V),X.N[i]?=some x->σ[i]?=some (some v)->Vis X.env.scope x->∃u,RelV v u/\zsd X.env s.heap m x u
 cell:∀x c,X.env.cells.lookup x=some c->∃v,s.heap.IsCell c v
 free:H X.env.locals=none
 freeC:∀x c,X.env.cells.lookup x=some c->H c=none
 pin:∀p∈X.pn ++pins,s.heap.get? p.1=some p.2/\H p.1=none/\p.1≠X.env.locals/\p.1∉X.fs/\∀v,p.2.data≠ .cell v
 hok:HOk X.prog X.w H s.heap
 len:σ.length=X.N.length
section
variable{X:Cx}{pins:List (Addr×Obj)}{σ:List (Option V)}{H H':Hp}{s:Shared}{h':Heap}
theorem Cx.Ok.nofr(ok:X.Ok){b:Addr}{o:Obj}(e:X.base.get? b=some o):b∉X.fs:=λhb=>by
 have:=(ok.funs.mem hb).1
 rw[e] at this;cases this
theorem Inv.bs(I:Inv X pins σ H s):∀b o,X.base.get? b=some o->s.heap.get? b=some o/\H b=none:=λb o e=>
 ⟨I.base.keep b o (I.ok.bs b o e).1 (I.ok.bs b o e).2 (I.ok.nofr e) (I.ok.noex b o e),I.base.free b o (I.ok.bs b o e).1 (I.ok.bs b o e).2 (I.ok.noex b o e)⟩
theorem Inv.bk(I:Inv X pins σ H s):∀b o,X.base.get? b=some o->s.heap.get? b=some o:=λb o e=>(I.bs b o e).1
theorem Inv.mod(I:Inv X pins σ H s):Mod X.K X.mg X.base:=I.ok.mod
theorem Inv.kIn(I:Inv X pins σ H s):X.K.In s.heap:=I.ok.mod.kin.keeps I.bk
theorem Inv.lt(I:Inv X pins σ H s):X.env.locals<s.heap.objs.size:=let⟨_,hn,_⟩:=I.loc;hn.lt
theorem Inv.sz(I:Inv X pins σ H s):X.s₀.heap.objs.size<=s.heap.objs.size:=ξa I.ok.above (ξg I.lt)
theorem Inv.nofs(I:Inv X pins σ H s){a:Addr}(h:s.heap.objs.size<=a):a∉X.fs:=λhb=>by
 obtain⟨_,o,ho,_⟩:=I.ok.funs.mem hb
 exact absurd (ξf (ζm ho) (ξa I.sz h)) (Nat.lt_irrefl _)
theorem Inv.cne(I:Inv X pins σ H s):∀x c,X.env.cells.lookup x=some c->c≠X.env.locals:=λx c e z=>by
 obtain⟨v,o,ho,hd⟩:=I.cell x c e
 obtain⟨m,⟨o',es,ep,ho',hd',_⟩,_⟩:=I.loc
 rw[z,ho'] at ho;cases ho;rw[hd'] at hd;cases hd
theorem Inv.funs(I:Inv X pins σ H s):s.heap.FunFrames X.base X.outer:=by
 have all:∀(l:List Env),(∀b∈frs l,b∈X.fs)->X.s₀.heap.FunFrames X.base l->s.heap.FunFrames X.base l:=by
  intro l
  induction l with
  |nil=>intro _ _;trivial
  |cons env r ih=>
   intro hs hl
   obtain⟨hk,⟨L,o,hf,hn,ho,hd⟩,hr⟩:=hl
   have hL:L∈X.fs:=hs L (by unfold frs;rw[List.filterMap_cons,hf];exact ζo)
   obtain⟨sl,e⟩:=I.base.slot L o ho (I.ok.frf L hL) hL λz=>I.ok.exfs L z hL
   exact⟨hk,⟨L,_,hf,hn,e,hd⟩,ih (λb hb=>hs b (by unfold frs;rw[List.filterMap_cons,hf];exact ξc _ hb)) hr⟩
 exact all X.outer (λ_ hb=>hb) I.ok.funs
theorem Inv.stack(I:Inv X pins σ H s):s.heap.FunFrames X.base X.stack:=by
 rcases I.ok.stk with e|⟨e,hf⟩
 ·rw[e];exact I.funs
 ·rw[e]
  obtain⟨m,hn,_⟩:=I.loc
  refine .cons (by rw[I.ok.kind];decide) hf hn ?_ I.funs
  exact Heap.get?_none_of_le (ξa I.ok.bsz I.ok.above)
theorem Inv.stkSub(I:Inv X pins σ H s):∀b∈frs X.stack,b∈X.env.locals::X.fs:=λb hb=>by
 rcases I.ok.stk with e|⟨e,hf⟩
 ·rw[e] at hb;exact ξc _ hb
 ·rw[e] at hb
  unfold frs at hb
  rw[List.filterMap_cons,hf] at hb
  exact hb
theorem Inv.stkFree(I:Inv X pins σ H s):∀b∈frs X.stack,H b=none:=λb hb=>by
 rcases List.mem_cons.mp (I.stkSub b hb)with e|hb
 ·rw[e];exact I.free
 ·obtain ⟨_,o,ho,_⟩:=I.ok.funs.mem hb
  exact I.base.free b o ho (I.ok.frf b hb) λz=>I.ok.exfs b z hb
theorem Inv.step{g':Array GenState}{t':Nat}{d':Drawn}{ch:List Addr}(I:Inv X pins σ H s)
 (hch:∀b∈ch,(b∈X.ex\/X.s₀.heap.objs.size<=b)/\b≠X.env.locals/\(∀x c,X.env.cells.lookup x=some c->c≠b)/\∀p∈X.pn ++pins,p.1≠b)
 (keep:∀b o,b≠X.env.locals->b∉X.fs->b∉ch->s.heap.get? b=some o->H b=none->h'.get? b=some o)
 (slot:∀b o,b≠X.env.locals->b∈X.fs->b∉ch->s.heap.get? b=some o->H b=none->∃sl,h'.get? b=some {o with slots:=sl}) (free:∀b o,b∉ch->s.heap.get? b=some o->H b=none->H' b=none)
 (there:∀b o,b∉ch->s.heap.get? b=some o->∃o',h'.get? b=some o')
 (tups:∀b xs,H b=some (.tup xs)->H' b=some (.tup xs)) (frzs:∀b o u,H b=some (.frz o u)->H' b=some (.frz o u)) (tbls:∀b ps,H b=some (.tbl ps)->∃more,H' b=some (.tbl (ps ++more)))
 (ns:∀m,s.heap.Ns X.env.locals m->h'.Ns X.env.locals m) (hok:HOk X.prog X.w H' h') (hg:AllBare g'):
 Inv X pins σ H' {s with heap:=h',gens:=g',drawn:=d',toks:=t'}:=by
 have neL:∀b o,X.s₀.heap.get? b=some o->b≠X.env.locals:=λb o e=>ξj (ξf (ζm e) I.ok.above)
 have neC:∀b o,X.s₀.heap.get? b=some o->b∉X.ex->b∉ch:=λb o e hx hb=>by
  rcases(hch b hb).1 with z|z
  ·exact hx z
  ·exact absurd (ξf (ζm e) z) (Nat.lt_irrefl _)
 have cellK:∀x c,X.env.cells.lookup x=some c->∀v,s.heap.IsCell c v->h'.IsCell c v:=λx c e v ⟨o,ho,hd⟩=>by
  have nch:c∉ch:=λz=>(hch c z).2.2.1 x c e rfl
  by_cases hc:c∈X.fs
  ·obtain ⟨sl,q⟩:=slot c o (I.cne x c e) hc nch ho (I.freeC x c e)
   exact⟨_,q,hd⟩
  ·exact ⟨o,keep c o (I.cne x c e) hc nch ho (I.freeC x c e),hd⟩
 refine⟨I.ok,I.os,hg,⟨λb o e n hb hx=>?_,λb o e n hb hx=>?_,λb o e n hx=>?_,λb o e hx=>?_,λb xs e=>tups b xs (I.base.tups b xs e),λb o xs e=>frzs b o xs (I.base.frzs b o xs e),λb ps e=>?_⟩,?_,λx c e=>?_,?_,λx c e=>?_,λp hp=>?_,hok,I.len⟩
 ·exact keep b o (neL b o e) hb (neC b o e hx) (I.base.keep b o e n hb hx) (I.base.free b o e n hx)
 ·obtain ⟨sl,e1⟩:=I.base.slot b o e n hb hx
  obtain⟨sl',e2⟩:=slot b _ (neL b o e) hb (neC b o e hx) e1 (I.base.free b o e n hx)
  exact⟨sl',e2⟩
 ·obtain ⟨o',e1⟩:=I.base.there b o e hx
  exact free b o' (neC b o e hx) e1 (I.base.free b o e n hx)
 ·obtain ⟨o',e1⟩:=I.base.there b o e hx
  exact there b o' (neC b o e hx) e1
 ·obtain ⟨m1,e1⟩:=I.base.tbls b ps e
  obtain⟨m2,e2⟩:=tbls b _ e1
  exact⟨m1 ++m2,by rw[e2,Array.append_assoc]⟩
 ·obtain ⟨m,hn,hl⟩:=I.loc
  refine⟨m,ns m hn,λi x v e1 e2 e3=>?_⟩
  obtain⟨u,r,l⟩:=hl i x v e1 e2 e3
  refine⟨u,r,?_⟩
  rcases l with l|⟨k,c,e,z⟩
  ·exact .inl l
  ·exact .inr ⟨k,c,e,cellK x c e _ z⟩
 ·obtain ⟨v,z⟩:=I.cell x c e
  exact⟨v,cellK x c e v z⟩
 ·obtain ⟨m,⟨o,_,_,ho,_⟩,_⟩:=I.loc
  exact free _ o (λz=>(hch _ z).2.1 rfl) ho I.free
 ·obtain ⟨v,o,ho,hd⟩:=I.cell x c e
  exact free c o (λz=>(hch c z).2.2.1 x c e rfl) ho (I.freeC x c e)
 ·obtain ⟨e,n,ne,nf,d⟩:=I.pin p hp
  have nch:p.1∉ch:=λz=>(hch p.1 z).2.2.2 p hp rfl
  exact⟨keep p.1 p.2 ne nf nch e n,free p.1 p.2 nch e n,ne,nf,d⟩
theorem Inv.un{t':Nat}(I:Inv X pins σ H s)(u:Un X.fs [] H H' s.heap h')(hok:HOk X.prog X.w H' h'):Inv X pins σ H' {s with heap:=h',toks:=t'}:=by
 obtain⟨m,⟨o,es,ep,ho,r⟩,_⟩:=id I.loc
 obtain⟨sl,hL⟩:=u.any ho I.free (by simp)
 exact I.step (g':=s.gens) (d':=s.drawn) (ch:=[]) (λ_ z=>nomatch z) (λb o _ hb _ e n=>u.keep b o e n hb (by simp)) (λb o _ hb _ e n=>u.slot b o e n hb (by simp)) (λb o _ e n=>u.free b o e n (by simp)) (λb o _ e=>u.there b o e (by simp)) u.tups u.frzs u.tbls (λm' hm=>by
  obtain⟨o',es',ep',ho',r'⟩:=hm
  rw[ho] at ho';cases ho'
  exact⟨_,es',ep',hL,r'⟩) hok I.bare
theorem Inv.call{g':Array GenState}{t':Nat}{d':Drawn}{ch:List Addr}(I:Inv X pins σ H s)(u:Un (frs X.stack) ch H H' s.heap h')(hok:HOk X.prog X.w H' h')(hg:AllBare g')
 (hch:∀b∈ch,(b∈X.ex\/X.s₀.heap.objs.size<=b)/\b≠X.env.locals/\(∀x c,X.env.cells.lookup x=some c->c≠b)/\∀p∈X.pn ++pins,p.1≠b):
 Inv X pins σ H' {s with heap:=h',gens:=g',drawn:=d',toks:=t'}:=by
 obtain⟨m,⟨o,es,ep,ho,r⟩,_⟩:=id I.loc
 obtain⟨sl,hL⟩:=u.any ho I.free λz=>(hch _ z).2.1 rfl
 exact I.step (ch:=ch) hch (λb o hL hb hc e n=>u.keep b o e n (λz=>(List.mem_cons.mp (I.stkSub b z)).elim hL hb) hc) (λb o _ _ hc e n=>u.any e n hc) (λb o hc e n=>u.free b o e n hc) (λb o hc e=>u.there b o e hc) u.tups u.frzs u.tbls (λm' hm=>by
  obtain⟨o',es',ep',ho',r'⟩:=hm
  rw[ho] at ho';cases ho'
  exact⟨_,es',ep',hL,r'⟩) hok hg
theorem Inv.turned{t':Nat}{it:Addr}(I:Inv X pins σ H s)(k:∀b o,b≠it->s.heap.get? b=some o->h'.get? b=some o)(hn:H it=none)(hL:it≠X.env.locals)
 (h1:it∈X.ex\/X.s₀.heap.objs.size<=it) (h2:∀x c,X.env.cells.lookup x=some c->c≠it) (h3:∀p∈X.pn ++pins,p.1≠it):Inv X pins σ H {s with heap:=h',toks:=t'}:=by
 have nit:∀b u,H b=some u->b≠it:=λb u e z=>by rw[z,hn] at e;cases e
 refine I.step (g':=s.gens) (d':=s.drawn) (ch:=[it]) (λb hb=>?_) (λb o _ _ hc e _=>k b o (λz=>hc (by simp[z])) e) (λb o _ _ hc e _=>⟨o.slots,k b o (λz=>hc (by simp[z])) e⟩) (λ_ _ _ _ n=>n)
  (λb o hc e=>⟨o,k b o (λz=>hc (by simp[z])) e⟩) (λ_ _ e=>e) (λ_ _ _ e=>e) (λb ps e=>⟨#[],by rw[e];simp⟩) (λm hm=>?_) (λb u e=>?_) I.bare
 ·have e:b=it:=by simpa using hb
  subst e
  exact⟨h1,hL,h2,h3⟩
 ·obtain ⟨o,es,ep,ho,r⟩:=hm
  exact⟨o,es,ep,k _ o (Ne.symm hL) ho,r⟩
 ·refine (I.hok b u e).stay (λc v hc q=>k c v ?_ q) (λ_ q=>q) λ_ _ q=>q
  rcases hc with z|z
  ·rw[z];exact nit b u e
  ·exact nit c _ z
theorem Inv.tok(I:Inv X pins σ H s)(t:Nat):Inv X pins σ H {s with toks:=t}:=I.un (h':=s.heap) (t':=t) Un.refl I.hok
theorem Inv.kept{t':Nat}(I:Inv X pins σ H s)(k:∀b u,s.heap.get? b=some u->h'.get? b=some u):Inv X pins σ H {s with heap:=h',toks:=t'}:=I.un (Un.kept k) (I.hok.kept k)
theorem Inv.laid{a:Addr}{o:HO}{t':Nat}(I:Inv X pins σ H s)(k:∀b u,s.heap.get? b=some u->h'.get? b=some u)(hp:s.heap.objs.size<=a)(new:ObjOk X.prog X.w (upd H a o) h' a o):
 Inv X pins σ (upd H a o) {s with heap:=h',toks:=t'}:=I.un (Un.laid k hp (I.hok.fresh hp)) (I.hok.laid k hp new)
theorem Inv.write{x e:Addr}{o:HO}{t':Nat}(I:Inv X pins σ H s)(mu:Mut (H x))(he:e=x\/H e=some (.own x))(k:∀b u,b≠e->s.heap.get? b=some u->h'.get? b=some u)(heo:∃u,h'.get? e=some u)
 (new:ObjOk X.prog X.w (upd H x o) h' x o):Inv X pins σ (upd H x o) {s with heap:=h',toks:=t'}:=I.un (Un.write mu he k heo) (I.hok.write mu he k heo new)
theorem Inv.pins_of{pins':List (Addr×Obj)}(I:Inv X pins σ H s)(h:∀p∈pins',s.heap.get? p.1=some p.2/\H p.1=none/\p.1≠X.env.locals/\p.1∉X.fs/\∀v,p.2.data≠ .cell v):Inv X pins' σ H s:=
 ⟨I.ok,I.os,I.bare,I.base,I.loc,I.cell,I.free,I.freeC,λp hp=>(List.mem_append.mp hp).elim (λz=>I.pin p (List.mem_append_left _ z)) (h p),I.hok,I.len⟩
theorem ziu{N:List Str}(hN:N.Nodup){i j:Nat}{x:Str}(a:N[i]?=some x)(b:N[j]?=some x):i=j:=by
 obtain⟨h1,e1⟩:=List.getElem?_eq_some_iff.mp a
 obtain⟨h2,e2⟩:=List.getElem?_eq_some_iff.mp b
 exact(List.getElem_inj hN).mp (e1.trans e2.symm)
theorem zkY{M:Model}{A:Around}{E:Value->Shared->Prop}{i:Nat}{x:Str}{v:V}{u:Value}{Q:Unit->Shared->Prop}(I:Inv X pins σ H s)(hN:X.N.Nodup)(hi:X.N[i]?=some x)(hx:Loc X.env.scope x)(r:RelV v u)
 (h:∀s',Inv X pins (σ.set i (some v)) H s'->(∃a,Heap.SameBut a s.heap s'.heap/\(a=X.env.locals\/X.env.cells.lookup x=some a))->Q () s') (hf:X.fn x=true\/X.env.scope.names.lookup x=some .local:=by first|exact .inl rfl|exact .inr rfl|assumption):wpAny M A (storeName X.env x u) Q E s:=by
 obtain⟨m,hn,hl⟩:=id I.loc
 have hcls:(X.env.scope.kind== .class||(X.env.scope.kind== .module&&X.env.locals !=X.env.globals))=false:=by rw[I.ok.kind];rfl
 have hiσ:i<σ.length:=by rw[I.len];exact(List.getElem?_eq_some_iff.mp hi).1
 have cne:=I.cne
 have tracked:∀{a:Addr} {h':Heap},(∃o,s.heap.get? a=some o/\H a=none)->Heap.SameBut a s.heap h'->HOk X.prog X.w H h':=λ{a h'} ha hs b ob e=>by
  obtain⟨_,_,hfree⟩:=ha
  refine(I.hok b ob e).stay (λc w' hc q=>(hs.2 c ?_).trans q) (λ_ q=>q) λ_ _ q=>q
  rintro rfl
  rcases hc with rfl|hc
  ·rw[hfree] at e;cases e
  ·rw[hfree] at hc;cases hc
 rcases hx with hk|hk
 ·refine wpAny_storeName_local hk hn (λh' hn' hs=>?_) hcls
  obtain⟨oL,_,_,hoL,_⟩:=id hn
  refine h _ ⟨I.ok,I.os,I.bare,⟨λb o e n hb hx=>?_,λb o e n hb hx=>?_,I.base.free,λb o e hx=>?_,I.base.tups,I.base.frzs,I.base.tbls⟩,⟨_,hn',λj y v' e1 e2 e3=>?_⟩,λy c e=>?_,I.free,I.freeC,λp hp=>?_,tracked ⟨oL,hoL,I.free⟩ hs,by simpa using I.len⟩ ⟨_,hs, .inl rfl⟩
  ·exact (hs.2 b (ξj (ξf (ζm e) I.ok.above))).trans (I.base.keep b o e n hb hx)
  ·obtain ⟨sl,e1⟩:=I.base.slot b o e n hb hx
   exact⟨sl,(hs.2 b (ξj (ξf (ζm e) I.ok.above))).trans e1⟩
  ·obtain ⟨o',e1⟩:=I.base.there b o e hx
   exact⟨o',(hs.2 b (ξj (ξf (ζm e) I.ok.above))).trans e1⟩
  ·by_cases hj:j=i
   ·subst hj
    rw[hi] at e1;cases e1
    rw[List.getElem?_set_self hiσ] at e2
    cases e2
    exact⟨u,r, .inl ⟨hk,by simp⟩⟩
   ·rw[List.getElem?_set_ne (Ne.symm hj)] at e2
    obtain⟨u',r',q⟩:=hl j y v' e1 e2 e3
    refine⟨u',r',?_⟩
    rcases q with⟨k,e⟩|⟨k,c,e,z⟩
    ·refine .inl ⟨k,?_⟩
     have:y≠x:=λe=>hj (ziu hN e1 (e▸hi))
     simp[this,e]
    ·exact .inr ⟨k,c,e,z.sameBut hs (cne y c e)⟩
  ·obtain ⟨w',z⟩:=I.cell y c e
   exact⟨w',z.sameBut hs (cne y c e)⟩
  ·obtain ⟨e,n,ne,nf,d⟩:=I.pin p hp
   exact⟨(hs.2 p.1 ne).trans e,n,ne,nf,d⟩
 ·have hfn:X.fn x=true:=by
   rcases hf with z|z
   ·exact z
   ·rw[z] at hk;cases hk
  obtain⟨c,hc⟩:=I.ok.has x (.inl hk)
  obtain⟨w',z⟩:=I.cell x c hc
  refine wpAny_storeName_cell I.ok.kind hk hc z (λh' hc' hs=>?_)
  obtain⟨oc,hoc,hocd⟩:=id z
  refine h {s with heap:=h'} ⟨I.ok,I.os,I.bare,⟨λb o e n hb hx=>?_,λb o e n hb hx=>?_,I.base.free,λb o e hx=>?_,I.base.tups,I.base.frzs,I.base.tbls⟩,⟨m,hn.sameBut hs (Ne.symm (cne x c hc)),λj y v' e1 e2 e3=>?_⟩,λy c' e=>?_,I.free,I.freeC,λp hp=>?_,tracked ⟨oc,hoc,I.freeC x c hc⟩ hs,by simpa using I.len⟩ ⟨c,hs, .inr hc⟩
  ·exact (hs.2 b (ξj (ξf (ζm e) (I.ok.cab x c hfn hc)))).trans (I.base.keep b o e n hb hx)
  ·obtain ⟨sl,e1⟩:=I.base.slot b o e n hb hx
   exact⟨sl,(hs.2 b (ξj (ξf (ζm e) (I.ok.cab x c hfn hc)))).trans e1⟩
  ·obtain ⟨o',e1⟩:=I.base.there b o e hx
   exact⟨o',(hs.2 b (ξj (ξf (ζm e) (I.ok.cab x c hfn hc)))).trans e1⟩
  ·by_cases hj:j=i
   ·subst hj
    rw[hi] at e1;cases e1
    rw[List.getElem?_set_self hiσ] at e2
    cases e2
    exact⟨u,r, .inr ⟨.inl hk,c,hc,hc'⟩⟩
   ·rw[List.getElem?_set_ne (Ne.symm hj)] at e2
    obtain⟨u',r',q⟩:=hl j y v' e1 e2 e3
    refine⟨u',r',?_⟩
    rcases q with q|⟨k,c',e,z'⟩
    ·exact .inl q
    ·refine .inr ⟨k,c',e,z'.sameBut hs ?_⟩
     rintro rfl
     exact hj (ziu hN e1 (I.ok.inj _ _ _ e hc▸hi))
  ·by_cases hcc:c'=c
   ·subst hcc;exact⟨_,hc'⟩
   ·obtain ⟨w2,z2⟩:=I.cell y c' e
    exact⟨w2,z2.sameBut hs hcc⟩
  ·obtain ⟨e,n,ne,nf,d⟩:=I.pin p hp
   refine⟨(hs.2 p.1 ?_).trans e,n,ne,nf,d⟩
   intro q
   rw[q,hoc] at e
   have q':oc=p.2:=ξh e
   exact d w' (by rw[←q'];exact hocd)
theorem zcZ{M:Model}{A:Around}{E:Value->Shared->Prop}{i:Nat}{x:Str}{v:V}{u:Value}{Q:Unit->Shared->Prop}(I:Inv X pins σ H s)(hN:X.N.Nodup)(hi:X.N[i]?=some x)(hx:Loc X.env.scope x)(r:RelV v u)
 (h:∀s',Inv X pins (σ.set i (some v)) H s'->Q () s') (hf:X.fn x=true\/X.env.scope.names.lookup x=some .local:=by first|exact .inl rfl|exact .inr rfl|assumption):wpAny M A (storeName X.env x u) Q E s:=
 zkY I hN hi hx r (λs' I' _=>h s' I') hf
theorem Inv.call'{s':Shared}{ch:List Addr}(I:Inv X pins σ H s)(ho:s'.os=s.os)(u:Un (frs X.stack) ch H H' s.heap s'.heap)(hok:HOk X.prog X.w H' s'.heap)(hg:AllBare s'.gens)
 (hch:∀b∈ch,(b∈X.ex\/X.s₀.heap.objs.size<=b)/\b≠X.env.locals/\(∀x c,X.env.cells.lookup x=some c->c≠b)/\∀p∈X.pn ++pins,p.1≠b):Inv X pins σ H' s':=by
 obtain⟨h',g',d',t',o'⟩:=s'
 have e:o'=s.os:=ho
 subst e
 exact I.call (g':=g') (t':=t') (d':=d') u hok hg hch
end
noncomputable abbrev XK:=Value->Option Addr->Hp->Prop
noncomputable abbrev St:=List (Option V)
noncomputable abbrev VK:=V->Hp->Prop
noncomputable abbrev TE:=St->Hp->VK->Prop
noncomputable abbrev TT:=St->Hp->(Bool->Hp->Prop)->Prop
noncomputable abbrev TA:=St->Hp->(List V->Hp->Prop)->Prop
structure Ends where
 nx:St->Hp->Prop
 rt:VK
 bk:St->Hp->Prop:=λ_ _=>False
 ct:St->Hp->Prop:=λ_ _=>False
noncomputable abbrev TS:=Ends->St->Hp->Prop
def EP(X:Cx)(pins:List (Addr×Obj))(σ:St)(Q:VK)(u:Value)(s':Shared):Prop:=∃v H',Inv X pins σ H' s'/\RelV v u/\Q v H'
def TP(X:Cx)(pins:List (Addr×Obj))(σ:St)(Q:Bool->Hp->Prop)(b:Bool)(s':Shared):Prop:=∃H',Inv X pins σ H' s'/\Q b H'
def AP(X:Cx)(pins:List (Addr×Obj))(σ:St)(Q:List V->Hp->Prop)(us:List Value)(s':Shared):Prop:=∃vs H',Inv X pins σ H' s'/\Vals vs us/\Q vs H'
def SP(X:Cx)(pins:List (Addr×Obj))(D:Ends)(f:Flow)(s':Shared):Prop:=
 match f with
 | .next=>∃σ' H',Inv X pins σ' H' s'/\D.nx σ' H'
 | .brk=>∃σ' H',Inv X pins σ' H' s'/\D.bk σ' H'
 | .cont=>∃σ' H',Inv X pins σ' H' s'/\D.ct σ' H'
 | .ret u=>∃v σ' H',Inv X pins σ' H' s'/\RelV v u/\D.rt v H'
def PE(X:Cx)(e:Expr)(t:TE):Prop:=
 ∀(pins:List (Addr×Obj)) (s:Shared) (σ:St) (H:Hp) (Q:VK),Inv X pins σ H s->t σ H Q->wpAny (model X.prog X.w) X.A (eval e X.env) (EP X pins σ Q) X.xe s
def PT(X:Cx)(e:Expr)(t:TT):Prop:=
 ∀(pins:List (Addr×Obj)) (s:Shared) (σ:St) (H:Hp) (Q:Bool->Hp->Prop),Inv X pins σ H s->t σ H Q->wpAny (model X.prog X.w) X.A (isTrue e X.env (eval e X.env)) (TP X pins σ Q) X.xe s
def PW(X:Cx)(e:Expr)(t:TT):Prop:=
 ∀(whole:Sem Value) (pins:List (Addr×Obj)) (s:Shared) (σ:St) (H:Hp) (Q:Bool->Hp->Prop),Inv X pins σ H s->t σ H Q->wpAny (model X.prog X.w) X.A (isTrue e X.env whole) (TP X pins σ Q) X.xe s
theorem PW.pt{X:Cx}{e:Expr}{t:TT}(h:PW X e t):PT X e t:=h _
def PA(X:Cx)(es:List Expr)(t:TA):Prop:=
 ∀(pos:Pos) (pins:List (Addr×Obj)) (s:Shared) (σ:St) (H:Hp) (Q:List V->Hp->Prop),Inv X pins σ H s->t σ H Q->wpAny (model X.prog X.w) X.A (spliced (backTo pos (starEach es X.env))) (AP X pins σ Q) X.xe s
def PS(X:Cx)(st:Stmt)(t:TS):Prop:=
 ∀(pins:List (Addr×Obj)) (s:Shared) (σ:St) (H:Hp) (D:Ends),Inv X pins σ H s->t D σ H->wpAny (model X.prog X.w) X.A (exec st X.env) (SP X pins D) X.xe s
def PSs(X:Cx)(st:List Stmt)(t:TS):Prop:=
 ∀(pins:List (Addr×Obj)) (s:Shared) (σ:St) (H:Hp) (D:Ends),Inv X pins σ H s->t D σ H->wpAny (model X.prog X.w) X.A (execs st X.env) (SP X pins D) X.xe s
theorem thn{α:Type}{t:Sem α}{Q Q':α->Shared->Prop}{M:Model}{A:Around}{E:Value->Shared->Prop}{s:Shared}(h:wpAny M A t Q E s)(hQ:∀a s,Q a s->Q' a s):wpAny M A t Q' E s:=ψc h hQ λ_ _ x=>x
section
variable{X:Cx}
theorem bin{a b:Expr}{ta tb:TE}(ha:PE X a ta)(hb:PE X b tb){pins:List (Addr×Obj)}{s:Shared}{σ:St}{H:Hp}{R:V->V->Hp->Prop}(I:Inv X pins σ H s)(h:ta σ H λx H1=>tb σ H1 λy H2=>R x y H2)
 {α:Type} {Q:α->Shared->Prop} {f:Value->Value->Sem α}
 (hf:∀v u s2 x y H2,Inv X pins σ H2 s2->RelV x v->RelV y u->R x y H2->wpAny (model X.prog X.w) X.A (f v u) Q X.xe s2):
 wpAny (model X.prog X.w) X.A (eval a X.env) (λv s₁=>wpAny (model X.prog X.w) X.A (eval b X.env) (λu s₂=>wpAny (model X.prog X.w) X.A (f v u) Q X.xe s₂) X.xe s₁) X.xe s:=by
 refine thn (ha pins s σ H _ I h) λv s1 ⟨x,H1,I1,r1,q1⟩=>?_
 refine thn (hb pins s1 σ H1 _ I1 q1) λu s2 ⟨y,H2,I2,r2,q2⟩=>?_
 exact hf v u s2 x y H2 I2 r1 r2 q2
noncomputable def zkX(i:Nat):TE:=λσ H Q=>∃v,σ[i]?=some (some v)/\Q v H
noncomputable def tC(v:V):TE:=λ_ H Q=>Q v H
theorem zlX{i:Nat}{x:Str}{pos:Pos}(hN:X.N[i]?=some x)(hv:Vis X.env.scope x)(hd:(x==("__debug__":Str))=false:=by decide)(hcd:(x==("__classdict__":Str))=false:=by decide):PE X (.Name x pos) (zkX i):=by
 intro pins s σ H Q I h
 obtain⟨v,e,h⟩:=h
 obtain⟨m,hn,hl⟩:=I.loc
 obtain⟨u,r,l⟩:=hl i x v hN e hv
 have fin:EP X pins σ Q u s:=⟨v,H,I,r,h⟩
 rcases l with⟨hk,hm⟩|⟨hk,c,hc,hcell⟩
 ·exact wpAny_Name (wpAny_loadName_local I.ok.kind hk hn hm fin) hd
 ·rcases hk with hk|hk
  ·exact wpAny_Name (wpAny_loadName_cell I.ok.kind hk hc hcell fin) hd
  ·exact wpAny_Name (wpAny_loadName_free I.ok.kind hk hc hcell fin hcd) hd
theorem zl0{i j pos}:PE X (.Constant (.int i) j pos) (tC (.int i)):=λ_ _ _ H _ I h=>wpAny_Constant_int ⟨.int i,H,I.tok _,⟨_,rfl⟩,h⟩
theorem zpv{b j pos}:PE X (.Constant (.bool b) j pos) (tC (.bl b)):=λ_ _ _ H _ I h=>Constant_bool ⟨.bl b,H,I,rfl,h⟩
theorem zl4{j pos}:PE X (.Constant .none j pos) (tC .non):=λ_ _ _ H _ I h=>Constant_none ⟨.non,H,I,rfl,h⟩
theorem zme{x j pos}:PE X (.Constant (.str x) j pos) (tC (.str x)):=λ_ _ _ H _ I h=>Calls.Constant_str ⟨.str x,H,I.tok _,⟨_,rfl⟩,h⟩
def Gl(X:Cx)(x:Str):Prop:=X.env.kindOf x=some .globalImplicit
theorem zj3{E:Value->Shared->Prop}{pins:List (Addr×Obj)}{s:Shared}{σ:St}{H:Hp}{x:Str}{u:Value}{pos:Pos}{Q:Value->Shared->Prop}(I:Inv X pins σ H s)(hg:Gl X x)(hm:X.mg x=some u)(h:Q u s)
 (hd:(x==("__debug__":Str))=false:=by decide):wpAny (model X.prog X.w) X.A (eval (.Name x pos) X.env) Q E s:=
 Calls.Name_function_global I.ok.kind hg (Calls.loadGlobal_global (by rw[I.ok.glob];exact I.mod.glob.keeps I.bk) hm h) hd
theorem zeu{E:Value->Shared->Prop}{pins:List (Addr×Obj)}{s:Shared}{σ:St}{H:Hp}{x:Str}{u:Value}{pos:Pos}{Q:Value->Shared->Prop}(I:Inv X pins σ H s)(hg:Gl X x)(hm:X.mg x=none)(hv:bootBuiltins x=some u)(h:Q u s)
 (hn:x≠"__name__":=by decide) (hd:(x==("__debug__":Str))=false:=by decide):wpAny (model X.prog X.w) X.A (eval (.Name x pos) X.env) Q E s:=by
 obtain⟨mb,h1,h2⟩:=I.mod.blt
 exact Calls.Name_function_global I.ok.kind hg (Calls.loadGlobal_builtin (by rw[I.ok.glob];exact I.mod.glob.keeps I.bk) hm (by rw[I.ok.blt];exact h1.keeps I.bk) ((h2 x hn).trans hv) h) hd
theorem znJ{x:Str}{v:V}{u:Value}{pos:Pos}(hg:Gl X x)(hm:X.mg x=none)(hv:bootBuiltins x=some u)(r:RelV v u)(hn:x≠"__name__":=by decide)(hd:(x==("__debug__":Str))=false:=by decide):PE X (.Name x pos) (tC v):=
 λ_ _ _ H _ I h=>zeu I hg hm hv ⟨v,H,I,r,h⟩ hn hd
variable{a b:Expr}{ta tb:TE}{pos:Pos}
def PC(X:Cx)(op:CmpOp)(a b:Expr)(t:TE):Prop:=
 ∀(pins:List (Addr×Obj)) (s:Shared) (σ:St) (H:Hp) (Q:VK),Inv X pins σ H s->t σ H Q->
  wpAny (model X.prog X.w) X.A (eval a X.env) (λv s₁=>wpAny (model X.prog X.w) X.A (eval b X.env) (λu s₂=>wpAny (model X.prog X.w) X.A (compareOp op v u) (EP X pins σ Q) X.xe s₂) X.xe s₁) X.xe s
noncomputable def tB(t:TE):TT:=λσ H Q=>t σ H λx H1=>∃c,x= .bl c/\Q c H1
theorem pt_cmp{op:CmpOp}{t:TE}(h:PC X op a b t)(h1:behindInMarks op b=false:=by first|exact nobehind _ (by decide) (by decide)|rfl):PT X (.Compare a [op] [b] pos) (tB t):=by
 intro pins s σ H Q I hw
 refine wpAny_isTrue_Compare1 (thn (h pins s σ H _ I hw) λv s1 h1=>thn h1 λu s2 h2=>thn h2 λc s3 ⟨x,H1,I1,r1,q1⟩=>?_) h1
 obtain⟨d,rfl,q⟩:=q1
 cases r1
 exact wpAny_truthy_bool ⟨H1,I1,q⟩
theorem zq5{e:Expr}{t:TE}(h:PE X e t)(he:∀whole,isTrue e X.env whole=(do let v ←whole;standAt e.pos;holding [v] (truthy v)):=by intro _;rfl):PT X e (tB t):=by
 intro pins s σ H Q I hw
 refine isTrue_plain (thn (h pins s σ H _ I hw) λv s1 ⟨x,H1,I1,r1,q1⟩=>?_) (he _)
 obtain⟨d,rfl,q⟩:=q1
 cases r1
 exact wpAny_truthy_bool ⟨H1,I1,q⟩
variable{tA tB':TT}{rest:List Expr}
noncomputable def zr8(t u:TT):TT:=λσ H Q=>t σ H λc H1=>if c=true then u σ H1 Q else Q false H1
noncomputable def tOr(t u:TT):TT:=λσ H Q=>t σ H λc H1=>if c=true then Q true H1 else u σ H1 Q
noncomputable def zrR(t:TT):TT:=λσ H Q=>t σ H λc H1=>Q (!c) H1
theorem zoy(ha:PT X a tA):PW X (.BoolOp .And [a] pos) tA:=by
 intro wh pins s σ H Q I h
 refine isTrue_and (thn (ha pins s σ H Q I h) λc s1 e=>?_)
 cases c with
 |true=>exact isTrue_and_nil e
 |false=>exact e
theorem zqd(ha:PT X a tA):PW X (.BoolOp .Or [a] pos) tA:=by
 intro wh pins s σ H Q I h
 refine isTrue_or (thn (ha pins s σ H Q I h) λc s1 e=>?_)
 cases c with
 |false=>exact isTrue_or_nil e
 |true=>exact e
theorem zqw(ha:PT X a tA)(hb:PW X (.BoolOp .And (b::rest) pos) tB'):PW X (.BoolOp .And (a::b::rest) pos) (zr8 tA tB'):=by
 intro wh pins s σ H Q I h
 refine isTrue_and (thn (ha pins s σ H _ I h) λc s1 ⟨H1,I1,q1⟩=>?_)
 cases c with
 |true=>exact hb wh pins s1 σ H1 Q I1 q1
 |false=>exact ⟨H1,I1,q1⟩
theorem zrW(ha:PT X a tA)(hb:PW X (.BoolOp .Or (b::rest) pos) tB'):PW X (.BoolOp .Or (a::b::rest) pos) (tOr tA tB'):=by
 intro wh pins s σ H Q I h
 refine isTrue_or (thn (ha pins s σ H _ I h) λc s1 ⟨H1,I1,q1⟩=>?_)
 cases c with
 |true=>exact ⟨H1,I1,q1⟩
 |false=>exact hb wh pins s1 σ H1 Q I1 q1
theorem zqJ(ha:PT X a tA):PT X (.UnaryOp .Not a pos) (zrR tA):=by
 intro pins s σ H Q I h
 exact isTrue_not (ha pins s σ H (λc H1=>Q (!c) H1) I h)
noncomputable def zpI(ta tb:TE):TE:=λσ H Q=>ta σ H λx H1=>∃c,x= .bl c/\if c=true then tb σ H1 Q else Q (.bl false) H1
noncomputable def zpC(ta:TE):TE:=λσ H Q=>ta σ H λx H1=>∃c,x= .bl c/\Q (.bl (!c)) H1
theorem zqK{op}{t:TE}(h:PE X a t):PE X (.BoolOp op [a] pos) t:=λpins s σ H Q I hw=>BoolOp_one (h pins s σ H Q I hw)
theorem zp8(ha:PE X a ta)(hb:PE X (.BoolOp .And (b::rest) pos) tb):PE X (.BoolOp .And (a::b::rest) pos) (zpI ta tb):=by
 intro pins s σ H Q I h
 refine BoolOp_and (thn (ha pins s σ H _ I h) λv s1 ⟨x,H1,I1,r1,q1⟩=>?_)
 obtain⟨c,rfl,q1⟩:=q1
 cases r1
 refine wpAny_truthy_bool ?_
 cases c with
 |true=>exact hb pins s1 σ H1 Q I1 q1
 |false=>exact ⟨.bl false,H1,I1,rfl,q1⟩
theorem zq1(ha:PE X a ta):PE X (.UnaryOp .Not a pos) (zpC ta):=by
 intro pins s σ H Q I h
 refine UnaryOp_ (thn (ha pins s σ H _ I h) λv s1 ⟨x,H1,I1,r1,q1⟩=>?_)
 obtain⟨c,rfl,q1⟩:=q1
 cases r1
 exact not_of (wpAny_truthy_bool ⟨.bl (!c),H1,I1,rfl,q1⟩)
noncomputable def tIf(t:TT)(ta tb:TE):TE:=λσ H Q=>t σ H λc H1=>if c=true then ta σ H1 Q else tb σ H1 Q
theorem zl7{c:Expr}(hc:PT X c tA)(ha:PE X a ta)(hb:PE X b tb):PE X (.IfExp c a b pos) (tIf tA ta tb):=by
 intro pins s σ H Q I h
 refine wpAny_IfExp (thn (hc pins s σ H _ I h) λd s1 ⟨H1,I1,q1⟩=>?_)
 cases d with
 |true=>exact ha pins s1 σ H1 Q I1 q1
 |false=>exact hb pins s1 σ H1 Q I1 q1
end
def SqL(K:ξk)(H:Hp)(a:Addr)(xs:List V):Prop:=
 Rd H a (.lst xs)\/
  ∃(o:Obj) (its:Array Value) (n:Nat),K.lookup a=some o/\o.cls= .type "list"/\o.dict=none/\o.data= .seq its n/\its.size<=sizeLine/\Vals xs its.toList
def SqT(K:ξk)(H:Hp)(a:Addr)(xs:List V):Prop:=
 Rd H a (.tup xs)\/
  ∃(o:Obj) (its:Array Value) (n:Nat),K.lookup a=some o/\o.cls= .type "tuple"/\o.data= .seq its n/\its.size<=sizeLine/\Vals xs its.toList
noncomputable def zsb:Value->Option V
 | .none=>some .non
 | .bool b=>some (.bl b)
 | .int i _=>some (.int i)
 | .str x _=>some (.str x)
 | .bytes b _=>some (.byt b)
 | .float b _=>some (.flt b)
 | .ref a=>some (.ref a)
 | .type n=>some (.ty n)
 |_=>none
theorem RelV.abs{x:V}{u:Value}(r:RelV x u):zsb u=some x:=by
 cases x with
 |non=>cases r;rfl
 |bl _=>cases r;rfl
 |int _=>obtain ⟨t,rfl⟩:=r;rfl
 |str _=>obtain ⟨t,rfl⟩:=r;rfl
 |byt _=>obtain ⟨t,rfl⟩:=r;rfl
 |flt _=>obtain ⟨t,rfl⟩:=r;rfl
 |ref _=>cases r;rfl
 |ty _=>cases r;rfl
theorem RelV.inj{x y:V}{u:Value}(r:RelV x u)(q:RelV y u):x=y:=ξh (r.abs.symm.trans q.abs)
theorem Vals.inj:∀{xs ys:List V} {us:List Value},Vals xs us->Vals ys us->xs=ys
 |_,_,_, .nil, .nil=>rfl
 |_,_,_, .cons r t, .cons r' t'=>by rw[r.inj r',Vals.inj t t']
section
variable{X:Cx}{pins:List (Addr×Obj)}{σ:St}{H:Hp}{s:Shared}{a:Addr}{xs ys:List V}
theorem SqL.of{K:ξk}(h:H a=some (.lst xs)):SqL K H a xs:= .inl (.inl h)
theorem SqT.of{K:ξk}(h:H a=some (.tup xs)):SqT K H a xs:= .inl (.inl h)
theorem Inv.list(I:Inv X pins σ H s)(h:SqL X.K H a xs):∃its:List Value,Vals xs its/\PlainL s.heap a its.toArray/\xs.length<=sizeLine:=by
 rcases h with h|⟨o,its,n,hk,hc,hd,hs,hz,r⟩
 ·obtain ⟨z,its,n,r,e⟩:=h.ok I.hok
  exact⟨its,r,⟨_,n,e,rfl,rfl,rfl⟩,z⟩
 ·refine ⟨its.toList,r,⟨o,n,I.kIn a o hk,hc,hd,by simpa using hs⟩,?_⟩
  have e:=r.length
  simp only[ξq] at e
  omega
theorem Inv.tuple(I:Inv X pins σ H s)(h:SqT X.K H a xs):∃its:List Value,Vals xs its/\IsTup s.heap a its.toArray/\xs.length<=sizeLine:=by
 rcases h with h|⟨o,its,n,hk,hc,hs,hz,r⟩
 ·obtain ⟨z,its,r,p,_⟩:=h.ok I.hok
  exact⟨its,r,p,z⟩
 ·refine ⟨its.toList,r,⟨o,I.kIn a o hk,hc,n,by simpa using hs⟩,?_⟩
  have e:=r.length
  simp only[ξq] at e
  omega
theorem Inv.list_inj(I:Inv X pins σ H s)(h:SqL X.K H a xs)(h':SqL X.K H a ys):xs=ys:=by
 obtain⟨its,r,⟨o,n,e,_,_,d⟩,_⟩:=I.list h
 obtain⟨its',r',⟨o',n',e',_,_,d'⟩,_⟩:=I.list h'
 rw[e] at e';cases e'
 rw[d] at d'
 injection d' with d1 _
 have:its=its':=by simpa using congrArg Array.toList d1
 subst this
 exact r.inj r'
theorem Inv.tuple_inj(I:Inv X pins σ H s)(h:SqT X.K H a xs)(h':SqT X.K H a ys):xs=ys:=by
 obtain⟨its,r,⟨o,e,_,n,d⟩,_⟩:=I.tuple h
 obtain⟨its',r',⟨o',e',_,n',d'⟩,_⟩:=I.tuple h'
 rw[e] at e';cases e'
 rw[d] at d'
 injection d' with d1 _
 have:its=its':=by simpa using congrArg Array.toList d1
 subst this
 exact r.inj r'
end
abbrev Cx.wish(X:Cx)(E:Value->Shared->Prop):Cx:={X with xe:=E}
noncomputable abbrev Cx.nox(X:Cx):Cx:=X.wish λ_ _=>False
theorem Cx.Ok.wish{X:Cx}(ok:X.Ok)(E:Value->Shared->Prop):(X.wish E).Ok:=
 ⟨ok.mod,ok.kind,ok.glob,ok.blt,ok.above,ok.inj,ok.has,ok.cab,ok.hd,ok.frames,ok.stk,ok.exf,ok.bs,ok.bsz,ok.noex,ok.exfs,ok.funs,ok.frf⟩
theorem Cx.Ok.unwish{X:Cx}{E:Value->Shared->Prop}(ok:(X.wish E).Ok):X.Ok:=
 ⟨ok.mod,ok.kind,ok.glob,ok.blt,ok.above,ok.inj,ok.has,ok.cab,ok.hd,ok.frames,ok.stk,ok.exf,ok.bs,ok.bsz,ok.noex,ok.exfs,ok.funs,ok.frf⟩
section
variable{X:Cx}{pins:List (Addr×Obj)}{σ:St}{H:Hp}{s:Shared}{E:Value->Shared->Prop}
theorem Inv.wish(I:Inv X pins σ H s)(E:Value->Shared->Prop):Inv (X.wish E) pins σ H s:=⟨I.ok.wish E,I.os,I.bare,I.base,I.loc,I.cell,I.free,I.freeC,I.pin,I.hok,I.len⟩
theorem Inv.unwish(I:Inv (X.wish E) pins σ H s):Inv X pins σ H s:=⟨I.ok.unwish,I.os,I.bare,I.base,I.loc,I.cell,I.free,I.freeC,I.pin,I.hok,I.len⟩
theorem SP.unwish{D:Ends}{f:Flow}{s':Shared}(h:SP (X.wish E) pins D f s'):SP X pins D f s':=by
 cases f with
 |next=>obtain ⟨σ',H',I,q⟩:=h;exact⟨σ',H',I.unwish,q⟩
 |brk=>obtain ⟨σ',H',I,q⟩:=h;exact⟨σ',H',I.unwish,q⟩
 |cont=>obtain ⟨σ',H',I,q⟩:=h;exact⟨σ',H',I.unwish,q⟩
 |ret u=>obtain ⟨v,σ',H',I,r,q⟩:=h;exact⟨v,σ',H',I.unwish,r,q⟩
theorem PSs.nox{st:List Stmt}{t:TS}(h:PSs X.nox st t):PSs X st t:=λpins s σ H D I hw=>
 ψc (h pins s σ H D (I.wish _) hw) (λ_ _ q=>q.unwish) λ_ _ z=>False.elim z
end
section
variable{X:Cx}{st:Stmt}{rest:List Stmt}{t u:TS}{e:Expr}{te:TE}{pos:Pos}
noncomputable def zpY:TS:=λD σ H=>D.nx σ H
noncomputable def zrA(t u:TS):TS:=λD σ H=>t {D with nx:=u D} σ H
theorem zpj:PSs X [] zpY:=λ_ _ σ H _ I h=>wpAny_execs_nil ⟨σ,H,I,h⟩
theorem zhL(h1:PS X st t)(h2:PSs X rest u):PSs X (st::rest) (zrA t u):=by
 intro pins s σ H D I h
 refine wpAny_execs_cons (thn (h1 pins s σ H {D with nx:=u D} I h) λf s1 q=>?_)
 cases f with
 |next=>
  obtain⟨σ',H',I',q⟩:=q
  exact h2 pins s1 σ' H' D I' q
 |ret v=>exact q
 |brk=>exact q
 |cont=>exact q
theorem zoP(h1:PS X st t):PSs X [st] t:=by
 intro pins s σ H D I h
 refine wpAny_execs_cons (thn (h1 pins s σ H D I h) λf s1 q=>?_)
 cases f with
 |next=>exact wpAny_execs_nil q
 |ret v=>exact q
 |brk=>exact q
 |cont=>exact q
noncomputable def zpZ:TS:=λD σ H=>D.ct σ H
theorem zif:PS X (.Continue pos) zpZ:=λ_ _ σ H _ I h=>wpAny_Continue ⟨σ,H,I,h⟩
theorem Inv.quiet{pins:List (Addr×Obj)}{σ:St}{H:Hp}{s:Shared}(I:Inv X pins σ H s):interactive X.env=false:=by simp[interactive,I.ok.kind]
noncomputable def zpG(te:TE):TS:=λD σ H=>te σ H λ_ H1=>D.nx σ H1
theorem zo2(he:PE X e te)(hs:swapsWith e none pos.line X.env=pure false:=by rfl):PS X (.Expr e pos) (zpG te):=by
 intro pins s σ H D I h
 exact wpAny_Expr_any (thn (he pins s σ H _ I h) λv s1 ⟨x,H1,I1,r1,q1⟩=>⟨σ,H1,I1,q1⟩) I.quiet hs
noncomputable def zrC(te:TE):TS:=λD σ H=>te σ H D.rt
theorem zrm(he:PE X e te):PS X (.Return (some e) pos) (zrC te):=by
 intro pins s σ H D I h
 exact wpAny_Return_some (thn (he pins s σ H _ I h) λv s1 ⟨x,H1,I1,r1,q1⟩=>⟨x,σ,H1,I1,r1,q1⟩)
noncomputable def zrs(c:TT)(t u:TS):TS:=λD σ H=>c σ H λb H1=>if b=true then t D σ H1 else u D σ H1
theorem zr2{c:Expr}{a b:List Stmt}{tc:TT}(hc:PT X c tc)(ha:PSs X a t)(hb:PSs X b u):PS X (.If c a b pos) (zrs tc t u):=by
 intro pins s σ H D I h
 refine wpAny_If (thn (hc pins s σ H _ I h) λd s1 ⟨H1,I1,q1⟩=>?_)
 cases d with
 |true=>exact ha pins s1 σ H1 D I1 q1
 |false=>exact hb pins s1 σ H1 D I1 q1
end
noncomputable abbrev TG:=V->St->Hp->(St->Hp->Prop)->Prop
noncomputable abbrev TGs:=List V->St->Hp->(St->Hp->Prop)->Prop
def PG(X:Cx)(target:Expr)(t:TG):Prop:=
 ∀(pins:List (Addr×Obj)) (s:Shared) (σ:St) (H:Hp) (v:V) (u:Value) (Q:St->Hp->Prop),Inv X pins σ H s->RelV v u->t v σ H Q->
  wpAny (model X.prog X.w) X.A (assign target X.env u) (λ_ s'=>∃σ' H',Inv X pins σ' H' s'/\Q σ' H') X.xe s
def PGs(X:Cx)(ts:List Expr)(t:TGs):Prop:=
 ∀(pins:List (Addr×Obj)) (s:Shared) (σ:St) (H:Hp) (vs:List V) (us:List Value) (Q:St->Hp->Prop),Inv X pins σ H s->Vals vs us->t vs σ H Q->
  wpAny (model X.prog X.w) X.A (assignInOrder ((assignEach ts X.env).map (·.2)) us) (λ_ s'=>∃σ' H',Inv X pins σ' H' s'/\Q σ' H') X.xe s
noncomputable abbrev zo7:=V->V->V->Hp->(Hp->Prop)->Prop
def zrc(X:Cx)(t:zo7):Prop:=
 ∀(pins:List (Addr×Obj)) (s:Shared) (σ:St) (H:Hp) (o i v:V) (ov iv u:Value) (Q:Hp->Prop),Inv X pins σ H s->RelV o ov->RelV i iv->RelV v u->t o i v H Q->
  wpAny (model X.prog X.w) X.A (setItem ov iv u) (λ_ s'=>∃H',Inv X pins σ H' s'/\Q H') X.xe s
section
variable{X:Cx}{pos:Pos}
noncomputable def zcW(i:Nat):TG:=λv σ H Q=>Q (σ.set i (some v)) H
theorem zkp{i:Nat}{x:Str}(hN:X.N.Nodup)(hi:X.N[i]?=some x)(hx:Loc X.env.scope x)(hf:X.fn x=true\/X.env.scope.names.lookup x=some .local:=by first|exact .inl rfl|exact .inr rfl|assumption):PG X (.Name x pos) (zcW i):=by
 intro pins s σ H v u Q I r h
 exact wpAny_assign_Name (zcZ I hN hi hx r (λs' I'=>⟨_,H,I',h⟩) hf)
noncomputable def zrG:TGs:=λvs σ H Q=>vs=[]/\Q σ H
noncomputable def zpK(t:TG)(u:TGs):TGs:=λvs σ H Q=>∃v r,vs=v::r/\t v σ H λσ' H'=>u r σ' H' Q
theorem zom:PGs X [] zrG:=by
 intro pins s σ H vs us Q I r h
 obtain⟨e,h⟩:=h
 subst e
 cases r
 exact assignInOrder_nil ⟨σ,H,I,h⟩
theorem znr{e:Expr}{es:List Expr}{t:TG}{u:TGs}(h1:PG X e t)(h2:PGs X es u)
 (hs:(assignEach (e::es) X.env).map (·.2)=assign e X.env::(assignEach es X.env).map (·.2):=by rfl):PGs X (e::es) (zpK t u):=by
 intro pins s σ H vs us Q I r h
 obtain⟨v,vr,e1,h⟩:=h
 subst e1
 cases r with
 |cons r rr=>
  rw[hs]
  refine assignInOrder_cons (thn (h1 pins s σ H _ _ _ I r h) λ_ s1 ⟨σ1,H1,I1,q1⟩=>?_)
  exact h2 pins s1 σ1 H1 _ _ Q I1 rr q1
noncomputable def zrn(K:ξk)(n:Nat)(t:TGs):TG:=λv σ H Q=>∃a xs,v= .ref a/\SqT K H a xs/\xs.length=n/\t xs σ H Q
theorem zq8{es:List Expr}{k:Nat}{t:TGs}{n:Nat}(hc:X.calm=true)(h:PGs X es t)
 (hn:(assignEach es X.env).length=n:=by rfl) (hst:(assignEach es X.env).findIdx? (·.1)=none:=by rfl):PG X (.Tuple es k pos) (zrn X.K n t):=by
 intro pins s σ H v u Q I r hw
 obtain⟨a,xs,e1,hq,hl,hw⟩:=hw
 subst e1
 cases r
 obtain⟨its,rv,ht,hz⟩:=I.tuple hq
 refine assign_Tuple_tuple (I.ok.hd hc) ht (by simp[hn,←hl,rv.length]) hst λh' hx=>?_
 have I1:Inv X pins σ H {s with heap:=h'}:=I.kept (t':=s.toks) λb o e=>hx b o (ξj (ζm e)) e
 exact h pins _ σ H xs _ Q I1 (by simpa using rv) hw
noncomputable def zrS(to ti:TE)(t:zo7):TG:=λv σ H Q=>to σ H λo H1=>ti σ H1 λi H2=>t o i v H2 λH3=>Q σ H3
theorem zqg{o i:Expr}{to ti:TE}{t:zo7}(ho:PE X o to)(hi:PE X i ti)(hs:zrc X t)
 (ha:∀v,assign (.Subscript o i pos) X.env v=(do
   let ov ←holding [v] (eval o X.env)
   let iv ←holding [v,ov] (eval i X.env)
   standAt pos
   holding [v,ov,iv] (setItem ov iv v)
   release [v,ov,iv] []):=by intro _;rfl):PG X (.Subscript o i pos) (zrS to ti t):=by
 intro pins s σ H v u Q I r h
 rw[ha]
 refine ζb (ψd (thn (ho pins s σ H _ I h) λov s1 ⟨x,H1,I1,r1,q1⟩=>?_))
 refine ζb (ψd (thn (hi pins s1 σ H1 _ I1 q1) λiv s2 ⟨y,H2,I2,r2,q2⟩=>?_))
 refine ζb (wpAny_standAt (ζb (ψd (thn (hs pins s2 σ H2 x y v ov iv u _ I2 r1 r2 r q2) λ_ s3 ⟨H3,I3,q3⟩=>?_))))
 exact wpAny_release ⟨σ,H3,I3,q3⟩
noncomputable def zjc(te:TE)(g:TG):TS:=λD σ H=>te σ H λx H1=>g x σ H1 D.nx
theorem zq7{tg e:Expr}{te:TE}{g:TG}(he:PE X e te)(hg:PG X tg g)(hs:swapsWithSole [tg] e pos.line X.env=pure false:=by rfl)(hw:swappedStores [tg] e X.env=pure none:=by rfl)
 (h1:(assignEach [tg] X.env).map (·.2)=[assign tg X.env]:=by rfl):PS X (.Assign [tg] e pos) (zjc te g):=by
 intro pins s σ H D I h
 refine wpAny_Assign_stores (thn (he pins s σ H _ I h) λv s1 ⟨x,H1,I1,r1,q1⟩=>?_) hs hw
 rw[h1]
 exact thn (hg pins s1 σ H1 x v _ I1 r1 q1) λ_ s2 q=>q
theorem znD{i:Nat}{x:Str}{e:Expr}{te:TE}{pos':Pos}(hN:X.N.Nodup)(hi:X.N[i]?=some x)(hx:Loc X.env.scope x)(he:PE X e te)(hs:swapsWith e (some (.Name x pos')) pos.line X.env=pure false:=by rfl)(hf:X.fn x=true\/X.env.scope.names.lookup x=some .local:=by first|exact .inl rfl|exact .inr rfl|assumption):
 PS X (.Assign [.Name x pos'] e pos) (zjc te (zcW i)):=by
 intro pins s σ H D I h
 refine wpAny_Assign_Name (thn (he pins s σ H _ I h) λv s1 ⟨y,H1,I1,r1,q1⟩=>?_) hs
 exact zcZ I1 hN hi hx r1 (λs2 I2=>⟨_,H1,I2,q1⟩) hf
noncomputable def zrN(i j:Nat)(ta:TA):TS:=λD σ H=>ta σ H λvs H1=>∃v w,vs=[v,w]/\D.nx ((σ.set i (some v)).set j (some w)) H1
theorem zqR{i j:Nat}{x y:Str}{a b:Expr}{ta:TA}{px py pt:Pos}{kt k2 pt2}(hc:X.calm=true)(hN:X.N.Nodup)(hi:X.N[i]?=some x)(hj:X.N[j]?=some y)(hij:i≠j)
 (hx:X.env.scope.names.lookup x=some .local) (hy:X.env.scope.names.lookup y=some .local) (ha:PA X [a,b] ta)
 (hw:swappedStores [.Tuple [.Name x px, .Name y py] kt pt] (.Tuple [a,b] k2 pt2) X.env=pure (some [x,y]))
 (hs:swapsWithSole [.Tuple [.Name x px, .Name y py] kt pt] (.Tuple [a,b] k2 pt2) pos.line X.env=pure false:=by rfl):
 PS X (.Assign [.Tuple [.Name x px, .Name y py] kt pt] (.Tuple [a,b] k2 pt2) pos) (zrN i j ta):=by
 intro pins s σ H D I h
 rw[exec_Assign_arm]
 refine ζb (wpAny_standAt ?_)
 rw[hs]
 refine ζb (ζr ?_)
 rw[if_neg (by decide)]
 refine ζb (Tuple_ (thn (ha _ pins s σ H _ I h) λus s1 ⟨vs,H1,I1,r1,q1⟩=>?_))
 obtain⟨v,w,e1,q1⟩:=q1
 subst e1
 obtain⟨u1,u2,rfl,rv,rw'⟩:∃u1 u2,us=[u1,u2]/\RelV v u1/\RelV w u2:=by
  cases r1 with
  |cons p q=>
   cases q with
   |cons p' q'=>
    cases q'
    exact⟨_,_,rfl,p,p'⟩
 refine wpAny_newObj_type ?_ (by show 2<=sizeLine;decide)
 have I2:Inv X pins σ H1 {s1 with heap:=s1.heap.push {cls:= .type "tuple",data:= .seq [u1,u2].toArray}}:=I1.kept (t':=s1.toks) λb o e=>ζc _ e
 rw[hw]
 refine ζb (ζr ?_)
 show wpAny (model X.prog X.w) X.A (do rule "assign.swapped-stores";let items ←unpackItems (.ref s1.heap.objs.size) 2 none;assignInOrder [λv=>bindName X.env y v,λv=>bindName X.env x v] items.reverse;pure Flow.next) _ _ _
 refine ζb (wpAny_rule (ζb (unpackItems_tuple (items:= #[u1,u2]) (I.ok.hd hc) (IsTup.new s1.heap _) λh' hx'=>?_)))
 have I3:=I2.kept (h':=h') (t':=s1.toks) λb o e=>hx' b o (ξj (ζm e)) e
 show wpAny _ _ (assignInOrder [λv=>bindName X.env y v,λv=>bindName X.env x v] [u2,u1]>>=λ_=>pure Flow.next) _ _ _
 refine ζb (assignInOrder_cons (wpAny_bindName (zcZ I3 hN hj (.inl hy) rw' (λs2 I4=>?_) (.inr hy))))
 refine assignInOrder_cons (wpAny_bindName (zcZ I4 hN hi (.inl hx) rv (λs3 I5=>assignInOrder_nil (ζr ?_)) (.inr hx)))
 rw[List.set_comm _ _ (Ne.symm hij)] at I5
 exact⟨_,H1,I5,q1⟩
end
section
variable{X:Cx}{pos:Pos}
end
structure It where
 go:Nat->Hp->Prop
 yld:Nat->Hp->V->Hp->Prop
 stop:Nat->Hp->Prop
def zcT(X:Cx)(pins:List (Addr×Obj))(H:Hp)(b:Addr):Prop:=
 H b=none/\b≠X.env.locals/\b∉X.fs/\(b∈X.ex\/X.s₀.heap.objs.size<=b)/\(∀x c,X.env.cells.lookup x=some c->c≠b)/\∀p∈X.pn ++pins,p.1≠b
theorem Inv.fpOk{X:Cx}{pins:List (Addr×Obj)}{σ:St}{H H':Hp}{s:Shared}{b:Addr}(I:Inv X pins σ H s)(hb:s.heap.objs.size<=b)(hn:H' b=none):zcT X pins H' b:=by
 refine⟨hn,Nat.ne_of_gt (ξf I.lt hb),I.nofs hb, .inr (ξa I.sz hb),λx c e z=>?_,λp hp z=>?_⟩
 ·obtain ⟨v,q⟩:=I.cell x c e
  exact absurd (ξf q.lt (by rw[z];exact hb)) (Nat.lt_irrefl _)
 ·exact absurd (ξf (ζm (I.pin p hp).1) (by rw[z];exact hb)) (Nat.lt_irrefl _)
structure Turn(P:Program)(w:World)(K:ξk)(tg:Expr)(J:It)(fp:List Addr)(it:Addr)(tn:Nat->Heap->Prop):Prop where
 mem:it∈fp
 obj:∀i h,tn i h->∀b∈fp,∃o,h.get? b=some o/\∀v,o.data≠ .cell v
 keep:∀i h h',tn i h->(∀b∈fp,∀o,h.get? b=some o->h'.get? b=some o)->tn i h'
 item:∀(X:Cx),X.prog=P->X.w=w->X.K=K->X.calm=true->∀(i:Nat) (pins:List (Addr×Obj)) (s:Shared) (σ:St) (H:Hp) (E:Value->Shared->Prop),Inv X pins σ H s->(∀b∈fp,zcT X pins H b)->tn i s.heap->J.go i H->
  wpAny (model P w) X.A (pyNext (.ref it)) (λr s1=>∃u,r=some u/\
   wpAny (model P w) X.A (letOwnedTupleGo tg (.ref it) u) (λ_ s2=>∃x H',Inv X pins σ H' s2/\RelV x u/\J.yld i H x H'/\tn (i+1) s2.heap/\∀b∈fp,H' b=none) E s1) E s
 done:∀(X:Cx),X.prog=P->X.w=w->X.K=K->X.calm=true->∀(i:Nat) (pins:List (Addr×Obj)) (s:Shared) (σ:St) (H:Hp) (E:Value->Shared->Prop),Inv X pins σ H s->(∀b∈fp,zcT X pins H b)->tn i s.heap->J.stop i H->
   wpAny (model P w) X.A (pyNext (.ref it)) (λr s1=>r=none/\Inv X pins σ H s1) E s
 self:∀(A:Around) (i:Nat) (s:Shared) (Q:Value->Shared->Prop) (E:Value->Shared->Prop),tn i s.heap->Q (.ref it) s->wpAny (model P w) A (pyIter (.ref it)) Q E s
noncomputable abbrev TI:=St->Hp->(It->Hp->Prop)->Prop
def PIE(X:Cx)(pins:List (Addr×Obj))(σ:St)(tg:Expr)(R:It->Hp->Prop)(itv:Value)(s2:Shared):Prop:=
 ∃(it:Addr) (fp:List Addr) (tn:Nat->Heap->Prop) (J:It) (H':Hp),itv= .ref it/\Inv X pins σ H' s2/\Turn X.prog X.w X.K tg J fp it tn/\tn 0 s2.heap/\(∀b∈fp,zcT X pins H' b)/\R J H'
def PI(X:Cx)(tg iter:Expr)(wi:TI):Prop:=
 ∀(pins:List (Addr×Obj)) (s:Shared) (σ:St) (H:Hp) (R:It->Hp->Prop),Inv X pins σ H s->wi σ H R->
  wpAny (model X.prog X.w) X.A (eval iter X.env) (λv s1=>wpAny (model X.prog X.w) X.A (pyIter v) (PIE X pins σ tg R) X.xe s1) X.xe s
theorem zkz{M:Model}{A:Around}{E:Value->Shared->Prop}{s:Shared}{tg:Expr}{it:Addr}{u:Value}{o:Obj}{n:String}{vs:Array Value}{Q:Unit->Shared->Prop}(ho:s.heap.get? it=some o)(hc:o.cls= .type n)(hd:o.data= .fields vs)
 (hn:["enumerate","zip","dict_itemiterator","dict_reverseitemiterator","odict_iterator","itertools.zip_longest","itertools.pairwise"].contains n=false) (hQ:Q () s):wpAny M A (letOwnedTupleGo tg (.ref it) u) Q E s:=by
 unfold letOwnedTupleGo
 cases tg<;>first
  |exact ζr hQ
  |(cases u<;>first
     |exact ζr hQ
     |(refine ζb (wpAny_load ho ?_)
       rw[hc,hd]
       show wpAny M A (if(["enumerate","zip","dict_itemiterator","dict_reverseitemiterator","odict_iterator","itertools.zip_longest","itertools.pairwise"].contains n&&vs[0]?==some (rawInt _))=true then _ else _) Q E s
       rw[if_neg (by intro h;rw[hn,Bool.false_and] at h;cases h)]
       exact ζr hQ))
noncomputable def Itl(K:ξk)(a:Addr):It:=
 ⟨λi H=>∃xs x,SqL K H a xs/\xs[i]?=some x,λi H x H'=>H'=H/\∀xs,SqL K H a xs->xs[i]?=some x,λi H=>∃xs,SqL K H a xs/\xs.length<=i⟩
noncomputable def Itt(K:ξk)(a:Addr):It:=
 ⟨λi H=>∃xs x,SqT K H a xs/\xs[i]?=some x,λi H x H'=>H'=H/\∀xs,SqT K H a xs->xs[i]?=some x,λi H=>∃xs,SqT K H a xs/\xs.length<=i⟩
noncomputable def Itr(lo:Int)(n:Nat):It:=⟨λi _=>i<n,λi H x H'=>H'=H/\x= .int (lo+i),λi _=>n<=i⟩
theorem zlf{P:Program}{w:World}{K:ξk}{tg:Expr}(a it:Addr):Turn P w K tg (Itl K a) [it] it (λi h=>h.IsListIter it a i) where
 mem:=by simp
 obj:=λi h st b hb=>by
  have e:b=it:=by simpa using hb
  subst e
  obtain⟨o,e,c,d⟩:=st
  exact⟨o,e,λv z=>by rw[d] at z;cases z⟩
 keep:=λi h h' st k=>st.at λo e=>k it (by simp) o e
 item:=by
  intro X hP hw hK hc i pins s σ H E I hf st hg
  subst hP hw hK
  obtain⟨xs,x,hq,hx⟩:=hg
  obtain⟨its,rv,p,hz⟩:=I.list hq
  obtain⟨u,hu,ru⟩:=rv.get hx
  obtain⟨f0,f1,f2,f3,f4,f5⟩:=hf it (by simp)
  refine wpAny_pyNext_list_item st p.isList (x:=u) (by simpa using hu) λh' st' sb=>?_
  have I1:Inv X pins σ H {s with heap:=h'}:=I.turned (t':=s.toks) (λb o hb e=>(sb.2 b hb).trans e) f0 f1 f3 f4 f5
  obtain⟨o,e,c,d⟩:=id st'
  exact⟨u,rfl,zkz (s:={s with heap:=h'}) e c d (by decide) ⟨x,H,I1,ru,⟨rfl,λys hy=>by rw[I.list_inj hy hq];exact hx⟩,st',λb hb=>(hf b hb).1⟩⟩
 done:=by
   intro X hP hw hK hc i pins s σ H E I hf st hg
   subst hP hw hK
   obtain⟨xs,hq,hx⟩:=hg
   obtain⟨its,rv,p,hz⟩:=I.list hq
   obtain⟨f0,f1,f2,f3,f4,f5⟩:=hf it (by simp)
   have hl:=rv.length
   exact wpAny_pyNext_list_end (I.ok.hd hc) st p.isList (by simp;omega) λh' eb=>⟨rfl,I.turned (t':=s.toks) (λb o hb e=>eb b o hb e) f0 f1 f3 f4 f5⟩
 self:=λ_ _ _ _ _ st h=>wpAny_pyIter_listiter st h
theorem ziW{P:Program}{w:World}{K:ξk}{tg:Expr}(a it:Addr):Turn P w K tg (Itt K a) [it] it (λi h=>h.IsTupleIter it a i) where
 mem:=by simp
 obj:=λi h st b hb=>by
  have e:b=it:=by simpa using hb
  subst e
  obtain⟨o,e,c,d⟩:=st
  exact⟨o,e,λv z=>by rw[d] at z;cases z⟩
 keep:=λi h h' st k=>st.at λo e=>k it (by simp) o e
 item:=by
  intro X hP hw hK hc i pins s σ H E I hf st hg
  subst hP hw hK
  obtain⟨xs,x,hq,hx⟩:=hg
  obtain⟨its,rv,p,hz⟩:=I.tuple hq
  obtain⟨u,hu,ru⟩:=rv.get hx
  obtain⟨f0,f1,f2,f3,f4,f5⟩:=hf it (by simp)
  refine wpAny_pyNext_tuple_item st (show s.heap.IsTuple a its.toArray from p) (x:=u) (by simpa using hu) λh' st' sb=>?_
  have I1:Inv X pins σ H {s with heap:=h'}:=I.turned (t':=s.toks) (λb o hb e=>(sb.2 b hb).trans e) f0 f1 f3 f4 f5
  obtain⟨o,e,c,d⟩:=id st'
  exact⟨u,rfl,zkz (s:={s with heap:=h'}) e c d (by decide) ⟨x,H,I1,ru,⟨rfl,λys hy=>by rw[I.tuple_inj hy hq];exact hx⟩,st',λb hb=>(hf b hb).1⟩⟩
 done:=by
   intro X hP hw hK hc i pins s σ H E I hf st hg
   subst hP hw hK
   obtain⟨xs,hq,hx⟩:=hg
   obtain⟨its,rv,p,hz⟩:=I.tuple hq
   obtain⟨f0,f1,f2,f3,f4,f5⟩:=hf it (by simp)
   have hl:=rv.length
   exact wpAny_pyNext_tuple_end (I.ok.hd hc) st (show s.heap.IsTuple a its.toArray from p) (by simp;omega) λh' eb=>⟨rfl,I.turned (t':=s.toks) (λb o hb e=>eb b o hb e) f0 f1 f3 f4 f5⟩
 self:=λ_ _ _ _ _ st h=>wpAny_pyIter_tupleiter st h
theorem zi7{P:Program}{w:World}{K:ξk}{tg:Expr}(it:Addr)(lo:Int)(n:Nat):Turn P w K tg (Itr lo n) [it] it (λi h=>IsRangeIter h it (lo+(i:Nat)*1) ((n:Int) -(i:Nat)) 1) where
 mem:=by simp
 obj:=λi h st b hb=>by
  have e:b=it:=by simpa using hb
  subst e
  exact⟨_,st,λv z=>by
   have z':Data.fields _=Data.cell v:=z
   cases z'⟩
 keep:=λi h h' st k=>k it (by simp) _ st
 item:=by
  intro X hP hw hK hc i pins s σ H E I hf st hg
  subst hP hw hK
  obtain⟨f0,f1,f2,f3,f4,f5⟩:=hf it (by simp)
  have W:=Walks.range (prog:=X.prog) (w:=X.w) (I.ok.hd hc) it lo 1 n
  refine W.item i s _ _ hg st λv h' tk hv st' kk=>?_
  obtain⟨t,rfl⟩:=hv
  have I1:Inv X pins σ H {s with heap:=h',toks:=tk}:=I.turned (λb o hb e=>kk b o (by simpa using hb) e) f0 f1 f3 f4 f5
  refine⟨_,rfl,zkz (s:={s with heap:=h',toks:=tk}) (n:="range_iterator") st' rfl rfl (by decide) ⟨.int (lo+i),H,I1,⟨t,?_⟩,⟨rfl,rfl⟩,st',λb hb=>(hf b hb).1⟩⟩
  rw[Int.mul_one]
 done:=by
   intro X hP hw hK hc i pins s σ H E I hf st hg
   subst hP hw hK
   obtain⟨f0,f1,f2,f3,f4,f5⟩:=hf it (by simp)
   exact wpAny_pyNext_range_end (I.ok.hd hc) st (by have:n<=i:=hg;omega) λh' eb=>⟨rfl,I.turned (t':=s.toks) (λb o hb e=>eb b o hb e) f0 f1 f3 f4 f5⟩
 self:=λ_ _ _ _ _ st h=>wpAny_pyIter_rangeiter st h
section
variable{X:Cx}{tg:Expr}
noncomputable def zkH(K:ξk)(tl:TE):TI:=λσ H R=>tl σ H λx H1=>∃a,x= .ref a/\(∃xs,SqL K H1 a xs)/\R (Itl K a) H1
noncomputable def zo6(K:ξk)(tl:TE):TI:=λσ H R=>tl σ H λx H1=>∃a,x= .ref a/\(∃xs,SqT K H1 a xs)/\R (Itt K a) H1
theorem zoD{l:Expr}{tl:TE}(hl:PE X l tl):PI X tg l (zkH X.K tl):=by
 intro pins s σ H R I h
 refine thn (hl pins s σ H _ I h) λv s1 ⟨x,H1,I1,r1,q1⟩=>?_
 obtain⟨a,e,⟨xs,hq⟩,q⟩:=q1
 subst e
 cases r1
 obtain⟨its,rv,p,hz⟩:=I1.list hq
 refine wpAny_pyIter_list p.isList ?_
 refine⟨s1.heap.objs.size,[s1.heap.objs.size],_,_,H1,rfl,I1.kept (t':=s1.toks) λb o e=>ζc _ e,zlf a _,⟨_,ζj _ rfl,rfl,rfl⟩,λb hb=>?_,q⟩
 have e:b=s1.heap.objs.size:=by simpa using hb
 subst e
 exact I1.fpOk (ζt _) (I1.hok.fresh (ζt _))
theorem zqZ{l:Expr}{tl:TE}(hl:PE X l tl):PI X tg l (zo6 X.K tl):=by
 intro pins s σ H R I h
 refine thn (hl pins s σ H _ I h) λv s1 ⟨x,H1,I1,r1,q1⟩=>?_
 obtain⟨a,e,⟨xs,hq⟩,q⟩:=q1
 subst e
 cases r1
 obtain⟨its,rv,p,hz⟩:=I1.tuple hq
 refine wpAny_pyIter_tuple (show s1.heap.IsTuple a its.toArray from p) ?_
 refine⟨s1.heap.objs.size,[s1.heap.objs.size],_,_,H1,rfl,I1.kept (t':=s1.toks) λb o e=>ζc _ e,ziW a _,⟨_,ζj _ rfl,rfl,rfl⟩,λb hb=>?_,q⟩
 have e:b=s1.heap.objs.size:=by simpa using hb
 subst e
 exact I1.fpOk (ζt _) (I1.hok.fresh (ζt _))
theorem znb{pins:List (Addr×Obj)}{σ:St}{H:Hp}{s:Shared}{R:It->Hp->Prop}{E:Value->Shared->Prop}{lo hi:Int}{t u v:Tok}{tk:Nat}(I:Inv X pins σ H s)(h1: -(2^62)<=lo)(h2:lo<2^62)(h3: -(2^62)<=hi)(h4:hi<2^62)
 (q:R (Itr lo (hi -lo).toNat) H):wpAny (model X.prog X.w) X.A (pyIter (.ref s.heap.objs.size)) (PIE X pins σ tg R) E {s with heap:=s.heap.push {cls:= .type "range",data:= .fields #[.int lo t, .int hi u, .int 1 v]},toks:=tk}:=by
 refine wpAny_pyIter_range (IsRange.new ..) (small_one h1 h2 h3 h4) ?_
 have I1:Inv X pins σ H {s with heap:=s.heap.push {cls:= .type "range",data:= .fields #[.int lo t, .int hi u, .int 1 v]},toks:=tk}:=I.kept λb o e=>ζc _ e
 refine⟨(s.heap.push {cls:= .type "range",data:= .fields #[.int lo t, .int hi u, .int 1 v]}).objs.size,[(s.heap.push {cls:= .type "range",data:= .fields #[.int lo t, .int hi u, .int 1 v]}).objs.size],_,_,H,rfl,
  I1.kept (t':=tk) λb o e=>ζc _ e,zi7 _ lo (hi -lo).toNat,?_,λb hb=>?_,q⟩
 ·have e1:lo+((0:Nat):Int)*1=lo:=by simp
  have e2:(((hi -lo).toNat:Nat):Int) -((0:Nat):Int)=Builtin.Range.rangeSize lo hi 1:=by rw[rangeSize_one];split<;>omega
  show IsRangeIter _ _ (lo+((0:Nat):Int)*1) ((((hi -lo).toNat:Nat):Int) -((0:Nat):Int)) 1
  rw[e1,e2]
  exact ζj _ rfl
 ·have e:b=(s.heap.push {cls:= .type "range",data:= .fields #[.int lo t, .int hi u, .int 1 v]}).objs.size:=by simpa using hb
  subst e
  exact I1.fpOk (ζt _) (I1.hok.fresh (ζt _))
noncomputable def zpB(ta:TA):TI:=λσ H R=>ta σ H λvs H1=>∃j:Int,vs=[.int j]/\-(2^62)<=j/\j<2^62/\R (Itr 0 j.toNat) H1
theorem zlu{a:Expr}{ta:TA}{p pos:Pos}(hg:Gl X "range")(hm:X.mg "range"=none)(ha:PA X [a] ta)(hs:starEach [a] X.env=[(false,eval a X.env)]:=by rfl):PI X tg (.Call (.Name "range" p) [a] [] pos) (zpB ta):=by
 intro pins s σ H R I h
 refine Call_ (zeu I hg hm boot_range (PyProof.Rows.callWith_type1 (thn (ha pos pins s σ H _ I h) λus s1 ⟨vs,H1,I1,r1,q1⟩=>?_) hs rfl))
 obtain⟨j,e,q1,q2,q⟩:=q1
 subst e
 cases r1 with
 |cons r rr=>
  cases rr
  obtain⟨t,rfl⟩:=r
  exact call_range_1 (znb I1 (by omega) (by omega) q1 q2 (by simpa using q))
noncomputable def zse(wi:TI)(g:TG)(tb:TS):TS:=λD σ H=>wi σ H λJ H1=>∃W:Nat->Nat->St->Hp->Prop,(∃m,W 0 m σ H1)/\∀i m σ H,W i m σ H->
 (J.stop i H/\D.nx σ H)\/(J.go i H/\∃N:St->Hp->Prop,(∀σ' H',N σ' H'->∃m',m'<m/\W (i+1) m' σ' H')/\∀x H',J.yld i H x H'->g x σ H' λσ2 H2=>tb {D with nx:=N,ct:=N,bk:=D.nx} σ2 H2)
noncomputable def zbM(fp:List Addr)(h:Heap):List (Addr×Obj):=fp.filterMap λb=>(h.get? b).map λo=>(b,o)
theorem zX{fp:List Addr}{h:Heap}{b:Addr}{o:Obj}(hb:b∈fp)(e:h.get? b=some o):(b,o)∈zbM fp h:=List.mem_filterMap.mpr ⟨b,hb,by rw[e];rfl⟩
theorem zlg{fp:List Addr}{h:Heap}{p:Addr×Obj}(hp:p∈zbM fp h):p.1∈fp/\h.get? p.1=some p.2:=by
 obtain⟨b,hb,e⟩:=List.mem_filterMap.mp hp
 cases q:h.get? b with
 |none=>rw[q] at e;cases e
 |some o=>
  rw[q] at e
  have e':(b,o)=p:=ξh e
  subst e'
  exact⟨hb,q⟩
theorem Inv.pinned{pins:List (Addr×Obj)}{σ:St}{H:Hp}{s:Shared}{fp:List Addr}(I:Inv X pins σ H s)(hf:∀b∈fp,zcT X pins H b)(ho:∀b∈fp,∃o,s.heap.get? b=some o/\∀v,o.data≠ .cell v):Inv X (pins ++zbM fp s.heap) σ H s:=
 I.pins_of λp hp=>(List.mem_append.mp hp).elim (λz=>I.pin p (ξl _ z)) λz=>by
  obtain⟨hb,e⟩:=zlg z
  obtain⟨f0,f1,f2,_⟩:=hf p.1 hb
  obtain⟨o,e',d⟩:=ho p.1 hb
  rw[e] at e';cases e'
  exact⟨e,f0,f1,f2,d⟩
theorem Inv.unpinned{pins pl:List (Addr×Obj)}{σ:St}{H:Hp}{s:Shared}(I:Inv X (pins ++pl) σ H s):Inv X pins σ H s:=I.pins_of λp hp=>I.pin p (ξl _ (List.mem_append_left _ hp))
theorem zra{iter:Expr}{body:List Stmt}{wi:TI}{g:TG}{tb:TS}{pos:Pos}(hp:PassesOwn (model X.prog X.w) X.A X.env X.xe)(hc:X.calm=true)(hi:PI X tg iter wi)(hg:PG X tg g)(hb:PSs X body tb)
 (hs:∀x,foldedSetIterable iter X.env x=pure x:=by intro _;rfl):PS X (.For tg iter body [] pos) (zse wi g tb):=by
 intro pins s σ H D I h
 refine wpAny_For (thn (hi pins s σ H _ I h) λv s1 h1=>thn h1 λitv s2 h2=>?_) hs
 obtain⟨it,fp,tn,J,H2,e,I2,T,st2,f2,W,⟨m0,w0⟩,turn⟩:=h2
 subst e
 have stat:∀{H':Hp},(∀b∈fp,H' b=none)->∀b∈fp,zcT X pins H' b:=λhn b hb=>⟨hn b hb,(f2 b hb).2⟩
 refine codeAny_forLoop_any (λn s'=>∃i σ' H',Inv X pins σ' H' s'/\tn i s'.heap/\(∀b∈fp,H' b=none)/\W i n σ' H') ?_ m0 ⟨0,σ,H2,I2,st2,λb hb=>(f2 b hb).1,w0⟩
 rintro n s3 ⟨i,σ3,H3,I3,st3,fr3,w3⟩
 rcases turn i n σ3 H3 w3 with⟨stop,qn⟩|⟨go,N,hN,step⟩
 ·refine wpAny_passesOwn hp (thn (T.done X rfl rfl rfl hc i pins s3 σ3 H3 X.xe I3 (stat fr3) st3 stop) λr s4 ⟨hr,I4⟩=>?_)
  subst hr
  exact wpAny_execs_nil ⟨σ3,H3,I4,qn⟩
 ·refine wpAny_passesOwn hp (thn (T.item X rfl rfl rfl hc i pins s3 σ3 H3 X.xe I3 (stat fr3) st3 go) λr s4 ⟨u,hr,h4⟩=>?_)
  subst hr
  refine wpAny_passesOwn hp (thn h4 λ_ s5 ⟨x,H5,I5,r5,y5,st5,fr5⟩=>?_)
  have I5':=I5.pinned (stat fr5) (T.obj _ _ st5)
  refine wpAny_passesOwn hp (thn (hg _ s5 σ3 H5 x u _ I5' r5 (step x H5 y5)) λ_ s6 ⟨σ6,H6,I6,q6⟩=>?_)
  refine wpAny_passesOwn hp (thn (hb _ s6 σ6 H6 _ I6 q6) λf s7 q7=>?_)
  have again:∀{σ7:St} {H7:Hp},Inv X (pins ++zbM fp s5.heap) σ7 H7 s7->N σ7 H7->∃m,m<n/\∃i σ' H',Inv X pins σ' H' s7/\tn i s7.heap/\(∀b∈fp,H' b=none)/\W i m σ' H':=λ{σ7 H7} I7 n7=>by
   obtain⟨m',hm,w7⟩:=hN σ7 H7 n7
   refine⟨m',hm,i+1,σ7,H7,I7.unpinned,T.keep _ _ _ st5 λb hb o e=>(I7.pin (b,o) (ξl _ (ξl _ (zX hb e)))).1,λb hb=>?_,w7⟩
   obtain⟨o,e,d⟩:=T.obj _ _ st5 b hb
   exact(I7.pin (b,o) (ξl _ (ξl _ (zX hb e)))).2.1
  cases f with
  |next=>obtain ⟨σ7,H7,I7,n7⟩:=q7;exact again I7 n7
  |cont=>obtain ⟨σ7,H7,I7,n7⟩:=q7;exact again I7 n7
  |brk=>obtain ⟨σ7,H7,I7,q7⟩:=q7;exact⟨σ7,H7,I7.unpinned,q7⟩
  |ret v=>obtain ⟨x7,σ7,H7,I7,r7,q7⟩:=q7;exact⟨x7,σ7,H7,I7.unpinned,r7,q7⟩
end
noncomputable abbrev R2:=V->V->Hp->VK->Prop
def OpR(X:Cx)(f:Value->Value->Sem Value)(r:R2):Prop:=
 ∀(pins:List (Addr×Obj)) (s:Shared) (σ:St) (H:Hp) (x y:V) (v u:Value) (Q:VK),Inv X pins σ H s->RelV x v->RelV y u->r x y H Q->
  wpAny (model X.prog X.w) X.A (f v u) (EP X pins σ Q) X.xe s
def UnR(X:Cx)(f:Value->Sem Value)(r:V->Hp->VK->Prop):Prop:=
 ∀(pins:List (Addr×Obj)) (s:Shared) (σ:St) (H:Hp) (x:V) (v:Value) (Q:VK),Inv X pins σ H s->RelV x v->r x H Q->
  wpAny (model X.prog X.w) X.A (f v) (EP X pins σ Q) X.xe s
def CallR(X:Cx)(f:Value)(r:List V->Hp->VK->Prop):Prop:=
 ∀(pins:List (Addr×Obj)) (s:Shared) (σ:St) (H:Hp) (xs:List V) (us:List Value) (Q:VK),Inv X pins σ H s->Vals xs us->r xs H Q->
  wpAny (model X.prog X.w) X.A (call f us) (EP X pins σ Q) X.xe s
def zsk(X:Cx)(r:V->Hp->(Bool->Hp->Prop)->Prop):Prop:=
 ∀(pins:List (Addr×Obj)) (s:Shared) (σ:St) (H:Hp) (x:V) (v:Value) (Q:Bool->Hp->Prop),Inv X pins σ H s->RelV x v->r x H Q->
  wpAny (model X.prog X.w) X.A (truthy v) (TP X pins σ Q) X.xe s
noncomputable def tOp(r:R2)(ta tb:TE):TE:=λσ H Q=>ta σ H λx H1=>tb σ H1 λy H2=>r x y H2 Q
def tUn(r:V->Hp->VK->Prop)(ta:TE):TE:=λσ H Q=>ta σ H λx H1=>r x H1 Q
def rI(C:Int->Int->Prop)(g:Int->Int->V):R2:=λx y H Q=>∃i j,x= .int i/\y= .int j/\C i j/\Q (g i j) H
noncomputable def rI0(g:Int->Int->V):R2:=λx y H Q=>∃i j,x= .int i/\y= .int j/\Q (g i j) H
def rU(g:Int->V):V->Hp->VK->Prop:=λx H Q=>∃i,x= .int i/\Q (g i) H
section
variable{X:Cx}{a b c:Expr}{ta tb tc:TE}{pos:Pos}
theorem zp4(ha:PE X a ta)(hb:PE X b tb){pins:List (Addr×Obj)}{s:Shared}{σ:St}{H:Hp}{R:V->V->Hp->Prop}(I:Inv X pins σ H s)
 (h:ta σ H λx H1=>tb σ H1 λy H2=>R x y H2) {Q:Value->Shared->Prop} {f:Value->Value->Sem Value}
 (hf:∀v u s2 x y H2,Inv X pins σ H2 s2->RelV x v->RelV y u->R x y H2->wpAny (model X.prog X.w) X.A (f v u) Q X.xe s2):
 wpAny (model X.prog X.w) X.A (eval a X.env) (λv s₁=>wpAny (model X.prog X.w) X.A (eval b X.env) (λu s₂=>wpAny (model X.prog X.w) X.A (f v u) Q X.xe s₂) X.xe s₁) X.xe s:=by
 refine thn (ha pins s σ H _ I h) λv s1 ⟨x,H1,I1,r1,q1⟩=>?_
 refine thn (hb pins s1 σ H1 _ I1 q1) λu s2 ⟨y,H2,I2,r2,q2⟩=>?_
 exact hf v u s2 x y H2 I2 r1 r2 q2
theorem zrD{op:Operator}{r:R2}(ho:OpR X (binaryOp op) r)(ha:PE X a ta)(hb:PE X b tb):PE X (.BinOp a op b pos) (tOp r ta tb):=by
 intro pins s σ H Q I h
 exact wpAny_BinOp (zp4 ha hb I h λv u s2 x y H2 I2 rx ry q=>ho pins s2 σ H2 x y v u Q I2 rx ry q)
theorem zr0{op:UnaryOp}{r:V->Hp->VK->Prop}(ho:UnR X (unaryOp op) r)(ha:PE X a ta):PE X (.UnaryOp op a pos) (tUn r ta):=by
 intro pins s σ H Q I h
 exact UnaryOp_ (thn (ha pins s σ H _ I h) λv s1 ⟨x,H1,I1,r1,q1⟩=>ho pins s1 σ H1 x v Q I1 r1 q1)
theorem opI{f:Value->Value->Sem Value}{C:Int->Int->Prop}{g:Int->Int->Int}
 (rule:∀(i j:Int) (t u:Tok) (s:Shared) (Q:Value->Shared->Prop) (E:Value->Shared->Prop),C i j->Q (.int (g i j) s.toks) {s with toks:=s.toks+1}->wpAny (model X.prog X.w) X.A (f (.int i t) (.int j u)) Q E s):
 OpR X f (rI C λi j=> .int (g i j)):=by
 intro pins s σ H x y v u Q I rx ry h
 obtain⟨i,j,rfl,rfl,hc,q⟩:=h
 obtain⟨t,rfl⟩:=rx
 obtain⟨t',rfl⟩:=ry
 exact rule i j t t' s _ _ hc ⟨.int (g i j),H,I.tok _,⟨_,rfl⟩,q⟩
theorem zrv{f:Value->Value->Sem Value}{g:Int->Int->Int}
 (rule:∀(i j:Int) (t u:Tok) (s:Shared) (Q:Value->Shared->Prop) (E:Value->Shared->Prop),Q (.int (g i j) s.toks) {s with toks:=s.toks+1}->wpAny (model X.prog X.w) X.A (f (.int i t) (.int j u)) Q E s):
 OpR X f (rI0 λi j=> .int (g i j)):=by
 intro pins s σ H x y v u Q I rx ry h
 obtain⟨i,j,rfl,rfl,q⟩:=h
 obtain⟨t,rfl⟩:=rx
 obtain⟨t',rfl⟩:=ry
 exact rule i j t t' s _ _ ⟨.int (g i j),H,I.tok _,⟨_,rfl⟩,q⟩
theorem zqx{f:Value->Value->Sem Value}{g:Int->Int->Bool}
 (rule:∀(i j:Int) (t u:Tok) (s:Shared) (Q:Value->Shared->Prop) (E:Value->Shared->Prop),Q (.bool (g i j)) s->wpAny (model X.prog X.w) X.A (f (.int i t) (.int j u)) Q E s):
 OpR X f (rI0 λi j=> .bl (g i j)):=by
 intro pins s σ H x y v u Q I rx ry h
 obtain⟨i,j,rfl,rfl,q⟩:=h
 obtain⟨t,rfl⟩:=rx
 obtain⟨t',rfl⟩:=ry
 exact rule i j t t' s _ _ ⟨.bl (g i j),H,I,rfl,q⟩
def zsq(i j:Int):Prop:=0<j/\j<1073741824
def zsm(i j:Int):Prop:=0<=j/\j<=1000000/\i.natAbs<2^64
def CMul(i j:Int):Prop:=(-(2^64)<i/\i<2^64)\/(-(2^64)<j/\j<2^64)
theorem CMul.ok{i j:Int}(h:CMul i j):IntMulOk i j:=by
 rcases h with⟨h1,h2⟩|⟨h1,h2⟩
 ·exact .of_left (intBits_le_64 h1 h2)
 ·exact .of_right (intBits_le_64 h1 h2)
theorem zaB:OpR X (binaryOp .Add) (rI0 λi j=> .int (i+j)):=zrv λ_ _ _ _ _ _ _ q=>add_int q
theorem znk:OpR X (binaryOp .Sub) (rI0 λi j=> .int (i -j)):=zrv λ_ _ _ _ _ _ _ q=>sub_int q
theorem zbw:OpR X (binaryOp .Mult) (rI CMul λi j=> .int (i*j)):=opI λ_ _ _ _ _ _ _ hc q=>mul_int q hc.ok
theorem zfe:OpR X (binaryOp .FloorDiv) (rI zsq λi j=> .int (i/j)):=opI λi j _ _ _ _ _ hc q=>by
 have h1:(0:Int)<j:=hc.1
 have h2:j<1073741824:=hc.2
 exact floordiv_int (by omega) (by rw[Int.fdiv_eq_ediv_of_nonneg i (by omega)];exact q) (.inl (PyProof.noPylong_small (by omega)))
theorem zcE:OpR X (binaryOp .Mod) (rI (λ_ j=>0<j) λi j=> .int (i%j)):=opI λi j _ _ _ _ _ hc q=>by
 have h1:(0:Int)<j:=hc
 exact mod_int' (by omega) (by rw[Int.fmod_eq_emod_of_nonneg i (by omega)];exact q)
theorem zqn:OpR X (binaryOp .Pow) (rI zsm λi j=> .int (i^j.toNat)):=opI λ_ _ _ _ _ _ _ hc q=>pow_int_small hc.1 hc.2.1 hc.2.2 q
theorem unI{f:Value->Sem Value}{g:Int->Int}
 (rule:∀(i:Int) (t:Tok) (s:Shared) (Q:Value->Shared->Prop) (E:Value->Shared->Prop),Q (.int (g i) s.toks) {s with toks:=s.toks+1}->wpAny (model X.prog X.w) X.A (f (.int i t)) Q E s):
 UnR X f (rU λi=> .int (g i)):=by
 intro pins s σ H x v Q I rx h
 obtain⟨i,rfl,q⟩:=h
 obtain⟨t,rfl⟩:=rx
 exact rule i t s _ _ ⟨.int (g i),H,I.tok _,⟨_,rfl⟩,q⟩
theorem zfi:UnR X (unaryOp .USub) (rU λi=> .int (-i)):=unI λ_ _ _ _ _ q=>neg_int q
end
noncomputable def zqt:V->V->Bool
 | .non, .non=>true| .non, .int _=>true| .int _, .non=>true| .non, .bl _=>true| .bl _, .non=>true| .non, .str _=>true| .str _, .non=>true
 | .int _, .int _=>true| .bl _, .bl _=>true| .str _, .str _=>true| .byt _, .byt _=>true
 | .int _, .str _=>true| .str _, .int _=>true| .bl _, .str _=>true| .str _, .bl _=>true
 |_,_=>false
noncomputable def rEq:R2:=λx y H Q=>zqt x y=true/\Q (.bl (decide (x=y))) H
noncomputable def rNe:R2:=λx y H Q=>zqt x y=true/\Q (.bl (!decide (x=y))) H
theorem zkE{i j:Int}:decide (V.int i=V.int j)=(i==j):=by
 rw[ξd]
 simp
theorem zmv{i j:Bool}:decide (V.bl i=V.bl j)=(i==j):=by
 rw[ξd]
 simp
theorem zjU{i j:Str}:decide (V.str i=V.str j)=(i==j):=by
 rw[ξd]
 simp
theorem zkx{i j:Array UInt8}:decide (V.byt i=V.byt j)=(i.toList==j.toList):=by
 rw[ξd]
 cases i
 cases j
 simp
section
variable{X:Cx}{a b c:Expr}{ta tb tc:TE}{pos:Pos}
theorem zH{pins:List (Addr×Obj)}{σ:St}{H:Hp}{s:Shared}{Q:VK}{k k':Bool}(I:Inv X pins σ H s)(q:Q (.bl k) H)(e:k=k'):EP X pins σ Q (.bool k') s:=by
 subst e
 exact⟨.bl k,H,I,rfl,q⟩
theorem z5:OpR X (compareOp .Eq) rEq:=by
 intro pins s σ H x y v u Q I rx ry h
 obtain⟨hs,q⟩:=h
 cases x with
 |non=>
  cases rx
  cases y with
  |non=>cases ry;exact PySem.EqNone.eq_none_none (zH I q (by simp))
  |bl j=>cases ry;exact PySem.EqNone.eq_none_bool (zH I q (by simp))
  |int j=>obtain ⟨t',rfl⟩:=ry;exact PySem.EqNone.eq_none_int (zH I q (by simp))
  |str j=>obtain ⟨t',rfl⟩:=ry;exact PySem.EqNone.eq_none_str (zH I q (by simp))
  |_=>exact absurd (show false=true from hs) ξe
 |bl i=>
  cases rx
  cases y with
  |non=>cases ry;exact PySem.EqNone.eq_bool_none (zH I q (by simp))
  |bl j=>cases ry;exact eq_bool (zH I q zmv)
  |str j=>obtain ⟨t',rfl⟩:=ry;exact PySem.EqMixed.eq_bool_str (zH I q (by simp))
  |_=>exact absurd (show false=true from hs) ξe
 |int i=>
  obtain⟨t,rfl⟩:=rx
  cases y with
  |non=>cases ry;exact PySem.EqNone.eq_int_none (zH I q (by simp))
  |int j=>obtain ⟨t',rfl⟩:=ry;exact eq_int (zH I q zkE)
  |str j=>obtain ⟨t',rfl⟩:=ry;exact PySem.EqMixed.eq_int_str (zH I q (by simp))
  |_=>exact absurd (show false=true from hs) ξe
 |str i=>
  obtain⟨t,rfl⟩:=rx
  cases y with
  |non=>cases ry;exact PySem.EqNone.eq_str_none (zH I q (by simp))
  |bl j=>cases ry;exact PySem.EqMixed.eq_str_bool (zH I q (by simp))
  |int j=>obtain ⟨t',rfl⟩:=ry;exact PySem.EqMixed.eq_str_int (zH I q (by simp))
  |str j=>obtain ⟨t',rfl⟩:=ry;exact eq_str (zH I q zjU)
  |_=>exact absurd (show false=true from hs) ξe
 |byt i=>
  obtain⟨t,rfl⟩:=rx
  cases y with
  |byt j=>obtain ⟨t',rfl⟩:=ry;exact PySem.W.eq_bytes (zH I q zkx)
  |_=>exact absurd (show false=true from hs) ξe
 |_=>cases y<;>exact absurd (show false=true from hs) ξe
theorem zgr:OpR X (compareOp .NotEq) rNe:=by
 intro pins s σ H x y v u Q I rx ry h
 obtain⟨hs,q⟩:=h
 cases x with
 |non=>
  cases rx
  cases y with
  |non=>cases ry;exact PySem.EqNone.ne_none_none (zH I q (by simp))
  |bl j=>cases ry;exact PySem.EqNone.ne_none_bool (zH I q (by simp))
  |int j=>obtain ⟨t',rfl⟩:=ry;exact PySem.EqNone.ne_none_int (zH I q (by simp))
  |str j=>obtain ⟨t',rfl⟩:=ry;exact PySem.EqNone.ne_none_str (zH I q (by simp))
  |_=>exact absurd (show false=true from hs) ξe
 |bl i=>
  cases rx
  cases y with
  |non=>cases ry;exact PySem.EqNone.ne_bool_none (zH I q (by simp))
  |bl j=>cases ry;exact ne_bool (zH I q (congrArg not zmv))
  |str j=>obtain ⟨t',rfl⟩:=ry;exact PySem.EqMixed.ne_bool_str (zH I q (by simp))
  |_=>exact absurd (show false=true from hs) ξe
 |int i=>
  obtain⟨t,rfl⟩:=rx
  cases y with
  |non=>cases ry;exact PySem.EqNone.ne_int_none (zH I q (by simp))
  |int j=>obtain ⟨t',rfl⟩:=ry;exact ne_int (zH I q (congrArg not zkE))
  |str j=>obtain ⟨t',rfl⟩:=ry;exact PySem.EqMixed.ne_int_str (zH I q (by simp))
  |_=>exact absurd (show false=true from hs) ξe
 |str i=>
  obtain⟨t,rfl⟩:=rx
  cases y with
  |non=>cases ry;exact PySem.EqNone.ne_str_none (zH I q (by simp))
  |bl j=>cases ry;exact PySem.EqMixed.ne_str_bool (zH I q (by simp))
  |int j=>obtain ⟨t',rfl⟩:=ry;exact PySem.EqMixed.ne_str_int (zH I q (by simp))
  |str j=>obtain ⟨t',rfl⟩:=ry;exact ne_str (zH I q (congrArg not zjU))
  |_=>exact absurd (show false=true from hs) ξe
 |byt i=>
  obtain⟨t,rfl⟩:=rx
  cases y with
  |byt j=>obtain ⟨t',rfl⟩:=ry;exact PySem.W.ne_bytes (zH I q (congrArg not zkx))
  |_=>exact absurd (show false=true from hs) ξe
 |_=>cases y<;>exact absurd (show false=true from hs) ξe
theorem zrw:OpR X (compareOp .Lt) (rI0 λi j=> .bl (decide (i<j))):=zqx λ_ _ _ _ _ _ _ q=>lt_int q
theorem zgw:OpR X (compareOp .Gt) (rI0 λi j=> .bl (decide (j<i))):=zqx λ_ _ _ _ _ _ _ q=>gt_int q
theorem zpu:OpR X (compareOp .GtE) (rI0 λi j=> .bl (decide (j<=i))):=zqx λ_ _ _ _ _ _ _ q=>ge_int q
theorem zdB:OpR X (compareOp .Is) (λx y H Q=>y= .non/\Q (.bl (decide (x= .non))) H):=by
 intro pins s σ H x y v u Q I rx ry h
 obtain⟨rfl,q⟩:=h
 cases ry
 refine is_none_gen (zH I q ?_)
 cases x<;>first
  |(cases rx;rfl)
  |(obtain⟨t,rfl⟩:=rx;rfl)
theorem zgX:OpR X (compareOp .IsNot) (λx y H Q=>y= .non/\Q (.bl (!decide (x= .non))) H):=by
 intro pins s σ H x y v u Q I rx ry h
 obtain⟨rfl,q⟩:=h
 cases ry
 refine isnot_none_gen (zH I q ?_)
 cases x<;>first
  |(cases rx;rfl)
  |(obtain⟨t,rfl⟩:=rx;rfl)
theorem zoL{op:CmpOp}{r:R2}(ho:OpR X (compareOp op) r)(ha:PE X a ta)(hb:PE X b tb)(hm:behindInMarks op b=false):PE X (.Compare a [op] [b] pos) (tOp r ta tb):=by
 intro pins s σ H Q I h
 exact wpAny_Compare1 (zp4 ha hb I h λv u s2 x y H2 I2 rx ry q=>ho pins s2 σ H2 x y v u Q I2 rx ry q) hm
noncomputable def zpU(t:TE):TT:=λσ H Q=>t σ H λx H'=>∃k,x= .bl k/\Q k H'
theorem zo3{op:CmpOp}{r:R2}(ho:OpR X (compareOp op) r)(ha:PE X a ta)(hb:PE X b tb)(hm:behindInMarks op b=false):PT X (.Compare a [op] [b] pos) (zpU (tOp r ta tb)):=by
 intro pins s σ H Q I h
 refine wpAny_isTrue_Compare1 (thn (ha pins s σ H _ I h) λv s1 ⟨x,H1,I1,r1,q1⟩=>thn (hb pins s1 σ H1 _ I1 q1) λu s2 ⟨y,H2,I2,r2,q2⟩=>
  thn (ho pins s2 σ H2 x y v u _ I2 r1 r2 q2) λc s3 ⟨z,H3,I3,r3,k,e,q3⟩=>?_) hm
 subst e
 cases r3
 exact wpAny_truthy_bool ⟨H3,I3,q3⟩
def zp5(K:ξk)(x:V)(H:Hp)(k:Bool):Prop:=
 match x with
 | .non=>k=false
 | .bl b=>k=b
 | .int i=>k=(i !=0)
 | .str y=>y.length<=sizeLine/\k=((y.length:Int) !=0)
 | .byt y=>y.size<=sizeLine/\k=((y.size:Int) !=0)
 | .ref p=>(∃xs,SqL K H p xs/\k=!xs.isEmpty)\/(∃xs,SqT K H p xs/\k=!xs.isEmpty)\/∃kvs,H p=some (.dK kvs)/\k=!kvs.isEmpty
 |_=>False
theorem zjj{κ:Type}{kvs:List (κ×V)}{vs:List (κ×Value)}(r:KV kvs vs):(!vs.isEmpty)=!kvs.isEmpty:=by
 cases r<;>rfl
theorem zfV{xs:List V}{its:List Value}(r:Vals xs its):(!its.toArray.isEmpty)=!xs.isEmpty:=by
 cases r<;>simp
theorem zdM:(sizeLine:Nat)<2^63:=by rw[sizeLine_eq];decide
theorem zp0:zsk X (λx H Q=>∃k,zp5 X.K x H k/\Q k H):=by
 intro pins s σ H x v Q I rx h
 obtain⟨k,e,q⟩:=h
 have hl:=zdM
 have hs:sizeLine=16777216:=sizeLine_eq
 cases x with
 |non=>
  cases rx
  have e':k=false:=e
  subst e'
  exact truthy_none ⟨H,I,q⟩
 |bl b=>
  cases rx
  have e':k=b:=e
  subst e'
  exact wpAny_truthy_bool ⟨H,I,q⟩
 |int i=>
  obtain⟨t,rfl⟩:=rx
  have e':k=(i !=0):=e
  subst e'
  exact PySem.P.truthy_int ⟨H,I,q⟩
 |str y=>
  obtain⟨t,rfl⟩:=rx
  obtain⟨hy,e'⟩:y.length<=sizeLine/\k=((y.length:Int) !=0):=e
  subst e'
  exact PySem.P.truthy_str (by omega) ⟨H,I.tok _,q⟩
 |byt y=>
  obtain⟨t,rfl⟩:=rx
  obtain⟨hy,e'⟩:y.size<=sizeLine/\k=((y.size:Int) !=0):=e
  subst e'
  exact PySem.W.truthy_bytes (by omega) ⟨H,I.tok _,q⟩
 |ref p=>
  cases rx
  have e':(∃xs,SqL X.K H p xs/\k=!xs.isEmpty)\/(∃xs,SqT X.K H p xs/\k=!xs.isEmpty)\/∃kvs,H p=some (.dK kvs)/\k=!kvs.isEmpty:=e
  rcases e' with⟨xs,hx,e'⟩|⟨xs,hx,e'⟩|⟨kvs,hx,e'⟩
  ·subst e'
   obtain⟨its,r,pl,hz⟩:=I.list hx
   have hlen:=r.length
   exact wpAny_truthy_list pl.isList (by simp only[ζu];omega) ⟨H,I.tok _,by rw[zfV r];exact q⟩
  ·subst e'
   obtain⟨its,r,pl,hz⟩:=I.tuple hx
   have hlen:=r.length
   exact truthy_tuple pl (by simp only[ζu];omega) ⟨H,I.tok _,by rw[zfV r];exact q⟩
  ·subst e'
   obtain⟨hz,hS,vs,r,m⟩:kvs.length<=sizeLine/\(p==sysModules)=false/\∃vs,KV kvs vs/\s.heap.DictOf (zai X.prog X.w) p vs:=I.hok p _ hx
   have hlen:kvs.length=vs.length:=Paired.length r
   exact wpAny_truthy_dict hS m (by omega) ⟨H,I.tok _,by rw[zjj r];exact q⟩
 |_=>exact (show False from e).elim
theorem znG(ha:PE X a ta)(he:∀whole,isTrue a X.env whole=(do let v ←whole;standAt a.pos;holding [v] (truthy v))):
 PT X a (λσ H Q=>ta σ H λx H'=>∃k,zp5 X.K x H' k/\Q k H'):=by
 intro pins s σ H Q I h
 exact isTrue_plain (thn (ha pins s σ H _ I h) λv s1 ⟨x,H1,I1,r1,q1⟩=>zp0 pins s1 σ H1 x v Q I1 r1 q1) (he _)
theorem zbG{x:V}{us:List Value}(r:Vals [x] us):∃u,us=[u]/\RelV x u:=by
 cases r with
 |cons r1 r2=>cases r2;exact⟨_,rfl,r1⟩
theorem zkf{x y:V}{us:List Value}(r:Vals [x,y] us):∃u w',us=[u,w']/\RelV x u/\RelV y w':=by
 cases r with
 |cons r1 r2=>
  cases r2 with
  |cons r3 r4=>cases r4;exact⟨_,_,rfl,r1,r3⟩
theorem zk8(hc:X.calm=true):CallR X (.builtin "max") (λxs H Q=>∃i j,xs=[.int i, .int j]/\Q (.int (if j>i then j else i)) H):=by
 intro pins s σ H xs us Q I r h
 obtain⟨i,j,rfl,q⟩:=h
 obtain⟨u,w',rfl,⟨t,rfl⟩,⟨t',rfl⟩⟩:=zkf r
 refine max_two_ints (I.ok.hd hc) λh' tk k=>⟨_,H,I.kept k,?_,q⟩
 by_cases hj:j>i
 ·rw[if_pos hj,if_pos hj];exact⟨_,rfl⟩
 ·rw[if_neg hj,if_neg hj];exact⟨_,rfl⟩
theorem zgL(hc:X.calm=true):CallR X (.builtin "min") (λxs H Q=>∃i j,xs=[.int i, .int j]/\Q (.int (if j<i then j else i)) H):=by
 intro pins s σ H xs us Q I r h
 obtain⟨i,j,rfl,q⟩:=h
 obtain⟨u,w',rfl,⟨t,rfl⟩,⟨t',rfl⟩⟩:=zkf r
 refine min_two_ints (I.ok.hd hc) λh' tk k=>⟨_,H,I.kept k,?_,q⟩
 by_cases hj:j<i
 ·rw[if_pos hj,if_pos hj];exact⟨_,rfl⟩
 ·rw[if_neg hj,if_neg hj];exact⟨_,rfl⟩
theorem zbU:CallR X (.type "int") (λxs H Q=>(∃i,xs=[.int i]/\Q (.int i) H)\/∃k,xs=[.bl k]/\Q (.int (if k then 1 else 0)) H):=by
 intro pins s σ H xs us Q I r h
 rcases h with⟨i,rfl,q⟩|⟨k,rfl,q⟩
 ·obtain ⟨u,rfl,t,rfl⟩:=zbG r
  exact call_int_int ⟨.int i,H,I,⟨_,rfl⟩,q⟩
 ·obtain ⟨u,rfl,r1⟩:=zbG r
  cases r1
  exact call_int_bool ⟨.int (if k then 1 else 0),H,I.tok _,⟨_,rfl⟩,q⟩
end
structure ObjM(h:Heap)(x dx C:Addr)(mA:Str->Option Value):Prop where
 obj:h.get? x=some (PySem.W.instObj C dx)
 ns:h.Ns1 dx mA
 ne:dx≠x
theorem zkO{h:Heap}{dx:Addr}{mA:Str->Option Value}(n:h.Ns1 dx mA):∃od,h.get? dx=some od/\∀name,PySem.W.lookIn name od=some (mA name):=by
 obtain⟨o,es,ep,ho,hd,hk,_,hm⟩:=n
 refine⟨o,ho,λname=>?_⟩
 have e:=hm name
 unfold nsFind findBy at e
 rw[←Array.find?_toList] at e
 unfold PySem.W.lookIn
 rw[hd]
 dsimp only
 split
 ·rename_i y q
  rw[q] at e
  exact congrArg some e
 ·rename_i q
  rw[q] at e
  have a:es.toList.any (·.refKey)=false:=by
   rw[List.any_eq_false]
   intro y hy
   obtain⟨z,t,hkey⟩:=hk y (Array.mem_toList_iff.mp hy)
   simp[DictEntry.refKey,hkey]
  have a':¬es.toList.any (·.refKey)=true:=by rw[a];exact ξe
  rw[if_neg a']
  exact congrArg some e
theorem ObjM.look{h:Heap}{x dx C:Addr}{mA:Str->Option Value}(I:ObjM h x dx C mA):∃od,PySem.W.InstAt h x (PySem.W.instObj C dx) C (some od)/\∀name,PySem.W.lookIn name od=some (mA name):=
 let⟨od,ho,hl⟩:=zkO I.ns
 ⟨od,⟨I.obj,rfl,rfl,ho⟩,hl⟩
section
variable{prog:Program}{w:World}{A:Around}{E:Value->Shared->Prop}{s:Shared}{K:ξk}{x dx C f:Addr}{mA:Str->Option Value}{name:Str}{v:Value}
theorem zn5{expr:Bool}{Q:Value->Shared->Prop}(X:K.In s.heap)(I:ObjM s.heap x dx C mA)(hg:PySem.W.plainGet K C name=true)(hh:PySem.W.hasDictIn K C=true)
 (ha:PySem.W.findIn K (.ref C) name=some none) (hv:mA name=some v) (hv':PySem.W.handedIn v=true) (h:Q v {s with toks:=s.toks+1}):
 wpAny (model prog w) A (getAttr (.ref x) name expr) Q E s:=by
 obtain⟨od,J,hl⟩:=I.look
 exact PySem.W.get_value X J (PySem.W.plainGet_of hg).1 (PySem.W.findObj_own hh ha rfl (by rw[hl,hv])) hv' h
theorem zno{pl:Sem Bool}{Q:Value×List Value->Shared->Prop}(X:K.In s.heap)(I:ObjM s.heap x dx C mA)(hg:PySem.W.plainGet K C name=true)
 (hf:PySem.W.findIn K (.ref C) name=some (some (.ref f))) (ht:PySem.W.isFn K (.ref f)=true) (hv:mA name=none) (h:Q (.ref f,[.ref x]) s):
 wpAny (model prog w) A (getMethod (.ref x) name pl) Q E s:=by
 obtain⟨od,J,hl⟩:=I.look
 exact PySem.W.method_fn X J (PySem.W.plainGet_of hg).1 (PySem.W.plainGet_of hg).2 hf (beq_iff_eq.mp ht) (by show(PySem.W.lookIn name od).map (·.isSome)=some false;rw[hl,hv];rfl) h
theorem zoa{ns:List Str}{Q:Unit->Shared->Prop}(X:K.In s.heap)(I:ObjM s.heap x dx C mA)
 (hs:PySem.W.findIn K (.ref C) "__setattr__"=some (some (.builtin "object.__setattr__"))) (hp:PySem.W.plainOver K C=true) (ht:PySem.W.takerIn K C name=some none) (hh:PySem.W.hasDictIn K C=true)
 (hw:PySem.Within mA ns) (hsz:ns.length<=sizeLine)
 (h:∀h',ObjM h' x dx C (λy=>if y=name then some v else mA y)->Heap.SameBut dx s.heap h'->Q () {s with heap:=h',toks:=s.toks+2}):
 wpAny (model prog w) A (setAttr (.ref x) name v) Q E s:=by
 obtain⟨od,J,hl⟩:=I.look
 refine PySem.W.set_plain X J hs (PySem.W.osa_open (s:={s with toks:=s.toks+1}) (r:=none) X J hp ht λb=>?_)
 obtain⟨cd,hc,hd'⟩:=PySem.W.any_some hh
 have hx:s.heap.get? x=some ⟨.ref C,some dx, .plain, #[]⟩:=I.obj
 refine ζb (ζr (ζb (ζb (wpAny_loadPart hx (ζb (PySem.W.Looks.here (s:={s with toks:=s.toks+1}) (PySem.W.looks_clsIn X hc) ?_))))))
 rw[hd']
 refine ζr (a:=some dx) (ζb (ζr (ζb ?_)))
 refine wpAny_nsSet1 (s:={s with toks:=s.toks+1}) I.ns λh' hn2 hs2=>?_
 obtain⟨oD,esD,epD,hoD,hdD,hcD⟩:=hn2.count (PySem.Within.cons name v hw)
 refine ζb (wpAny_lookBehind hoD (by rw[hdD];exact pastItsLine_dict (ξa hcD (by rw[ζv];omega))) ?_)
 exact ζr (h _ ⟨(hs2.2 _ (Ne.symm I.ne)).trans I.obj,hn2,I.ne⟩ hs2)
theorem zmB{R:Result->Shared->Prop}{vs:List Value}{kw:List (Str×Value)}(X:K.In s.heap)(hm:PySem.W.makesIn K C=true)
 (hi:PySem.W.findIn K (.ref C) "__init__"=some (some (.ref f))) (hf:PySem.W.typeIn K (.ref f)=some (.type "function"))
 (h:codeAny (model prog w) (A.under (.builtin "type.__call__" ⟨.ref C::vs,kw⟩)) (.call (.ref f) ⟨.ref (s.heap.objs.size+1)::vs,kw⟩) (PySem.W.InitBack (s.heap.objs.size+1) R)
   {s with heap:=(s.heap.push PySem.W.emptyDict).push (PySem.W.instObj C s.heap.objs.size)}):
 codeAny (model prog w) A (.call (.ref C) ⟨vs,kw⟩) R s:=by
 obtain⟨hh,g,d,t,os⟩:=s
 exact PySem.W.make_core (PySem.W.makes_of X hm) (PySem.W.looks_findIn X hi) (λself=>PySem.W.bind_fn X self hf) (.inl rfl) h
end
noncomputable def zb0(f:Str)(v:V):List (Str×V)->List (Str×V)
 |[]=> [(f,v)]
 |(g,x)::r=>if g=f then(g,v)::r else(g,x)::zb0 f v r
theorem zeN(f g:Str)(v:V):∀fs:List (Str×V),(zb0 f v fs).lookup g=if g=f then some v else fs.lookup g
 |[]=>by
  show List.lookup g [(f,v)]=_
  by_cases h:g=f
  ·have hb:(g==f)=true:=beq_iff_eq.mpr h
   simp only[List.lookup,hb,if_pos h]
  ·have hb:(g==f)=false:=beq_eq_false_iff_ne.mpr h
   simp only[List.lookup,hb,if_neg h]
 |(k,x)::r=>by
  have ih:=zeN f g v r
  rw[show zb0 f v ((k,x)::r)=(if k=f then(k,v)::r else(k,x)::zb0 f v r)from rfl]
  by_cases hk:k=f
  ·rw[if_pos hk]
   by_cases h:g=k
   ·have hb:(g==k)=true:=beq_iff_eq.mpr h
    simp only[List.lookup,hb,if_pos (h.trans hk)]
   ·have hb:(g==k)=false:=beq_eq_false_iff_ne.mpr h
    simp only[List.lookup,hb,if_neg (λe:g=f=>h (e.trans hk.symm))]
  ·rw[if_neg hk]
   by_cases h:g=k
   ·have hb:(g==k)=true:=beq_iff_eq.mpr h
    simp only[List.lookup,hb,if_neg (λe:g=f=>hk (h.symm.trans e))]
   ·have hb:(g==k)=false:=beq_eq_false_iff_ne.mpr h
    simp only[List.lookup,hb]
    exact ih
theorem zeB(f:Str)(v:V):∀fs:List (Str×V),f∈(zb0 f v fs).map (·.1)/\∀g,g∈fs.map (·.1)->g∈(zb0 f v fs).map (·.1)
 |[]=>⟨by simp[zb0],λg h=>by simp at h⟩
 |(k,x)::r=>by
  obtain⟨i1,i2⟩:=zeB f v r
  rw[show zb0 f v ((k,x)::r)=(if k=f then(k,v)::r else(k,x)::zb0 f v r)from rfl]
  by_cases hk:k=f
  ·rw[if_pos hk]
   subst hk
   exact⟨by simp,λg h=>by simpa using h⟩
  ·rw[if_neg hk]
   refine⟨?_,λg h=>?_⟩
   ·rw[ξt]
    exact ξc _ i1
   ·rw[ξt] at h⊢
    rcases List.mem_cons.mp h with e|e
    ·exact List.mem_cons.mpr (.inl e)
    ·exact ξc _ (i2 g e)
theorem zeR(f:Str)(v:V):∀fs:List (Str×V),(zb0 f v fs).length<=fs.length+1
 |[]=>by simp[zb0]
 |(k,x)::r=>by
  have ih:=zeR f v r
  rw[show zb0 f v ((k,x)::r)=(if k=f then(k,v)::r else(k,x)::zb0 f v r)from rfl]
  by_cases hk:k=f
  ·rw[if_pos hk,ζv,ζv];omega
  ·rw[if_neg hk,ζv,ζv];omega
theorem RelO.some_of{v:V}{o:Option Value}(r:RelO (some v) o):∃u,o=some u/\RelV v u:=by
 cases o with
 |none=>exact (show False from r).elim
 |some u=>exact ⟨u,rfl,r⟩
theorem RelO.none_of{o:Option Value}(r:RelO none o):o=none:=by
 cases o with
 |none=>rfl
 |some u=>exact (show False from r).elim
theorem zlh{v:V}{u:Value}(r:RelV v u):PySem.W.handedIn u=true:=by
 cases v with
 |non=>cases (show u=Value.none from r);rfl
 |bl b=>cases (show u=Value.bool b from r);rfl
 |int i=>obtain ⟨t,e⟩:=(show∃t,u=Value.int i t from r);cases e;rfl
 |str x=>obtain ⟨t,e⟩:=(show∃t,u=Value.str x t from r);cases e;rfl
 |byt b=>obtain ⟨t,e⟩:=(show∃t,u=Value.bytes b t from r);cases e;rfl
 |flt b=>obtain ⟨t,e⟩:=(show∃t,u=Value.float b t from r);cases e;rfl
 |ref a=>cases (show u=Value.ref a from r);rfl
 |ty n=>cases (show u=Value.type n from r);rfl
section
variable{P:Program}{w:World}{H H':Hp}{h h':Heap}{a C dx:Addr}{fs fs':List (Str×V)}
theorem zfd(hok:HOk P w H h)(e:H a=some (.ins C dx fs)):∃mA,ObjM h a dx C mA/\(∀f,RelO (fs.lookup f) (mA f))/\PySem.Within mA (fs.map (·.1))/\fs.length<=1000/\H dx=some (.own a):=by
 obtain⟨d,z,ne,ob,mA,n,r,q⟩:=(show ObjOk P w H h a (.ins C dx fs)from hok a _ e)
 exact⟨mA,⟨ob,n,ne⟩,r,q,z,d⟩
end
structure Cls(K:ξk)(C:Addr):Prop where
 pg:PySem.W.plainGet K C Str.empty=true
 hd:PySem.W.hasDictIn K C=true
 po:PySem.W.plainOver K C=true
 sa:PySem.W.findIn K (.ref C) "__setattr__"=some (some (.builtin "object.__setattr__"))
theorem Cls.get{K:ξk}{C:Addr}(c:Cls K C)(f:Str):PySem.W.plainGet K C f=true:=c.pg
def NoAttr(K:ξk)(C:Addr)(f:Str):Prop:=PySem.W.findIn K (.ref C) f=some none
theorem NoAttr.taker{K:ξk}{C:Addr}{f:Str}(n:NoAttr K C f):PySem.W.takerIn K C f=some none:=by
 unfold PySem.W.takerIn
 rw[show PySem.W.findIn K (.ref C) f=some none from n]
 rfl
structure Con(K:ξk)(C:Addr)(f:Str)(v:V)(u:Value):Prop where
 at_:PySem.W.findIn K (.ref C) f=some (some u)
 rel:RelV v u
 get:PySem.W.specialIn K u "__get__"=some none
 cp:PySem.W.copiedNames.contains f=false
structure Meth(K:ξk)(C:Addr)(m:Str)(f:Addr):Prop where
 at_:PySem.W.findIn K (.ref C) m=some (some (.ref f))
 fn:PySem.W.isFn K (.ref f)=true
 kp:PySem.W.keepIn K (.ref f)=true
section
variable{X:Cx}{pins:List (Addr×Obj)}{σ:St}{H:Hp}{s:Shared}{a C dx:Addr}{fs:List (Str×V)}{f:Str}{v:V}{A:Around}{E:Value->Shared->Prop}
theorem zjv{b:Bool}{Q:Value->Shared->Prop}(I:Inv X pins σ H s)(e:H a=some (.ins C dx fs))(c:Cls X.K C)(n:NoAttr X.K C f)(l:fs.lookup f=some v)
 (h:∀u s',Inv X pins σ H s'->RelV v u->Q u s'):wpAny (model X.prog X.w) A (getAttr (.ref a) f b) Q E s:=by
 obtain⟨mA,O,r,_,_,_⟩:=zfd I.hok e
 obtain⟨u,hu,ru⟩:=RelO.some_of (v:=v) (o:=mA f) (by rw[←l];exact r f)
 exact zn5 I.kIn O (c.get f) c.hd n hu (zlh ru) (h u _ (I.tok _) ru)
theorem zfq{m:Str}{g:Addr}{pl:Sem Bool}{Q:Value×List Value->Shared->Prop}(I:Inv X pins σ H s)(e:H a=some (.ins C dx fs))(c:Cls X.K C)(k:Meth X.K C m g)(l:fs.lookup m=none)
 (h:Q (.ref g,[.ref a]) s):wpAny (model X.prog X.w) A (getMethod (.ref a) m pl) Q E s:=by
 obtain⟨mA,O,r,_,_,_⟩:=zfd I.hok e
 have hn:mA m=none:=RelO.none_of (by rw[←l];exact r m)
 exact zno I.kIn O (c.get m) k.at_ k.fn hn h
theorem zi4{y:V}{u:Value}{Q:Unit->Shared->Prop}(I:Inv X pins σ H s)(e:H a=some (.ins C dx fs))(c:Cls X.K C)(n:NoAttr X.K C f)(hl:fs.length<1000)(ry:RelV y u)
 (h:∀s',Inv X pins σ (upd H a (.ins C dx (zb0 f y fs))) s'->Q () s'):wpAny (model X.prog X.w) A (setAttr (.ref a) f u) Q E s:=by
 obtain⟨mA,O,r,wi,_,ho⟩:=zfd I.hok e
 have hz:(fs.map (·.1)).length<=sizeLine:=by rw[ζa,sizeLine_eq];omega
 refine zoa I.kIn O c.sa c.po n.taker c.hd wi hz λh' O' sb=>h _ ?_
 have hd:∃o,h'.get? dx=some o:=let⟨o,_,_,e',_⟩:=O'.ns;⟨o,e'⟩
 refine I.write (x:=a) (e:=dx) (by rw[e];exact True.intro) (.inr ho) (λb q hb z=>(sb.2 b hb).trans z) hd ?_
 refine⟨by rw[zi O.ne];exact ho,?_,O.ne,O'.obj,_,O'.ns,λg=>?_,λg hg=>?_⟩
 ·have:=zeR f y fs;omega
 ·show RelO ((zb0 f y fs).lookup g) (if g=f then some u else mA g)
  rw[zeN]
  by_cases q:g=f
  ·rw[if_pos q,if_pos q];exact ry
  ·rw[if_neg q,if_neg q];exact r g
 ·by_cases q:g=f
  ·rw[q];exact(zeB f y fs).1
  ·refine (zeB f y fs).2 g (wi g λz=>hg ?_)
   show(if g=f then some u else mA g)=none
   rw[if_neg q];exact z
theorem Inv.made(I:Inv X pins σ H s):Inv X pins σ (upd (upd H s.heap.objs.size (.own (s.heap.objs.size+1))) (s.heap.objs.size+1) (.ins C s.heap.objs.size []))
 {s with heap:=(s.heap.push PySem.W.emptyDict).push (PySem.W.instObj C s.heap.objs.size)}:=by
 have e1:(s.heap.push PySem.W.emptyDict).get? s.heap.objs.size=some PySem.W.emptyDict:=ζj s.heap rfl
 have e2:((s.heap.push PySem.W.emptyDict).push (PySem.W.instObj C s.heap.objs.size)).get? (s.heap.objs.size+1)=some (PySem.W.instObj C s.heap.objs.size):=by
  have:=ζj (s.heap.push PySem.W.emptyDict) (o:=PySem.W.instObj C s.heap.objs.size) rfl
  rwa[Heap.size_push] at this
 have e3:(s.heap.push PySem.W.emptyDict).Ns s.heap.objs.size (λ_=>none):=⟨PySem.W.emptyDict, #[],_,e1,rfl,(λe he=>absurd he (by simp)),λ_=>rfl⟩
 have I1:=I.laid (a:=s.heap.objs.size) (o:= .own (s.heap.objs.size+1)) (h':=s.heap.push PySem.W.emptyDict) (t':=s.toks) (λb u q=>ζc _ q) (ζt _) ⟨_,e1⟩
 refine I1.laid (a:=s.heap.objs.size+1) (o:= .ins C s.heap.objs.size []) (t':=s.toks) (λb u q=>ζc _ q) (Nat.le_of_eq (Heap.size_push _ _)) ?_
 have ne:s.heap.objs.size≠s.heap.objs.size+1:=ξj (Nat.lt_succ_self _)
 refine⟨by rw[zi ne,zb],ξi _,ne,e2,λ_=>none,(Heap.Ns1.of_empty e3).at λo q=>ζc _ q,λ_=>True.intro,λy hy=>absurd rfl hy⟩
theorem zoe{prog:Program}{w:World}{env:Env}{e:Expr}{f:Str}{pos:Pos}{s:Shared}{Q:Value->Shared->Prop}(hb:attributeBase e f env (eval e env)=eval e env)
 (h:wpAny (model prog w) A (eval e env) (λo s₁=>wpAny (model prog w) A (getAttr o f true) Q E s₁) E s):wpAny (model prog w) A (eval (.Attribute e f pos) env) Q E s:=
 Attribute_any_ h (by rw[arm_eval_Attribute,hb])
end
noncomputable def zrM(K:ξk)(ta:TE)(f:Str):TE:=λσ H Q=>ta σ H λx H1=>∃a C dx fs v,x= .ref a/\H1 a=some (.ins C dx fs)/\Cls K C/\NoAttr K C f/\fs.lookup f=some v/\Q v H1
noncomputable def zsa(K:ξk)(ta tv:TE)(f:Str):TS:=λD σ H=>tv σ H λy H1=>ta σ H1 λx H2=>∃a C dx fs,x= .ref a/\H2 a=some (.ins C dx fs)/\Cls K C/\NoAttr K C f/\fs.length<1000/\
 D.nx σ (upd H2 a (.ins C dx (zb0 f y fs)))
section
variable{X:Cx}{o e value:Expr}{f:Str}{pos pos' tpos:Pos}{ta tv:TE}
theorem zqG(he:PE X e ta)(hb:attributeBase e f X.env (eval e X.env)=eval e X.env):PE X (.Attribute e f pos) (zrM X.K ta f):=by
 intro pins s σ H Q I h
 refine zoe hb (thn (he pins s σ H _ I h) λu s1 ⟨x,H1,I1,rx,a,C,dx,fs,v,ex,ea,c,n,l,q⟩=>?_)
 subst ex
 obtain rfl:u=Value.ref a:=rx
 exact zjv I1 ea c n l λu' s2 I2 ru=>⟨v,H1,I2,ru,q⟩
theorem zqL(ha:PE X o ta)(hv:PE X value tv)(hs:swapsWith value (some (.Attribute o f pos')) pos.line X.env=pure false):PS X (.Assign [.Attribute o f pos'] value pos) (zsa X.K ta tv f):=by
 intro pins s σ H D I h
 refine plainObj_wpAny_Assign_Attribute (thn (hv pins s σ H _ I h) λu s1 ⟨y,H1,I1,ry,q⟩=>thn (ha pins s1 σ H1 _ I1 q) λov s2 ⟨x,H2,I2,rx,a,C,dx,fs,ex,ea,c,n,l,q2⟩=>?_) hs
 subst ex
 obtain rfl:ov=Value.ref a:=rx
 exact zi4 I2 ea c n l ry λs3 I3=>⟨σ,_,I3,q2⟩
theorem methcall_of{pl:Sem Bool}{m:Str}{apos:Pos}{args:List Expr}{pins:List (Addr×Obj)}{s:Shared}{σ:St}{H:Hp}{Q:Value->Shared->Prop}{te:TE}(he:PE X e te)(I:Inv X pins σ H s)
 (h:te σ H λx H1=>∃a C dx fs g,x= .ref a/\H1 a=some (.ins C dx fs)/\Cls X.K C/\Meth X.K C m g/\fs.lookup m=none/\
   ∀s1,Inv X pins σ H1 s1->wpAny (model X.prog X.w) X.A (callWith pos (.ref g) [.ref a] (backTo pos (starEach args X.env)) (backToKw pos (keywordEach [] X.env))) Q X.xe s1)
 (ht:eval (.Call (.Attribute e m apos) args [] pos) X.env=(do
   let ov ←eval e X.env
   standAt apos.atName
   let(f,first) ←holding [ov] (getMethod ov m pl)
   callWith pos f first (backTo pos (starEach args X.env)) (backToKw pos (keywordEach [] X.env)))):
 wpAny (model X.prog X.w) X.A (eval (.Call (.Attribute e m apos) args [] pos) X.env) Q X.xe s:=by
 refine PySem.W.methodCall_KW (pl:=pl) (thn (he pins s σ H _ I h) λu s1 ⟨x,H1,I1,rx,a,C,dx,fs,g,ex,ea,c,k,l,q⟩=>?_) ht
 subst ex
 obtain rfl:u=Value.ref a:=rx
 exact zfq I1 ea c k l (q s1 I1)
end
section
variable{X:Cx}{pins:List (Addr×Obj)}{σ:St}{H:Hp}{s:Shared}{A:Around}{E:Value->Shared->Prop}{Q:Value->Shared->Prop}{c:Value}{b:Bool}
inductive TyOf(K:ξk)(H:Hp):V->Value->Prop where
 |non:TyOf K H .non (.type "NoneType")
 |bl (x:Bool):TyOf K H (.bl x) (.type "bool")
 |int (i:Int):TyOf K H (.int i) (.type "int")
 |str (x:Str):TyOf K H (.str x) (.type "str")
 |flt (x:UInt64):TyOf K H (.flt x) (.type "float")
 |lst {a:Addr} {xs:List V} (e:H a=some (.lst xs)):TyOf K H (.ref a) (.type "list")
 |frz {a:Addr} {o:Obj} {xs:List V} (e:H a=some (.frz o (.lst xs))):TyOf K H (.ref a) (.type "list")
 |tup {a:Addr} {xs:List V} (e:H a=some (.tup xs)):TyOf K H (.ref a) (.type "tuple")
 |dK {a:Addr} {kvs:List (Key×V)} (e:H a=some (.dK kvs)):TyOf K H (.ref a) (.type "dict")
 |dT {a:Addr} {kvs:List (List Key×V)} (e:H a=some (.dT kvs)):TyOf K H (.ref a) (.type "dict")
 |ins {a C dx:Addr} {fs:List (Str×V)} (e:H a=some (.ins C dx fs)) (cl:Cls K C) (ha:PySem.W.findIn K (.ref C) "__class__"=some (some (.builtin "object.__class__")))
   (hn:PySem.W.specialIn K (.builtin "object.__class__") "__get__"=some (some (.builtin "getset_descriptor.__get__"))) (htk:PySem.W.takesIn K (.builtin "object.__class__")=some true)
   (hm:PySem.W.mroIn K C (.type "object")=some true):TyOf K H (.ref a) (.ref C)
theorem zlc{x:V}{u t:Value}(I:Inv X pins σ H s)(rx:RelV x u)(ty:TyOf X.K H x t)(e:PySem.W.kitOne X.K t c=some b)(h:∀tk,Q (.bool b) {s with toks:=tk}):
 wpAny (model X.prog X.w) A (call (.builtin "isinstance") [u,c]) Q E s:=by
 cases ty with
 |non=>cases (show u=Value.none from rx);exact PySem.W.kia_one PySem.W.kitx_none I.kIn True.intro e (λz=>nomatch z) h
 |bl y=>cases (show u=Value.bool y from rx);exact PySem.W.kia_one PySem.W.kitx_bool I.kIn True.intro e (λz=>nomatch z) h
 |int i=>obtain ⟨t,q⟩:=(show∃t,u=Value.int i t from rx);cases q;exact PySem.W.kia_one PySem.W.kitx_int I.kIn True.intro e (λz=>nomatch z) h
 |str y=>obtain ⟨t,q⟩:=(show∃t,u=Value.str y t from rx);cases q;exact PySem.W.kia_one PySem.W.kitx_str I.kIn True.intro e (λz=>nomatch z) h
 |flt y=>obtain ⟨t,q⟩:=(show∃t,u=Value.float y t from rx);cases q;exact PySem.W.kia_one PySem.W.kitx_float I.kIn True.intro e (λz=>nomatch z) h
 | @lst a xs ea=>
   cases(show u=Value.ref a from rx)
   obtain⟨_,_,n,_,h1⟩:=(show ObjOk X.prog X.w H s.heap a (.lst xs)from I.hok a _ ea)
   exact PySem.W.kia_one PySem.W.kitx_list I.kIn ⟨_,h1,rfl⟩ e (λz=>nomatch z) h
 | @frz a ob xs ea=>
   cases(show u=Value.ref a from rx)
   obtain⟨_,_,_,n,_,h1⟩:=(show ObjOk X.prog X.w H s.heap a (.frz ob (.lst xs))from I.hok a _ ea)
   exact PySem.W.kia_one PySem.W.kitx_list I.kIn ⟨_,h1,rfl⟩ e (λz=>nomatch z) h
 | @tup a xs ea=>
   cases(show u=Value.ref a from rx)
   obtain⟨_,_,_,p,_⟩:=(show ObjOk X.prog X.w H s.heap a (.tup xs)from I.hok a _ ea)
   obtain⟨o,h1,h2,_⟩:=p
   exact PySem.W.kia_one PySem.W.kitx_tuple I.kIn ⟨o,h1,h2⟩ e (λz=>nomatch z) h
 | @dK a kvs ea=>
   cases(show u=Value.ref a from rx)
   obtain⟨_,_,vs,_,p⟩:=(show ObjOk X.prog X.w H s.heap a (.dK kvs)from I.hok a _ ea)
   obtain⟨o,es,ep,h1,h2,_⟩:=p
   exact PySem.W.kia_one PySem.W.kitx_dict I.kIn ⟨o,h1,h2.1⟩ e (λz=>nomatch z) h
 | @dT a kvs ea=>
   cases(show u=Value.ref a from rx)
   obtain⟨_,_,xs,_,o,es,ep,h1,h2,_⟩:=(show ObjOk X.prog X.w H s.heap a (.dT kvs)from I.hok a _ ea)
   exact PySem.W.kia_one PySem.W.kitx_dict I.kIn ⟨o,h1,h2.1⟩ e (λz=>nomatch z) h
 | @ins a C dx fs ea cl ha hn htk hm=>
   cases(show u=Value.ref a from rx)
   obtain⟨mA,O,_⟩:=zfd I.hok ea
   obtain⟨od,J,_⟩:=O.look
   exact PySem.W.kia_one (PySem.W.kitx_own (cl.get _) cl.hd ha hn htk hm) I.kIn J e (λz=>nomatch z) h
end
structure Room(k:Nat)(A:Around):Prop where
 hd:A.handled=none
 dp:A.depth+3*k+5<recursionLimit
 un:A.units+16*k+200<cLine
 gd:A.guards=some []
theorem Room.mono{j k:Nat}{A:Around}(r:Room k A)(h:j<=k):Room j A:=⟨r.hd,by have:=r.dp;omega,by have:=r.un;omega,r.gd⟩
theorem Room.deeper{k:Nat}{A:Around}(r:Room (k+1) A)(env:Env):Room k (A.deeper env):=
 ⟨r.hd,by have:=r.dp;show A.depth+1+3*k+5<_;omega,by have:=r.un;show A.units+3+16*k+200<_;omega,r.gd⟩
theorem zjo{A:Around}{C:Addr}{us:List Value}{kw:List (Str×Value)}:(A.under (.builtin "type.__call__" ⟨.ref C::us,kw⟩)).depth=A.depth+1:=by
 first|rfl|simp[Around.under,Code.weight,Code.isCreation,Code.isGuard,Code.isCaller,Code.frames,Code.isFrame,guardIds]
theorem ziD{A:Around}{C:Addr}{us:List Value}{kw:List (Str×Value)}:(A.under (.builtin "type.__call__" ⟨.ref C::us,kw⟩)).units=A.units+1:=by
 first|rfl|simp[Around.under,Code.cUnits,Code.frames,Code.isFrame]
theorem Room.make{k:Nat}{A:Around}(r:Room (k+1) A)(C:Addr)(us:List Value)(kw:List (Str×Value)):Room k (A.under (.builtin "type.__call__" ⟨.ref C::us,kw⟩)):=
 ⟨r.hd,by have:=r.dp;rw[zjo];omega,by have:=r.un;rw[ziD];omega,(show(_:Option _)=some [] from r.gd)⟩
theorem Room.depth{k:Nat}{A:Around}(r:Room k A):A.depth<recursionLimit:=by have:=r.dp;omega
theorem Room.units{k:Nat}{A:Around}(r:Room k A):A.units+64<cLine:=by have:=r.un;omega
noncomputable def zqB:TA:=λ_ H Q=>Q [] H
noncomputable def zkD(ta:TE)(tr:TA):TA:=λσ H Q=>ta σ H λx H1=>tr σ H1 λxs H2=>Q (x::xs) H2
section
variable{X:Cx}{e:Expr}{es:List Expr}{te:TE}{t:TA}{pos:Pos}
theorem zmV:PA X [] zqB:=λ_ _ _ _ H Q I h=>Calls.spliced_nil ⟨[],H,I, .nil,h⟩
theorem zjL(ha:PE X e te)(hr:PA X es t)(hs:starEach (e::es) X.env=(false,eval e X.env)::starEach es X.env:=by rfl):PA X (e::es) (zkD te t):=by
 intro pos pins s σ H Q I h
 rw[hs]
 show wpAny _ _ (spliced ((false,eval e X.env)::backTo pos (starEach es X.env))) _ _ s
 refine Calls.spliced_cons (thn (ha pins s σ H _ I h) λu s1 ⟨x,H1,I1,r1,q1⟩=>?_)
 exact thn (hr pos pins s1 σ H1 _ I1 q1) λus s2 ⟨xs,H2,I2,r2,q2⟩=>⟨x::xs,H2,I2, .cons r1 r2,q2⟩
noncomputable def zrQ(t:TA):TE:=λσ H Q=>t σ H λxs H1=>xs.length<=sizeLine/\∀p,H1 p=none->Q (.ref p) (upd H1 p (.tup xs))
noncomputable def zrl(t:TA):TE:=λσ H Q=>t σ H λxs H1=>xs.length<=sizeLine/\∀p,H1 p=none->Q (.ref p) (upd H1 p (.lst xs))
theorem zq0{x1}(h:PA X es t):PE X (.Tuple es x1 pos) (zrQ t):=by
 intro pins s σ H Q I hq
 refine wpAny_Tuple_spliced (thn (h pos pins s σ H _ I hq) λus s1 ⟨xs,H1,I1,r,z,q⟩=>⟨by rw[←r.length];exact z,?_⟩)
 have hf:H1 s1.heap.objs.size=none:=I1.hok.fresh (ζt _)
 refine⟨.ref s1.heap.objs.size,upd H1 s1.heap.objs.size (.tup xs),I1.laid (t':=s1.toks) (λb u e=>ζc _ e) (ζt _) ?_,rfl,q _ hf⟩
 exact⟨z,us,r,⟨_,ζj _ rfl,rfl,_,rfl⟩,NoDict.new rfl (ζj _ rfl)⟩
theorem zl2(h:PA X es t):PE X (.List es pos) (zrl t):=by
 intro pins s σ H Q I hq
 refine wpAny_List_spliced (thn (h pos pins s σ H _ I hq) λus s1 ⟨xs,H1,I1,r,z,q⟩=>⟨by rw[←r.length];exact z,?_⟩)
 have hf:H1 s1.heap.objs.size=none:=I1.hok.fresh (ζt _)
 refine⟨.ref s1.heap.objs.size,upd H1 s1.heap.objs.size (.lst xs),I1.laid (t':=s1.toks) (λb u e=>ζc _ e) (ζt _) ?_,rfl,q _ hf⟩
 exact⟨z,us,0,r,ζj _ rfl⟩
end
noncomputable abbrev Sp:=List V->Hp->VK->XK->Prop
noncomputable abbrev CXT:=List Env->Hp->Shared->XK->Value->Shared->Prop
structure Env0(P:Program)(w:World)(K:ξk)(mg:Str->Option Value)(base:Heap)(A:Around)(outer:List Env)(s:Shared)(H:Hp):Prop where
 frames:A.frames=some outer
 mod:Mod K mg base
 bs:∀b o,base.get? b=some o->s.heap.get? b=some o/\H b=none
 bsz:base.objs.size<=s.heap.objs.size
 funs:s.heap.FunFrames base outer
 frf:∀b∈frs outer,H b=none
 hok:HOk P w H s.heap
 bare:AllBare s.gens
def CE(outer:List Env)(P:Program)(w:World)(H:Hp)(s:Shared)(Q:VK)(u:Value)(s':Shared):Prop:=
 ∃v H',s'.os=s.os/\AllBare s'.gens/\Un (frs outer) [] H H' s.heap s'.heap/\HOk P w H' s'.heap/\RelV v u/\Q v H'
def CR(CX:CXT)(outer:List Env)(P:Program)(w:World)(H:Hp)(s:Shared)(Q:VK)(E:XK)(r:Result)(s':Shared):Prop:=
 match r with
 | .ok (.ret u)=>CE outer P w H s Q u s'
 | .ok _=>False
 | .error e=>CX outer H s E e s'
structure FnOk(P:Program)(w:World)(K:ξk)(mg:Str->Option Value)(base:Heap)(CX:CXT)(k:Nat)(f:Addr)(fd:FuncData)(ps:List Str)(sp:Sp):Prop where
 len:∀vs H Q E,sp vs H Q E->vs.length=ps.length
 run:∀(A:Around) (outer:List Env) (s:Shared) (H:Hp) (args:Args) (us:List Value) (vs:List V) (Q:VK) (E:XK),Room k A->Env0 P w K mg base A outer s H->BindsTo s fd args (ps.zip us)->Vals vs us->sp vs H Q E->
  codeAny (model P w) A (.call (.ref f) args) (CR CX outer P w H s Q E) s
theorem FnOk.imp{P:Program}{w:World}{K:ξk}{mg:Str->Option Value}{base:Heap}{CX:CXT}{k:Nat}{f:Addr}{fd:FuncData}{ps:List Str}{sp sp':Sp}(F:FnOk P w K mg base CX k f fd ps sp)
 (h:∀vs H Q E,sp' vs H Q E->sp vs H Q E):FnOk P w K mg base CX k f fd ps sp':=
 ⟨λvs H Q E q=>F.len vs H Q E (h _ _ _ _ q),λA outer s H args us vs Q E hr he hb hv hs=>F.run A outer s H args us vs Q E hr he hb hv (h _ _ _ _ hs)⟩
theorem Env0.make{P:Program}{w:World}{K:ξk}{mg:Str->Option Value}{base:Heap}{A:Around}{outer:List Env}{s:Shared}{H:Hp}(e:Env0 P w K mg base A outer s H)(C:Addr)(us:List Value)(kw:List (Str×Value)):
 Env0 P w K mg base (A.under (.builtin "type.__call__" ⟨.ref C::us,kw⟩)) outer s H:=⟨by first|exact e.frames|(simpa[Around.under,Code.envs,Code.isFrame,pushEnvs] using e.frames),e.mod,e.bs,e.bsz,e.funs,e.frf,e.hok,e.bare⟩
section
variable{X:Cx}{pins:List (Addr×Obj)}{σ:St}{H:Hp}{s s':Shared}
theorem Inv.env0(I:Inv X pins σ H s):Env0 X.prog X.w X.K X.mg X.base X.A X.stack s H:=
 ⟨I.ok.frames,I.ok.mod,I.bs,ξa I.ok.bsz I.sz,I.stack,I.stkFree,I.hok,I.bare⟩
theorem Inv.after{Q:VK}{u:Value}(I:Inv X pins σ H s)(h:CE X.stack X.prog X.w H s Q u s'):EP X pins σ Q u s':=by
 obtain⟨v,H',os,bare,un,hok,r,q⟩:=h
 obtain⟨hh,g,d,t,os'⟩:=s'
 obtain rfl:os'=s.os:=os
 exact⟨v,H',I.call (h':=hh) (g':=g) (d':=d) (t':=t) (ch:=[]) un hok bare (λb z=>absurd z (by simp)),r,q⟩
end
noncomputable def zpD(sp:Sp)(dvs:List V)(E:XK)(t:TA):TE:=λσ H Q=>t σ H λvs H1=>sp (vs ++dvs) H1 Q E
noncomputable def zpF(C:Addr)(m:Str)(sp:Sp)(dvs:List V)(E:XK)(ta:TE)(t:TA):TE:=λσ H Q=>ta σ H λx H1=>∃a dx fs,x= .ref a/\H1 a=some (.ins C dx fs)/\fs.lookup m=none/\
 t σ H1 λvs H2=>sp (x::(vs ++dvs)) H2 Q E
noncomputable def zpX(C:Addr)(sp:Sp)(dvs:List V)(E:XK)(t:TA):TE:=λσ H Q=>t σ H λvs H1=>∀x dx,H1 x=none->H1 dx=none->dx≠x->
 sp (.ref x::(vs ++dvs)) (upd (upd H1 dx (.own x)) x (.ins C dx [])) (λv H2=>v= .non/\Q (.ref x) H2) E
def Binds(K:ξk)(fd:FuncData)(ps:List Str)(ds:List Value):Prop:=
 ∀(s:Shared) (us:List Value),K.In s.heap->(us ++ds).length=ps.length->BindsTo s fd ⟨us,[]⟩ (ps.zip (us ++ds))
theorem Binds.all{K:ξk}{fd:FuncData}{ps:List Str}(h:∀us:List Value,us.length=ps.length->bindArgs fd ⟨us,[]⟩=pure (ps.zip us)):Binds K fd ps []:=λs us _ hl=>by
 rw[ξw] at hl⊢
 exact .of_eq (h us hl)
def zcK(CX:CXT)(X:Cx)(E:XK):Prop:=∀(pins:List (Addr×Obj)) (σ:St) (H:Hp) (s:Shared) (e:Value) (s':Shared),Inv X pins σ H s->CX X.stack H s E e s'->X.xe e s'
section
variable{X:Cx}{CX:CXT}{k:Nat}{f C:Addr}{fd:FuncData}{ps:List Str}{sp:Sp}{dvs:List V}{ds:List Value}{E:XK}{x m:Str}{p pos apos:Pos}{e o:Expr}{es:List Expr}{ta:TE}{t:TA}
theorem zmh{pins:List (Addr×Obj)}{σ:St}{H:Hp}{s:Shared}{Q:VK}{us:List Value}{vs:List V}(F:FnOk X.prog X.w X.K X.mg X.base CX k f fd ps sp)(hr:Room k X.A)(hb:Binds X.K fd ps ds)(hd:Vals dvs ds)(hx:zcK CX X E)
 (I:Inv X pins σ H s) (r:Vals vs us) (h:sp (vs ++dvs) H Q E):wpAny (model X.prog X.w) X.A (call (.ref f) us) (EP X pins σ Q) X.xe s:=by
 have r2:Vals (vs ++dvs) (us ++ds):=r.append hd
 have hl:(us ++ds).length=ps.length:=by rw[←r2.length];exact F.len _ _ _ _ h
 refine wpAny_call (codeAny_mono (F.run X.A X.stack s H ⟨us,[]⟩ (us ++ds) (vs ++dvs) Q E hr I.env0 (hb s us I.kIn hl) r2 h) λr s' hq=>?_)
 cases r with
 |error e=>exact hx pins σ H s e s' I hq
 |ok fl=>
  cases fl with
  |ret u=>exact I.after hq
  |next=>exact False.elim hq
  |brk=>exact False.elim hq
  |cont=>exact False.elim hq
theorem zo1(F:FnOk X.prog X.w X.K X.mg X.base CX k f fd ps sp)(hr:Room k X.A)(hg:Gl X x)(hm:X.mg x=some (.ref f))(hk:PySem.W.keepIn X.K (.ref f)=true)(hb:Binds X.K fd ps ds)(hd:Vals dvs ds)(hx:zcK CX X E)
 (ha:PA X (e::es) t) (hdb:(x==("__debug__":Str))=false:=by decide) (he:starEach (e::es) X.env=(false,eval e X.env)::starEach es X.env:=by rfl) (hpl:(backTo pos (starEach es X.env)).any (·.1)=false:=by rfl):
 PE X (.Call (.Name x p) (e::es) [] pos) (zpD sp dvs E t):=by
 intro pins s σ H Q I h
 refine wpAny_Call_Name_kw (zj3 I hg hm ?_ hdb)
 refine PySem.W.callWith_K (h₀:=X.base) I.ok.mod.kin hk (thn (ha pos pins s σ H _ I h) λus s1 ⟨vs,H1,I1,r,q⟩=>⟨I1.kIn,?_⟩) he hpl
 exact zmh F hr hb hd hx I1 r q
theorem znM{pl:Sem Bool}(he:PE X o ta)(c:Cls X.K C)(hm:Meth X.K C m f)(F:FnOk X.prog X.w X.K X.mg X.base CX k f fd ps sp)(hr:Room k X.A)(hb:Binds X.K fd ps ds)(hd:Vals dvs ds)(hx:zcK CX X E)(ha:PA X (e::es) t)
 (hst:starEach (e::es) X.env=(false,eval e X.env)::starEach es X.env:=by rfl) (hpl:(backTo pos (starEach es X.env)).any (·.1)=false:=by rfl)
 (ht:eval (.Call (.Attribute o m apos) (e::es) [] pos) X.env=(do
   let ov ←eval o X.env
   standAt apos.atName
   let(f,first) ←holding [ov] (getMethod ov m pl)
   callWith pos f first (backTo pos (starEach (e::es) X.env)) (backToKw pos (keywordEach [] X.env))):=by rfl):
 PE X (.Call (.Attribute o m apos) (e::es) [] pos) (zpF C m sp dvs E ta t):=by
 intro pins s σ H Q I h
 refine PySem.W.methodCall_KW (pl:=pl) (thn (he pins s σ H _ I h) λu s1 ⟨x,H1,I1,rx,a,dx,fs,ex,ea,l,q⟩=>?_) ht
 subst ex
 obtain rfl:u=Value.ref a:=rx
 refine zfq I1 ea c hm l ?_
 refine PySem.W.callWith_K (first:=[.ref a]) (h₀:=X.base) I.ok.mod.kin hm.kp (thn (ha pos pins s1 σ H1 _ I1 q) λus s2 ⟨vs,H2,I2,r,q2⟩=>⟨I2.kIn,?_⟩) hst hpl
 exact zmh (us:= .ref a::us) (vs:= .ref a::vs) F hr hb hd hx I2 (.cons rfl r) q2
structure Mk(K:ξk)(C f:Addr):Prop where
 makes:PySem.W.makesIn K C=true
 init:PySem.W.findIn K (.ref C) "__init__"=some (some (.ref f))
 fn:PySem.W.isFn K (.ref f)=true
 kp:PySem.W.keepIn K (.ref C)=true
theorem znH{pins:List (Addr×Obj)}{σ:St}{H:Hp}{s:Shared}{Q:VK}{us:List Value}{vs:List V}(M:Mk X.K C f)(F:FnOk X.prog X.w X.K X.mg X.base CX k f fd ps sp)(hr:Room (k+1) X.A)(hb:Binds X.K fd ps ds)(hd:Vals dvs ds)
 (hx:zcK CX X E) (I:Inv X pins σ H s) (r:Vals vs us)
 (h:∀x dx,H x=none->H dx=none->dx≠x->sp (.ref x::(vs ++dvs)) (upd (upd H dx (.own x)) x (.ins C dx [])) (λv H2=>v= .non/\Q (.ref x) H2) E):
 wpAny (model X.prog X.w) X.A (call (.ref C) us) (EP X pins σ Q) X.xe s:=by
 have hq:=h (s.heap.objs.size+1) s.heap.objs.size (I.hok.fresh (Nat.le_succ _)) (I.hok.fresh (ζt _)) (ξj (Nat.lt_succ_self _))
 have I2:=Inv.made (C:=C) I
 have r2:Vals (V.ref (s.heap.objs.size+1)::(vs ++dvs)) (Value.ref (s.heap.objs.size+1)::(us ++ds)):= .cons rfl (r.append hd)
 have hl:(Value.ref (s.heap.objs.size+1)::us ++ds).length=ps.length:=by
  have e:=r2.length
  rw[F.len _ _ _ _ hq] at e
  exact e.symm
 refine wpAny_call (zmB (f:=f) I.kIn M.makes M.init (beq_iff_eq.mp M.fn) (codeAny_mono (F.run _ X.stack _ _ ⟨Value.ref (s.heap.objs.size+1)::us,[]⟩ (Value.ref (s.heap.objs.size+1)::(us ++ds)) _ _ E (hr.make C us [])
  (I2.env0.make C us []) (hb _ (Value.ref (s.heap.objs.size+1)::us) I2.kIn hl) r2 hq) λr s' hq'=>?_))
 cases r with
 |error e=>exact hx pins σ _ _ e s' I2 hq'
 |ok fl=>
  cases fl with
  |ret u=>
   obtain⟨v,H',I3,rv,ev,q3⟩:=I2.after hq'
   subst ev
   exact⟨rv,⟨V.ref (s.heap.objs.size+1),H',I3,rfl,q3⟩⟩
  |next=>exact False.elim hq'
  |brk=>exact False.elim hq'
  |cont=>exact False.elim hq'
theorem zos(M:Mk X.K C f)(F:FnOk X.prog X.w X.K X.mg X.base CX k f fd ps sp)(hr:Room (k+1) X.A)(hg:Gl X x)(hm:X.mg x=some (.ref C))(hb:Binds X.K fd ps ds)(hd:Vals dvs ds)(hx:zcK CX X E)
 (ha:PA X (e::es) t) (hdb:(x==("__debug__":Str))=false:=by decide) (he:starEach (e::es) X.env=(false,eval e X.env)::starEach es X.env:=by rfl) (hpl:(backTo pos (starEach es X.env)).any (·.1)=false:=by rfl):
 PE X (.Call (.Name x p) (e::es) [] pos) (zpX C sp dvs E t):=by
 intro pins s σ H Q I h
 refine wpAny_Call_Name_kw (zj3 I hg hm ?_ hdb)
 refine PySem.W.callWith_K (h₀:=X.base) I.ok.mod.kin M.kp (thn (ha pos pins s σ H _ I h) λus s1 ⟨vs,H1,I1,r,q⟩=>⟨I1.kIn,?_⟩) he hpl
 exact znH M F hr hb hd hx I1 r q
end
section
variable{X:Cx}{CX:CXT}{k:Nat}{f C:Addr}{fd:FuncData}{ps ks:List Str}{sp:Sp}{E:XK}{x m:Str}{p pos apos kpos:Pos}{e o:Expr}{es:List Expr}{kws:List Keyword}{te ta:TE}{t tk:TA}{nm:Option Str}
structure KBinds(K:ξk)(fd:FuncData)(ps ks:List Str)(g:List Value->List Value->List Value)(gV:List V->List V->List V):Prop where
 to:∀(s:Shared) (us ws:List Value),K.In s.heap->(g us ws).length=ps.length->BindsTo s fd ⟨us,ks.zip ws⟩ (ps.zip (g us ws))
 rel:∀{vs:List V} {us:List Value} {zs:List V} {ws:List Value},Vals vs us->Vals zs ws->Vals (gV vs zs) (g us ws)
variable{g:List Value->List Value->List Value}{gV:List V->List V->List V}
end
structure FnScope(N P:List Str)(sc:Scope):Prop where
 kind:sc.kind= .function
 co:sc.isCoroutine=false
 gen:sc.isGenerator=false
 nd:N.Nodup
 pre:N.take P.length=P
 par:∀x∈P,sc.names.lookup x=some .local\/sc.names.lookup x=some .cell
 nofree:∀y∈sc.names,y.2≠ .free
theorem zgx{kindOf:Str->Option NameKind}{x:Str}:∀{binds:List (Str×Value)} {m:Str->Option Value},(∀v,(x,v)∉binds)->bindL kindOf binds m x=m x
 |[],_,_=>rfl
 |(n,v)::r,m,h=>by
  unfold bindL
  rw[zgx λw hw=>h w (ξc _ hw)]
  split
  ·have:x≠n:=by rintro rfl;exact h v ζo
   simp[this]
  ·rfl
theorem zgz{kindOf:Str->Option NameKind}{x:Str}:∀{binds:List (Str×Value)} {m:Str->Option Value},(∀v,(x,v)∉binds)->bindC kindOf binds m x=m x
 |[],_,_=>rfl
 |(n,v)::r,m,h=>by
  unfold bindC
  rw[zgz λw hw=>h w (ξc _ hw)]
  split
  ·rfl
  ·have:x≠n:=by rintro rfl;exact h v ζo
   simp[this]
theorem zgu{kindOf:Str->Option NameKind}{x:Str}{v:Value}:∀{P:List Str} {vs:List Value} {i:Nat} {m:Str->Option Value},P.Nodup->P[i]?=some x->vs[i]?=some v->kindOf x=some .local->
 bindL kindOf (P.zip vs) m x=some v
 |[],_,_,_,_,h,_,_=>by simp at h
 |_::_,[],_,_,_,_,h,_=>by simp at h
 |p::P,w::vs,0,m,nd,h1,h2,hk=>by
  simp at h1 h2;subst h1;subst h2
  show bindL kindOf ((p,w)::P.zip vs) m p=_
  unfold bindL
  rw[zgx λv hv=>(List.nodup_cons.mp nd).1 (List.of_mem_zip hv).1,if_pos hk]
  simp
 |p::P,w::vs,i+1,m,nd,h1,h2,hk=>by
  show bindL kindOf ((p,w)::P.zip vs) m x=_
  unfold bindL
  exact zgu (i:=i) (List.nodup_cons.mp nd).2 (by simpa using h1) (by simpa using h2) hk
theorem zgn{kindOf:Str->Option NameKind}{x:Str}{v:Value}:∀{P:List Str} {vs:List Value} {i:Nat} {m:Str->Option Value},P.Nodup->P[i]?=some x->vs[i]?=some v->kindOf x≠some .local->
 bindC kindOf (P.zip vs) m x=some v
 |[],_,_,_,_,h,_,_=>by simp at h
 |_::_,[],_,_,_,_,h,_=>by simp at h
 |p::P,w::vs,0,m,nd,h1,h2,hk=>by
  simp at h1 h2;subst h1;subst h2
  show bindC kindOf ((p,w)::P.zip vs) m p=_
  unfold bindC
  rw[zgz λv hv=>(List.nodup_cons.mp nd).1 (List.of_mem_zip hv).1,if_neg hk]
  simp
 |p::P,w::vs,i+1,m,nd,h1,h2,hk=>by
  show bindC kindOf ((p,w)::P.zip vs) m x=_
  unfold bindC
  exact zgn (i:=i) (List.nodup_cons.mp nd).2 (by simpa using h1) (by simpa using h2) hk
noncomputable def zdw(N:List Str)(vs:List V):St:=vs.map some ++List.replicate (N.length -vs.length) none
noncomputable def zhO(CX:CXT)(P:Program)(w:World)(K:ξk)(mg:Str->Option Value)(base:Heap)(N:List Str)(qual:Str)(scope:Scope)(f:Addr)(cd:Value)(A:Around)(outer:List Env)(s:Shared)(H:Hp)(E:XK):Cx where
 prog:=P
 w:=w
 K:=K
 mg:=mg
 base:=base
 A:=A.deeper (envOfC qual scope s.heap.objs.size f cd)
 N:=N
 s₀:=s
 H₀:=H
 env:=envOfC qual scope s.heap.objs.size f cd
 outer:=outer
 stack:=envOfC qual scope s.heap.objs.size f cd::outer
 ex:=[]
 calm:=true
 fn:=λ_=>true
 pn:=[]
 xe:=λe s'=>wpAny (model P w) (A.deeper (envOfC qual scope s.heap.objs.size f cd)) (leaving (envOfC qual scope s.heap.objs.size f cd) e) (λ_ s''=>CX outer H s E e s'') (λe' s''=>CX outer H s E e' s'') s'
theorem ziy{sc:Scope}{n:Nat}{x:Str}(h:sc.names.lookup x=some .cell):∃c,(cellsFrom n sc.names []).lookup x=some c:=by
 have q:=PySem.W.cellsFrom_some sc.names n [] (.inl h)
 exact Option.isSome_iff_exists.mp q
theorem zle{CX:CXT}{P:Program}{w:World}{K:ξk}{mg:Str->Option Value}{base:Heap}{N ps:List Str}{qual:Str}{scope:Scope}{f:Addr}{cd:Value}{A:Around}{outer:List Env}{s s1:Shared}{H:Hp}{E:XK}{us:List Value}{vs:List V}
 (S:FnScope N ps scope) (hd:A.handled=none) (e0:Env0 P w K mg base A outer s H) (hl:vs.length=ps.length) (r:Vals vs us)
 (x:InCallC s s.heap.objs.size (bindL (envOfC qual scope s.heap.objs.size f cd).kindOf (ps.zip us) λ_=>none) (cellsFrom (s.heap.objs.size+1) scope.names []) (bindC (envOfC qual scope s.heap.objs.size f cd).kindOf (ps.zip us) λ_=>none) s1):
 Inv (zhO CX P w K mg base N qual scope f cd A outer s H E) [] (zdw N vs) H s1:=by
 have hpl:ps.length<=N.length:=by have:=congrArg List.length S.pre;rw[ζl] at this;omega
 obtain⟨h1,tk,rfl,hk⟩:=x.done
 have noA:∀b:Addr,b∉(zhO CX P w K mg base N qual scope f cd A outer s H E).ex:=λb z=>absurd (show b∈([]:List Addr)from z) (by simp)
 refine⟨⟨e0.mod,S.kind,rfl,rfl,ζt _,λy z c h1 h2=>?_,λy hy=>?_,λy c _ h=>?_,λ_=>hd,Around.frames_deeper e0.frames, .inr ⟨rfl,rfl⟩,λb z=>absurd z (noA b),e0.bs,e0.bsz,λb _ _=>noA b,λb z=>absurd z (noA b),e0.funs,e0.frf⟩,
  rfl,e0.bare,Un.kept hk,⟨_,x.toInCall.ns,λi y v h1 h2 h3=>?_⟩,λy c h=>⟨_,x.cell y c h⟩,e0.hok.fresh (ζt _),λy c h=>?_,λp hp=>absurd (show p∈([]:List (Addr×Obj))from hp) (by simp),e0.hok.kept hk,?_⟩
 ·exact name_of_addr x.apart (PySem.mem_of_lookup h1) (PySem.mem_of_lookup h2)
 ·have hy:scope.names.lookup y=some .cell\/scope.names.lookup y=some .free:=hy
  rcases hy with hy|hy
  ·exact ziy hy
  ·exact absurd rfl (S.nofree _ (PySem.mem_of_lookup hy))
 ·exact ξg (x.above y c (PySem.mem_of_lookup h))
 ·have hi:i<vs.length:=by
   unfold zdw at h2
   by_cases hi:i<vs.length
   ·exact hi
   ·rw[ξm (by simpa using hi)] at h2
    rw[List.getElem?_replicate] at h2
    split at h2<;>cases h2
  have ha:vs[i]?=some v:=by
   unfold zdw at h2
   rw[ψa (by simpa using hi),ζp] at h2
   cases e:vs[i]? with
   |none=>rw[e] at h2;cases h2
   |some a=>rw[e] at h2;cases h2;rfl
  obtain⟨u,hu,rv⟩:=r.get ha
  have hp:ps[i]?=some y:=by
   rw[←S.pre,List.getElem?_take_of_lt (by omega)];exact h1
  have ndP:ps.Nodup:=by rw[←S.pre];exact S.nd.sublist (List.take_sublist _ _)
  refine⟨u,rv,?_⟩
  rcases S.par y (ζk hp)with k|k
  ·exact .inl ⟨k,zgu ndP hp hu k⟩
  ·obtain ⟨c,e⟩:=ziy (n:=s.heap.objs.size+1) k
   refine .inr ⟨.inl k,c,e,?_⟩
   have q:=x.cell y c e
   rw[zgn ndP hp hu (by show scope.names.lookup y≠_;rw[k];decide)] at q
   exact q
 ·exact e0.hok.fresh (ξg (x.above y c (PySem.mem_of_lookup h)))
 ·unfold zdw
  show _=N.length
  rw[ζe,ζa,List.length_replicate]
  omega
theorem zpL{CX:CXT}{P:Program}{w:World}{K:ξk}{mg:Str->Option Value}{base:Heap}{k:Nat}{f:Addr}{name qual:Str}{params:Arguments}{body:List Stmt}{scope:Scope}{dV kV doc pm cdv ct oc:Value}{an od:Option Addr}
 {osl:Array (Option Value)} {N ps:List Str} {sp:Sp} (lk:K.lookup f=some ⟨oc,od, .func (PySem.W.fnOf name qual params body scope dV kV doc pm an cdv ct),osl⟩) (hcd:PySem.W.codeIn K cdv qual=true) (S:FnScope N ps scope)
 (len:∀vs H Q E,sp vs H Q E->vs.length=ps.length)
 (hbody:∀(A:Around) (outer:List Env) (s:Shared) (H:Hp) (vs:List V) (Q:VK) (E:XK),Room k (A.deeper (envOfC qual scope s.heap.objs.size f cdv))->sp vs H Q E->
   ∃t,PSs (zhO CX P w K mg base N qual scope f cdv A outer s H E) body t/\t {nx:=λ_ H'=>Q .non H',rt:=Q} (zdw N vs) H):
 FnOk P w K mg base CX (k+1) f (PySem.W.fnOf name qual params body scope dV kV doc pm an cdv ct) ps sp:=by
 refine⟨len,λA outer s H args us vs Q E hr e0 hb r hsp=>?_⟩
 have hl:=len _ _ _ _ hsp
 have KX:K.In s.heap:=e0.mod.kin.keeps λb o e=>(e0.bs b o e).1
 have lim:s.heap.NoLimit:=e0.mod.nolimit.keeps λb o e=>(e0.bs b o e).1
 have hkind:∀y∈ps.zip us,scope.names.lookup y.1=some .local\/(scope.names.lookup y.1=some .cell/\((cellsFrom (s.heap.objs.size+1) scope.names []).lookup y.1).isSome=true):=λ⟨n,v⟩ hy=>by
  rcases S.par n (List.of_mem_zip hy).1 with q|q
  ·exact .inl q
  ·exact .inr ⟨q,PySem.W.cellsFrom_some _ _ _ (.inl q)⟩
 refine codeAny_call_function hr.depth (KX _ _ lk) rfl S.co S.gen rfl (PySem.W.codeRec_of KX hcd) (hb _ _ _ _ ?_)
 refine wpAny_newFunctionEnv_cells S.kind hkind λenv he s1 x=>?_
 subst he
 refine⟨lim.keeps x.toInCall.keep,codeAny_func ?_⟩
 obtain⟨t,ht,hq⟩:=hbody A outer s H vs Q E (hr.deeper _) hsp
 have I:Inv (zhO CX P w K mg base N qual scope f cdv A outer s H E) [] (zdw N vs) H s1:=zle S hr.hd e0 hl r x
 refine ψc (ht [] s1 (zdw N vs) H _ I hq) (λfl s' hs=>?_) λe s' hs=>hs
 have fin:∀{σ':St} {H':Hp} {v:V} {u:Value},Inv (zhO CX P w K mg base N qual scope f cdv A outer s H E) [] σ' H' s'->RelV v u->Q v H'->CE outer P w H s Q u s':=
  λ{σ' H' v u} J rv q=>⟨v,H',J.os,J.bare,J.base,J.hok,rv,q⟩
 cases fl with
 |ret u=>
  obtain⟨v,σ',H',J,rv,q⟩:=hs
  exact fin J rv q
 |next=>
  obtain⟨σ',H',J,q⟩:=hs
  exact fin (v:=V.non) (u:=Value.none) J rfl q
 |brk=>
  obtain⟨_,_,_,q⟩:=hs
  exact False.elim q
 |cont=>
  obtain⟨_,_,_,q⟩:=hs
  exact False.elim q
section
variable{X:Cx}{x:Str}{p pos:Pos}{e:Expr}{es:List Expr}{t:TA}{id T:String}{r:List V->Hp->VK->Prop}
def tCB(r:List V->Hp->VK->Prop)(t:TA):TE:=λσ H Q=>t σ H λvs H1=>r vs H1 Q
theorem zmb(hc:CallR X (.builtin id) r)(hg:Gl X x)(hm:X.mg x=none)(hv:bootBuiltins x=some (.builtin id))(ha:PA X (e::es) t)(hn:x≠"__name__":=by decide)(hdb:(x==("__debug__":Str))=false:=by decide)
 (he:starEach (e::es) X.env=(false,eval e X.env)::starEach es X.env:=by rfl) (hpl:(backTo pos (starEach es X.env)).any (·.1)=false:=by rfl):PE X (.Call (.Name x p) (e::es) [] pos) (tCB r t):=by
 intro pins s σ H Q I h
 refine wpAny_Call_Name_kw (zeu I hg hm hv ?_ hn hdb)
 exact PyProof.Rows.callWith_builtin1 (thn (ha pos pins s σ H _ I h) λus s1 ⟨vs,H1,I1,r1,q1⟩=>hc pins s1 σ H1 vs us Q I1 r1 q1) he hpl
theorem zlz(hc:CallR X (.type T) r)(hg:Gl X x)(hm:X.mg x=none)(hv:bootBuiltins x=some (.type T))(ha:PA X (e::es) t)(hn:x≠"__name__":=by decide)(hdb:(x==("__debug__":Str))=false:=by decide)
 (he:starEach (e::es) X.env=(false,eval e X.env)::starEach es X.env:=by rfl) (hpl:(backTo pos (starEach es X.env)).any (·.1)=false:=by rfl):PE X (.Call (.Name x p) (e::es) [] pos) (tCB r t):=by
 intro pins s σ H Q I h
 refine wpAny_Call_Name_kw (zeu I hg hm hv ?_ hn hdb)
 exact PyProof.Rows.callWith_type1 (thn (ha pos pins s σ H _ I h) λus s1 ⟨vs,H1,I1,r1,q1⟩=>hc pins s1 σ H1 vs us Q I1 r1 q1) he hpl
end
end L2
namespace HT
open PySem PyProof.Rows
section
open PySem.SeqAt
open PySem.AutoSeq1 (wpAny_loadPart')
open PySem.MeetsSeq PySem.MeetsSeq2 PySem.MeetsSeq3
end
section
variable{prog:Program}{w:World}{A:Around}{E:Value->Shared->Prop}{s:Shared}
theorem cat_tup{t b:Addr}{vs ws:List Value}{Q:Value->Shared->Prop}(ht:IsTup s.heap t vs.toArray)(hb:IsTup s.heap b ws.toArray)(hv:vs≠ [])
 (h1:ws=[]->Q (.ref t) s) (h2:ws≠ []->Q (.ref s.heap.objs.size) {s with heap:=s.heap.push {cls:= .type "tuple",data:= .seq (vs ++ws).toArray}})
 (hsz:vs.length+ws.length<=sizeLine):wpAny (model prog w) A (binaryOp .Add (.ref t) (.ref b)) Q E s:=by
 obtain⟨⟨cls,dd,data,sl⟩,ho,hc,n,hd⟩:=id ht
 obtain⟨⟨cls2,dd2,data2,sl2⟩,ho2,hc2,n2,hd2⟩:=id hb
 simp only at hc hd hc2 hd2
 subst hc hd hc2 hd2
 have e:vs.toArray ++ws.toArray=(vs ++ws).toArray:=by simp
 by_cases hw:ws=[]
 ·exact concat_meets ⟨_,ho,rfl⟩ ⟨_,ho2,rfl⟩ noFill_tuple_add seq_tuple_add PySem.F.slot_tuple_add PySem.F.entry_tuple_add (PySem.F.args_tuple_add_2 _ _)
   (tuple_addW1 t b vs.toArray ws.toArray n n2 dd dd2 sl sl2 (by simpa using hv) (by simp[hw])) ⟨ho,ho2,h1 hw⟩
 ·refine concat_meets ⟨_,ho,rfl⟩ ⟨_,ho2,rfl⟩ noFill_tuple_add seq_tuple_add PySem.F.slot_tuple_add PySem.F.entry_tuple_add (PySem.F.args_tuple_add_2 _ _)
   (tuple_addW2 t b vs.toArray ws.toArray n n2 dd dd2 sl sl2 (by simpa using hv) (by simpa using hw) (by rw[ζu,ζu];exact hsz)) ⟨ho,ho2,?_⟩
  rw[e]
  exact h2 hw
noncomputable def sIx(n d:Nat):Option Int->Nat
 |none=>d
 |some v=>if v<0 then(v+(n:Int)).toNat else min v.toNat n
theorem zqS(n d:Nat)(hd:d<=n)(o:Option Int):sIx n d o<=n:=by
 cases o with
 |none=>exact hd
 |some v=>
  show(if v<0 then(v+(n:Int)).toNat else min v.toNat n)<=n
  by_cases hv:v<0
  ·rw[if_pos hv];omega
  ·rw[if_neg hv];exact Nat.min_le_right _ _
theorem zjY(v:Int)(n d:Nat):(if v<0 then max (v+(n:Int)) 0 else min v (n:Int))=((sIx n d (some v):Nat):Int):=by
 show(if v<0 then max (v+(n:Int)) 0 else min v (n:Int))=(((if v<0 then(v+(n:Int)).toNat else min v.toNat n):Nat):Int)
 by_cases hv:v<0
 ·simp only[if_pos hv];omega
 ·simp only[if_neg hv];omega
theorem zi8(lo hi:Option Int)(n:Nat):Builtin.Slice.sliceAdjust lo hi 1 (n:Int)=(((sIx n 0 lo:Nat):Int),((sIx n n hi:Nat):Int)):=by
 have h1:¬((1:Int)<0):=by omega
 unfold Builtin.Slice.sliceAdjust
 simp only[h1,if_false]
 refine Prod.ext ?_ ?_
 ·cases lo with
  |none=>rfl
  |some v=>exact zjY v n 0
 ·cases hi with
  |none=>rfl
  |some v=>exact zjY v n n
theorem zjl(i j:Nat):Builtin.Slice.slicePlaces (i:Int) (j:Int) 1=j -i:=by
 unfold Builtin.Slice.slicePlaces
 have h1:(1:Int)>0:=by omega
 simp only[h1,if_true,Int.ediv_one]
 split<;>omega
theorem zfQ{v:Value}{o:Option Int}{Q:Option Int->Shared->Prop}(p:IsPart v o)(h:Q o s):wpAny (model prog w) A (Builtin.Slice.slicePartIndex v) Q E s:=by
 cases p with
 |none=>exact slicePart_none h
 |int i t=>exact slicePart_int h
theorem zcq{sl:Addr}{vl vu:Value}{lo hi:Option Int}{n:Nat}{Q:Int×Int×Nat->Shared->Prop}(hs:s.heap.IsSliceOf sl vl vu .none)(pl:IsPart vl lo)(pu:IsPart vu hi)
 (h:Q (((sIx n 0 lo:Nat):Int),1,sIx n n hi -sIx n 0 lo) s):wpAny (model prog w) A (Builtin.Slice.sliceApplied (.ref sl) (pure (n:Int))) Q E s:=by
 obtain⟨os,hos,hcs,hds⟩:=id hs
 unfold Builtin.Slice.sliceApplied Builtin.Slice.sliceFields
 refine ζb (ζb (wpAny_field hos hds (x:=vl) rfl (ζb (wpAny_field hos hds (x:=vu) rfl (ζb (wpAny_field hos hds (x:= .none) rfl (ζr ?_)))))))
 refine ζb (slicePart_none ?_)
 show wpAny _ _ (if((1:Int)==0)=true then _ else _) _ _ s
 rw[if_neg (by decide)]
 refine ζb (zfQ pl (ζb (zfQ pu (ζb (ζr ?_)))))
 show wpAny _ _ (match Builtin.Slice.sliceAdjust lo hi 1 (n:Int)with|(lo,hi)=>pure (lo,(1:Int),Builtin.Slice.slicePlaces lo hi 1)) _ _ s
 rw[zi8 lo hi n]
 show wpAny _ _ (pure (((sIx n 0 lo:Nat):Int),(1:Int),Builtin.Slice.slicePlaces ((sIx n 0 lo:Nat):Int) ((sIx n n hi:Nat):Int) 1)) _ _ s
 rw[zjl]
 exact ζr h
theorem zm2(xs:Array Value)(i k:Nat):((List.range k).filterMap λ(m:Nat)=>xs[((i:Int)+(m:Int)*1).toNat]?).toArray=((xs.toList.drop i).take k).toArray:=by
 have e:(λ(m:Nat)=>xs[((i:Int)+(m:Int)*1).toNat]?)=λm=>xs[i+m]?:=by
  funext m
  have:((i:Int)+(m:Int)*1).toNat=i+m:=by omega
  rw[this]
 rw[e]
 have:=pick_run xs i k
 rw[List.filterMap_map] at this
 have e2:((λx=>xs[x]?)∘λx=>i+x)=λm=>xs[i+m]?:=rfl
 rw[e2] at this
 rw[this]
theorem getItem_tuple_cut{t sl:Addr}{items:Array Value}{vl vu:Value}{lo hi:Option Int}{Q:Value->Shared->Prop}(ht:IsTup s.heap t items)(hs:s.heap.IsSliceOf sl vl vu .none)(pl:IsPart vl lo)(pu:IsPart vu hi)
 (hw:¬(sIx items.size 0 lo=0/\sIx items.size items.size hi=items.size))
 (h:Q (.ref s.heap.objs.size) {s with heap:=s.heap.push {cls:= .type "tuple",data:= .seq ((items.toList.drop (sIx items.size 0 lo)).take (sIx items.size items.size hi -sIx items.size 0 lo)).toArray}})
 (hsz:items.size<=sizeLine):wpAny (model prog w) A (getItem (.ref t) (.ref sl)) Q E s:=by
 have htake:sizeOk (.seq ((items.toList.drop (sIx items.size 0 lo)).take (sIx items.size items.size hi -sIx items.size 0 lo)).toArray):=by
  show((items.toList.drop (sIx items.size 0 lo)).take (sIx items.size items.size hi -sIx items.size 0 lo)).toArray.size<=sizeLine
  rw[ζu,ζl,ζq,ξq]
  omega
 have hj:sIx items.size items.size hi<=items.size:=zqS _ _ (ζt _) hi
 obtain⟨os,hos,hcs,hds⟩:=id hs
 have hTs:s.TypeIs (.ref sl) "slice":=⟨os,hos,hcs⟩
 unfold getItem
 try with_reducible refine ψd ?_
 first|refine ζb (ζr ?_)|skip
 refine ζb (wpAny_sequenceKey ht.typeIs (by decide) ?_)
 refine ζb (wpAny_callSpecial?_slot (name:=Str.ofString "__getitem__") ht.typeIs PyProof.Rows.slot_tuple_getitem
  (wpAny_call_entry PyProof.Rows.slot_tuple_getitem ht.typeIs entry_tuple_getitem ?_ (args_tuple_getitem _ _)))
 show wpAny _ _ (Builtin.Tuple.tupleItemsOf (.ref t)>>=_) _ _ s
 refine ζb (tupleItemsOf_ ht ?_)
 refine ζb (wpAny_typeOf hTs ?_)
 rw[if_pos (by decide)]
 refine ζb (zcq hs pl pu ?_)
 have hno:¬((((sIx items.size 0 lo:Nat):Int)==0&&(1:Int)==1&&(sIx items.size items.size hi -sIx items.size 0 lo)==items.size)=true):=by
  intro q
  rw[ζs,ζs] at q
  have q1:((sIx items.size 0 lo:Nat):Int)=0:=eq_of_beq q.1.1
  have q2:sIx items.size items.size hi -sIx items.size 0 lo=items.size:=eq_of_beq q.2
  exact hw ⟨by omega,by omega⟩
 show wpAny _ _ (if(((sIx items.size 0 lo:Nat):Int)==0&&(1:Int)==1&&(sIx items.size items.size hi -sIx items.size 0 lo)==items.size)=true then _ else _) _ _ s
 rw[if_neg hno,zm2]
 first
  |exact ζb (m:=Builtin.Tuple.tupleExact _) (wpAny_newObj_type (ζr ⟨_,rfl,ζr h⟩) htake)
  |exact ζb (m:=Builtin.Tuple.tupleExact _) (wpAny_newObj_type (ζb (ζr (ζr ⟨_,rfl,ζr h⟩))) htake)
  |exact ζb (ζb (m:=Builtin.Tuple.tupleExact _) (wpAny_newObj_type (ζr (ζr ⟨_,rfl,ζr h⟩)) htake))
  |exact ζb (ζb (m:=Builtin.Tuple.tupleExact _) (wpAny_newObj_type (ζr ⟨_,rfl,ζr h⟩) htake))
end
end HT
namespace L2
open PySem PySem.Spec PyProof.Rows
noncomputable abbrev TO:=St->Hp->(Option Int->Hp->Prop)->Prop
def PO(X:Cx)(e:Option Expr)(t:TO):Prop:=
 ∀(pins:List (Addr×Obj)) (s:Shared) (σ:St) (H:Hp) (Q:Option Int->Hp->Prop),Inv X pins σ H s->t σ H Q->
  wpAny (model X.prog X.w) X.A (evalPart e X.env) (λu s'=>∃o H',Inv X pins σ H' s'/\IsPart u o/\Q o H') X.xe s
noncomputable def zhf:TO:=λ_ H Q=>Q none H
noncomputable def zpy(t:TE):TO:=λσ H Q=>t σ H λx H1=>∃i,x= .int i/\Q (some i) H1
section
variable{X:Cx}{e:Expr}{te:TE}{lo hi:Option Expr}{tl th:TO}{pos p2:Pos}
theorem zoC:PO X none zhf:=by
 intro pins s σ H Q I h
 rw[evalPart_none]
 exact ζr ⟨none,H,I, .none,h⟩
theorem zoO(h:PE X e te):PO X (some e) (zpy te):=by
 intro pins s σ H Q I hw
 rw[evalPart_some]
 refine thn (h pins s σ H _ I hw) λu s1 ⟨x,H1,I1,r1,q1⟩=>?_
 obtain⟨i,rfl,q⟩:=q1
 obtain⟨t,rfl⟩:=r1
 exact⟨some i,H1,I1, .int i t,q⟩
def SlR(X:Cx)(r:V->Option Int->Option Int->Hp->VK->Prop):Prop:=
 ∀(pins:List (Addr×Obj)) (s:Shared) (σ:St) (H:Hp) (x:V) (v vl vu:Value) (lo hi:Option Int) (sl:Addr) (Q:VK),Inv X pins σ H s->RelV x v->s.heap.IsSliceOf sl vl vu .none->IsPart vl lo->IsPart vu hi->r x lo hi H Q->
  ∃T id,typeLookup (.type T) "__getitem__"=pure (some (.builtin id))/\s.TypeIs v T/\wpAny (model X.prog X.w) X.A (getItem v (.ref sl)) (EP X pins σ Q) X.xe s
def tSl(r:V->Option Int->Option Int->Hp->VK->Prop)(te:TE)(tl th:TO):TE:=λσ H Q=>te σ H λx H1=>tl σ H1 λl H2=>th σ H2 λu H3=>r x l u H3 Q
theorem zmL{r:V->Option Int->Option Int->Hp->VK->Prop}(hr:SlR X r)(he:PE X e te)(hl:PO X lo tl)(hu:PO X hi th):PE X (.Subscript e (.Slice lo hi none p2) pos) (tSl r te tl th):=by
 intro pins s σ H Q I h
 refine Subscript_ (thn (he pins s σ H _ I h) λv s1 ⟨x,H1,I1,r1,q1⟩=>?_)
 refine wpAny_Slice (thn (hl pins s1 σ H1 _ I1 q1) λvl s2 ⟨l,H2,I2,pl,q2⟩=>thn (hu pins s2 σ H2 _ I2 q2) λvu s3 ⟨u,H3,I3,pu,q3⟩=>?_)
 rw[evalPart_none]
 refine ζr ?_
 have I4:Inv X pins σ H3 {s3 with heap:=s3.heap.push {cls:= .type "slice",data:= .fields #[vl,vu, .none]}}:=I3.kept (t':=s3.toks) λb ob q=>ζc _ q
 obtain⟨T,id,hT,ht,hg⟩:=hr pins {s3 with heap:=s3.heap.push {cls:= .type "slice",data:= .fields #[vl,vu, .none]}} σ H3 x v vl vu l u s3.heap.objs.size Q I4 r1 (Heap.IsSliceOf.new ..) pl pu q3
 show wpAny (model X.prog X.w) X.A (subscriptTail e (.Slice lo hi none p2) v (.ref s3.heap.objs.size)) (EP X pins σ Q) X.xe {s3 with heap:=s3.heap.push {cls:= .type "slice",data:= .fields #[vl,vu, .none]}}
 exact tail_any (ops:=[.ref s3.heap.objs.size,v]) ht hT hg (by with_unfolding_all rfl)
noncomputable def zbB(xs:List V)(lo hi:Option Int):List V:=(xs.drop (HT.sIx xs.length 0 lo)).take (HT.sIx xs.length xs.length hi -HT.sIx xs.length 0 lo)
theorem zeU(xs:List V)(lo hi:Option Int):(zbB xs lo hi).length<=xs.length:=by
 unfold zbB
 rw[ζl,ζq]
 omega
def zsn(K:ξk):V->Option Int->Option Int->Hp->VK->Prop:=λx lo hi H Q=>∃a xs,x= .ref a/\SqT K H a xs/\
 ¬(HT.sIx xs.length 0 lo=0/\HT.sIx xs.length xs.length hi=xs.length)/\∀p,H p=none->Q (.ref p) (upd H p (.tup (zbB xs lo hi)))
theorem zqe:SlR X (zsn X.K):=by
 intro pins s σ H x v vl vu lo hi sl Q I rx hs pl pu h
 obtain⟨a,xs,rfl,hx,hw,q⟩:=h
 cases rx
 obtain⟨its,r,ht,hz⟩:=I.tuple hx
 have hlen:its.toArray.size=xs.length:=by rw[ζu];exact r.length.symm
 refine⟨"tuple",_,PyProof.Rows.slot_tuple_getitem.lookup,ht.typeIs,?_⟩
 refine HT.getItem_tuple_cut ht hs pl pu (by rw[hlen];exact hw) ?_ (by rw[hlen];exact hz)
 rw[hlen]
 refine⟨.ref s.heap.objs.size,_,I.laid (t':=s.toks) (o:= .tup (zbB xs lo hi)) (λb ob q=>ζc _ q) (ζt _) ?_,rfl,q _ (I.hok.fresh (ζt _))⟩
 exact⟨ξa (zeU xs lo hi) hz,_,(r.drop (HT.sIx xs.length 0 lo)).take (HT.sIx xs.length xs.length hi -HT.sIx xs.length 0 lo),IsTup.new _ _,NoDict.new rfl (ζj _ rfl)⟩
noncomputable def zrX(K:ξk):R2:=λx y H Q=>∃a b xs ys,x= .ref a/\y= .ref b/\SqT K H a xs/\SqT K H b ys/\xs≠ []/\xs.length+ys.length<=sizeLine/\
 (ys=[]->Q (.ref a) H)/\(ys≠ []->∀p,H p=none->Q (.ref p) (upd H p (.tup (xs ++ys))))
theorem Vals.nil_iff{xs:List V}{us:List Value}(r:Vals xs us):us=[]↔xs=[]:=by
 cases r with
 |nil=>simp
 |cons _ _=>simp
theorem zob:OpR X (binaryOp .Add) (zrX X.K):=by
 intro pins s σ H x y v u Q I rx ry h
 obtain⟨a,b,xs,ys,rfl,rfl,ha,hb,hx,hz,q1,q2⟩:=h
 cases rx
 cases ry
 obtain⟨its,r1,p1,_⟩:=I.tuple ha
 obtain⟨its2,r2,p2,_⟩:=I.tuple hb
 refine HT.cat_tup p1 p2 (λz=>hx (r1.nil_iff.mp z)) (λz=>⟨.ref a,H,I,rfl,q1 (r2.nil_iff.mp z)⟩) (λz=>?_) (by rw[←r1.length,←r2.length];exact hz)
 refine⟨.ref s.heap.objs.size,_,I.laid (t':=s.toks) (o:= .tup (xs ++ys)) (λb ob q=>ζc _ q) (ζt _) ?_,rfl,q2 (λw=>z (r2.nil_iff.mpr w)) _ (I.hok.fresh (ζt _))⟩
 exact⟨by rw[ζe];exact hz,_,r1.append r2,IsTup.new _ _,NoDict.new rfl (ζj _ rfl)⟩
end
noncomputable def ixN(n:Nat)(i:Int):Option Nat:=if 0<=i then(if i<n then some i.toNat else none)else if -(n:Int)<=i then some (i+n).toNat else none
noncomputable def atI{α:Type}(xs:List α)(i:Int):Option α:=(ixN xs.length i).bind λj=>xs[j]?
theorem zkm{n:Nat}{i:Int}{j:Nat}(h:ixN n i=some j):seqIndex? i n=some j/\j<n/\-(n:Int)<=i/\i<n:=by
 unfold ixN at h
 by_cases h0:0<=i
 ·rw[if_pos h0] at h
  by_cases h1:i<n
  ·rw[if_pos h1] at h
   have e:i.toNat=j:=ξh h
   exact⟨by rw[seqIndex_of h0 h1,e],by omega,by omega,h1⟩
  ·rw[if_neg h1] at h;cases h
 ·rw[if_neg h0] at h
  by_cases h1: -(n:Int)<=i
  ·rw[if_pos h1] at h
   have e:(i+n).toNat=j:=ξh h
   exact⟨by rw[seqIndex_neg (by omega) h1,e],by omega,h1,by omega⟩
  ·rw[if_neg h1] at h;cases h
theorem zgY{α:Type}{xs:List α}{i:Int}{v:α}(h:atI xs i=some v):∃j,seqIndex? i xs.length=some j/\xs[j]?=some v/\j<xs.length/\-(xs.length:Int)<=i/\i<xs.length:=by
 unfold atI at h
 cases e:ixN xs.length i with
 |none=>rw[e] at h;cases h
 |some j=>
  rw[e] at h
  obtain⟨h1,h2,h3,h4⟩:=zkm e
  exact⟨j,h1,h,h2,h3,h4⟩
theorem zQ{α:Type}{xs:List α}{j:Nat}{v:α}(h:xs[j]?=some v):atI xs (j:Int)=some v:=by
 have hj:j<xs.length:=(List.getElem?_eq_some_iff.mp h).1
 have e:ixN xs.length (j:Int)=some j:=by
  unfold ixN
  rw[if_pos (by omega),if_pos (by omega)];simp
 unfold atI;rw[e];exact h
theorem zl1{α:Type}(xs:List α)(v:α):atI (xs ++ [v]) (-1)=some v:=by
 have hl:(xs ++ [v]).length=xs.length+1:=by simp
 have e:ixN (xs ++ [v]).length (-1)=some xs.length:=by
  unfold ixN
  rw[hl,if_neg (by decide),if_pos (by omega)]
  congr 1
  omega
 unfold atI
 rw[e]
 show(xs ++ [v])[xs.length]?=some v
 simp
def zkc(b:Expr):Prop:=∀o i,subscripted b false o i=operate [o,i] (getItem o i)
def IxR(X:Cx)(r:R2):Prop:=
 ∀(value slice:Expr) (pins:List (Addr×Obj)) (s:Shared) (σ:St) (H:Hp) (x y:V) (v u:Value) (Q:VK),Inv X pins σ H s->RelV x v->RelV y u->r x y H Q->
  subscripted slice false v u=operate [v,u] (getItem v u)->wpAny (model X.prog X.w) X.A (subscriptTail value slice v u) (EP X pins σ Q) X.xe s
def MtR(X:Cx)(id:String)(r:V->List V->Hp->VK->Prop):Prop:=
 ∀(pins:List (Addr×Obj)) (s:Shared) (σ:St) (H:Hp) (x:V) (xs:List V) (v:Value) (us:List Value) (Q:VK),Inv X pins σ H s->RelV x v->Vals xs us->r x xs H Q->
  wpAny (model X.prog X.w) X.A (call (.builtin id) (v::us)) (EP X pins σ Q) X.xe s
section
variable{X:Cx}{a b:Expr}{ta tb:TE}{pos:Pos}
theorem IxR.or{r r':R2}(h:IxR X r)(h':IxR X r'):IxR X (λx y H Q=>r x y H Q\/r' x y H Q):=by
 intro value slice pins s σ H x y v u Q I rx ry q hs
 rcases q with q|q
 ·exact h value slice pins s σ H x y v u Q I rx ry q hs
 ·exact h' value slice pins s σ H x y v u Q I rx ry q hs
theorem zr3{r:R2}(hr:IxR X r)(ha:PE X a ta)(hb:PE X b tb)(hs:zkc b):PE X (.Subscript a b pos) (tOp r ta tb):=by
 intro pins s σ H Q I h
 exact Subscript_ (zp4 ha hb I h λv u s2 x y H2 I2 rx ry q=>hr a b pins s2 σ H2 x y v u Q I2 rx ry q (hs _ _))
noncomputable def zqz(K:ξk):R2:=λx y H Q=>∃p xs i v,x= .ref p/\y= .int i/\SqL K H p xs/\atI xs i=some v/\Q v H
noncomputable def zp2(K:ξk):R2:=λx y H Q=>∃p xs i v,x= .ref p/\y= .int i/\SqT K H p xs/\atI xs i=some v/\Q v H
noncomputable def zrq:R2:=λx y H Q=>∃z i c,x= .str z/\y= .int i/\z.length<=sizeLine/\atI z.cps.toList i=some c/\Q (.str ⟨#[c]⟩) H
theorem ix_list:IxR X (zqz X.K):=by
 intro value slice pins s σ H x y v u Q I rx ry h hs
 obtain⟨p,xs,i,z,rfl,rfl,hq,he,q⟩:=h
 cases rx
 obtain⟨t,rfl⟩:=ry
 obtain⟨its,r,pl,hz⟩:=I.list hq
 obtain⟨j,h1,h2,h3,h4,h5⟩:=zgY he
 obtain⟨w,ew,rw'⟩:=r.get h2
 have hl:=r.length
 have hn:=zdM
 have fin:EP X pins σ Q w s:=⟨z,H,I,rw',q⟩
 by_cases h0:0<=i
 ·have hj:i.toNat=j:=by
   rw[seqIndex_of h0 h5] at h1
   exact ξh h1
  exact item_listR pl.isList h0 (by omega) (by rw[hj];simpa using ew) fin hs
 ·have hj:(i+(its.toArray.size:Int)).toNat=j:=by
   rw[seqIndex_neg (by omega) h4] at h1
   rw[ζu,←hl]
   exact ξh h1
  exact subscriptTail_builtinR (x:=w) pl.isList.typeIs slot_list_getitem.lookup
   (wpAny_getItem_list_neg (Q:=λr s'=>r=w/\EP X pins σ Q r s') pl.isList (by omega) (by rw[ζu]<;>omega) (by omega) (by rw[hj];simpa using ew) ⟨rfl,fin⟩) hs
theorem ix_tup:IxR X (zp2 X.K):=by
 intro value slice pins s σ H x y v u Q I rx ry h hs
 obtain⟨p,xs,i,z,rfl,rfl,hq,he,q⟩:=h
 cases rx
 obtain⟨t,rfl⟩:=ry
 obtain⟨its,r,pl,hz⟩:=I.tuple hq
 obtain⟨j,h1,h2,h3,h4,h5⟩:=zgY he
 obtain⟨w,ew,rw'⟩:=r.get h2
 have hl:=r.length
 have hn:=zdM
 have fin:EP X pins σ Q w s:=⟨z,H,I,rw',q⟩
 exact subscriptTail_builtinR (x:=w) pl.typeIs slot_tuple_getitem.lookup
  (getItem_tuple (j:=j) (Q:=λr s'=>r=w/\EP X pins σ Q r s') pl (by omega) (by omega) (by rw[ζu,←hl];exact h1) (by simpa using ew) ⟨rfl,fin⟩) hs
theorem zlP:IxR X zrq:=by
 intro value slice pins s σ H x y v u Q I rx ry h hs
 obtain⟨z,i,c,rfl,rfl,hz,he,q⟩:=h
 obtain⟨t,rfl⟩:=rx
 obtain⟨t',rfl⟩:=ry
 obtain⟨j,h1,h2,h3,h4,h5⟩:=zgY he
 have hl:z.cps.toList.length=z.length:=by simp[Str.length]
 rw[hl] at h1 h4 h5
 have hn:=zdM
 exact tail_any (typeIs_str s z t) slot_str_getitem.lookup (getItem_str (c:=c) (by
  have e1:decide (i< -(2^63:Int))=false:=ζn (by omega)
  have e2:decide (i≥2^63)=false:=ζn (by omega)
  rw[e1,e2,Bool.or_false]) (by rw[h1];simpa using h2) ⟨.str ⟨#[c]⟩,H,I.tok _,⟨_,rfl⟩,q⟩) hs
noncomputable def rIx(K:ξk):R2:=λx y H Q=>zqz K x y H Q\/zp2 K x y H Q\/zrq x y H Q
theorem zl6:IxR X (rIx X.K):=ix_list.or (ix_tup.or zlP)
theorem ziT(its:List Value)(n j:Nat)(u:Value):Obj.mapSeq (·.setIfInBounds j u) {cls:= .type "list",data:= .seq its.toArray n}={cls:= .type "list",data:= .seq (its.set j u).toArray n}:=by
 simp[Obj.mapSeq]
theorem Inv.lst{pins:List (Addr×Obj)}{σ:St}{H:Hp}{s:Shared}{p:Addr}{xs:List V}(I:Inv X pins σ H s)(h:H p=some (.lst xs)):
 ∃(its:List Value) (n:Nat),Vals xs its/\s.heap.get? p=some {cls:= .type "list",data:= .seq its.toArray n}/\xs.length<=sizeLine:=by
 obtain⟨z,its,n,r,e⟩:=I.hok p _ h
 exact⟨its,n,r,e,z⟩
theorem Inv.lstUpd{pins:List (Addr×Obj)}{σ:St}{H:Hp}{s:Shared}{p:Addr}{xs ys:List V}{its its':List Value}{n n':Nat}{f:Obj->Obj}(I:Inv X pins σ H s)(h:H p=some (.lst xs))
 (ho:s.heap.get? p=some {cls:= .type "list",data:= .seq its.toArray n}) (hf:f {cls:= .type "list",data:= .seq its.toArray n}={cls:= .type "list",data:= .seq its'.toArray n'}) (r:Vals ys its') (hz:ys.length<=sizeLine) (t:Nat):
 Inv X pins σ (upd H p (.lst ys)) {s with heap:=s.heap.update p f,toks:=t}:=by
 have e:(s.heap.update p f).get? p=some {cls:= .type "list",data:= .seq its'.toArray n'}:=by
  rw[Heap.get?_update_self f ho (by rw[hf]<;>rfl),hf]
 refine I.write (x:=p) (e:=p) (by rw[h];trivial) (.inl rfl) (λb u hb q=>(Heap.get?_update_other _ _ (Ne.symm hb)).trans q) ⟨_,e⟩ ?_
 exact⟨hz,its',n',r,e⟩
def zr5:V->V->V->Hp->(Hp->Prop)->Prop:=λo i v H Q=>∃p xs k j,o= .ref p/\i= .int k/\H p=some (.lst xs)/\ixN xs.length k=some j/\Q (upd H p (.lst (xs.set j v)))
theorem zfk:zrc X zr5:=by
 intro pins s σ H o i v ov iv u Q I ro ri rv h
 obtain⟨p,xs,k,j,rfl,rfl,hp,hj,q⟩:=h
 cases ro
 obtain⟨t,rfl⟩:=ri
 obtain⟨its,n,r,ho,hz⟩:=I.lst hp
 obtain⟨h1,h2,h3,h4⟩:=zkm hj
 have hl:=r.length
 have hn:=zdM
 have I':Inv X pins σ (upd H p (.lst (xs.set j v))) {s with heap:=s.heap.update p (Obj.mapSeq (·.setIfInBounds j u))}:=
  I.lstUpd hp ho (ziT its n j u) (r.set rv j) (by rw[List.length_set];exact hz) s.toks
 by_cases h0:0<=k
 ·have hk:k.toNat=j:=by
   rw[seqIndex_of h0 h4] at h1
   exact ξh h1
  exact PySem.W.ki_setAt ho h0 (by omega) (by rw[ζu,←hl];exact h4) (by rw[hk];exact⟨_,I',q⟩)
 ·have hk:(k+(its.toArray.size:Int)).toNat=j:=by
   rw[seqIndex_neg (by omega) h3] at h1
   rw[ζu,←hl]
   exact ξh h1
  exact PySem.W.ki_setBack ho (by omega) (by rw[ζu,←hl];exact h3) (by omega) (by rw[hk];exact⟨_,I',q⟩)
theorem zhA(lo hi:Option Int)(n:Nat):(sliceBounds lo hi none n).1=((HT.sIx n 0 lo:Nat):Int)/\(sliceBounds lo hi none n).2.1=((HT.sIx n n hi:Nat):Int)/\(sliceBounds lo hi none n).2.2=1:=by
 refine⟨?_,?_,rfl⟩
 ·cases lo with
  |none=>simp[sliceBounds,HT.sIx]
  |some i=>
   simp only[sliceBounds,HT.sIx,Option.getD_none,show(1:Int)>0 by decide,if_true]
   by_cases h:i<0
   ·simp only[h,if_true]<;>omega
   ·simp only[h,if_false]<;>omega
 ·cases hi with
  |none=>simp[sliceBounds,HT.sIx]
  |some i=>
   simp only[sliceBounds,HT.sIx,Option.getD_none,show(1:Int)>0 by decide,if_true]
   by_cases h:i<0
   ·simp only[h,if_true]<;>omega
   ·simp only[h,if_false]<;>omega
theorem zf1(its:List Value)(lo hi:Option Int):slicePick its.toArray lo hi none=((its.drop (HT.sIx its.length 0 lo)).take (HT.sIx its.length its.length hi -HT.sIx its.length 0 lo)).toArray:=by
 obtain⟨h1,h2,h3⟩:=zhA lo hi its.toArray.size
 unfold slicePick
 rw[h1,h2,h3]
 simp only[sliceRange_one,pick_run,ζu]<;>rfl
def zsc(K:ξk):V->Option Int->Option Int->Hp->VK->Prop:=λx lo hi H Q=>∃a xs,x= .ref a/\SqL K H a xs/\∀p,H p=none->Q (.ref p) (upd H p (.lst (zbB xs lo hi)))
theorem zgW:SlR X (zsc X.K):=by
 intro pins s σ H x v vl vu lo hi sl Q I rx hs pl pu h
 obtain⟨a,xs,rfl,hx,q⟩:=h
 cases rx
 obtain⟨its,r,ht,hz⟩:=I.list hx
 have hlen:=r.length
 refine⟨"list",_,slot_list_getitem.lookup,ht.isList.typeIs,?_⟩
 refine wpAny_getItem_list_slice ht.isList hs pl pu .none (by simp) ?_ (by rw[ζu]<;>omega)
 rw[zf1,←hlen]
 refine⟨.ref s.heap.objs.size,_,I.laid (t':=s.toks) (o:= .lst (zbB xs lo hi)) (λb ob q=>ζc _ q) (ζt _) ?_,rfl,q _ (I.hok.fresh (ζt _))⟩
 exact⟨ξa (zeU xs lo hi) hz,_,0,(r.drop (HT.sIx xs.length 0 lo)).take (HT.sIx xs.length xs.length hi -HT.sIx xs.length 0 lo),ζj _ rfl⟩
noncomputable def zei:V->Bool
 | .non=>true
 | .bl _=>true
 | .int _=>true
 | .str _=>true
 |_=>false
noncomputable def eqV:V->V->Bool
 | .non, .non=>true
 | .bl a, .bl b=>a==b
 | .bl a, .int b=>(if a then 1 else 0)==b
 | .int a, .bl b=>a==(if b then 1 else 0)
 | .int a, .int b=>a==b
 | .str a, .str b=>a==b
 |_,_=>false
theorem zql{A:Around}{s:Shared}{y x:V}{u v:Value}(ry:RelV y u)(rx:RelV x v)(fy:zei y=true)(fx:zei x=true):SeqAt.EqAt A s u v (eqV y x):=by
 cases y with
 |non=>
  cases ry
  cases x with
  |non=>cases rx;exact SeqAt.EqAt.same _
  |bl b=>cases rx;exact SeqAt.EqAt.none_bool b
  |int b=>obtain ⟨t,rfl⟩:=rx;exact SeqAt.EqAt.none_int b t
  |str b=>obtain ⟨t,rfl⟩:=rx;exact SeqAt.EqAt.none_str b t
  |_=>exact absurd (show false=true from fx) ξe
 |bl a=>
  cases ry
  cases x with
  |non=>cases rx;exact SeqAt.EqAt.bool_none a
  |bl b=>cases rx;exact SeqAt.EqAt.bool_bool a b
  |int b=>obtain ⟨t,rfl⟩:=rx;exact SeqAt.EqAt.bool_int a b t
  |str b=>obtain ⟨t,rfl⟩:=rx;exact SeqAt.EqAt.bool_str a b t
  |_=>exact absurd (show false=true from fx) ξe
 |int a=>
  obtain⟨t',rfl⟩:=ry
  cases x with
  |non=>cases rx;exact SeqAt.EqAt.int_none a t'
  |bl b=>cases rx;exact SeqAt.EqAt.int_bool a t' b
  |int b=>obtain ⟨t,rfl⟩:=rx;exact SeqAt.EqAt.int_int a t' b t
  |str b=>obtain ⟨t,rfl⟩:=rx;exact SeqAt.EqAt.int_str a t' b t
  |_=>exact absurd (show false=true from fx) ξe
 |str a=>
  obtain⟨t',rfl⟩:=ry
  cases x with
  |non=>cases rx;exact SeqAt.EqAt.str_none a t'
  |bl b=>cases rx;exact SeqAt.EqAt.str_bool a t' b
  |int b=>obtain ⟨t,rfl⟩:=rx;exact SeqAt.EqAt.str_int a t' b t
  |str b=>obtain ⟨t,rfl⟩:=rx;exact SeqAt.EqAt.str_str a t' b t
  |_=>exact absurd (show false=true from fx) ξe
 |_=>exact absurd (show false=true from fy) ξe
noncomputable def eqU(x:V)(u:Value):Bool:=match u with
 | .none=>eqV .non x
 | .bool b=>eqV (.bl b) x
 | .int i _=>eqV (.int i) x
 | .str z _=>eqV (.str z) x
 |_=>false
theorem znl{x y:V}{u:Value}(r:RelV y u)(f:zei y=true):eqU x u=eqV y x:=by
 cases y with
 |non=>cases r;rfl
 |bl b=>cases r;rfl
 |int i=>obtain ⟨t,rfl⟩:=r;rfl
 |str z=>obtain ⟨t,rfl⟩:=r;rfl
 |_=>exact absurd (show false=true from f) ξe
theorem zhd{x:V}:∀{xs:List V} {us:List Value},Vals xs us->xs.all zei=true->us.any (eqU x)=xs.any λy=>eqV y x
 |_,_, .nil,_=>rfl
 |y::xs,u::us, .cons r t,f=>by
  rw[List.all_cons,ζs] at f
  rw[List.any_cons,List.any_cons,znl r f.1,zhd t f.2]
theorem zfE{A:Around}{s:Shared}{x:V}{v:Value}(rx:RelV x v)(fx:zei x=true):∀{xs:List V} {us:List Value},Vals xs us->xs.all zei=true->∀u∈us,SeqAt.EqAt A s u v (eqU x u)
 |_,_, .nil,_=>λu hu=>by cases hu
 |y::xs,u::us, .cons r t,f=>λu' hu=>by
  rw[List.all_cons,ζs] at f
  rcases List.mem_cons.mp hu with rfl|hu
  ·rw[znl r f.1];exact zql r rx f.1 fx
  ·exact zfE rx fx t f.2 u' hu
noncomputable def inV(x:V)(xs:List V):Bool:=xs.any λy=>eqV y x
noncomputable def rIn(K:ξk)(neg:Bool):R2:=λx y H Q=>∃p xs,y= .ref p/\(SqL K H p xs\/SqT K H p xs)/\zei x=true/\xs.all zei=true/\Q (.bl (if neg then !inV x xs else inV x xs)) H
theorem zcv:OpR X (compareOp .In) (rIn X.K false):=by
 intro pins s σ H x y v u Q I rx ry h
 obtain⟨p,xs,rfl,hq,fx,fs,q⟩:=h
 cases ry
 rcases hq with hq|hq
 ·obtain ⟨its,r,pl,hz⟩:=I.list hq
  refine SeqAt.in_listAt (eqU x) pl.isList (λw hw=>zfE rx fx r fs w (by simpa using hw)) ⟨.bl _,H,I,rfl,?_⟩
  rw[show its.toArray.any (eqU x)=its.any (eqU x) by simp,zhd r fs]
  exact q
 ·obtain ⟨its,r,pl,hz⟩:=I.tuple hq
  refine SeqAt.in_tupleAt (eqU x) pl (λw hw=>zfE rx fx r fs w (by simpa using hw)) ⟨.bl _,H,I,rfl,?_⟩
  rw[show its.toArray.any (eqU x)=its.any (eqU x) by simp,zhd r fs]
  exact q
theorem call_len_seq:CallR X (.builtin "len") (λxs H Q=>∃p ys,xs=[.ref p]/\(SqL X.K H p ys\/SqT X.K H p ys)/\Q (.int ys.length) H):=by
 intro pins s σ H xs us Q I r h
 obtain⟨p,ys,rfl,hq,q⟩:=h
 obtain⟨u,rfl,rx⟩:=zbG r
 cases rx
 have hn:=zdM
 rcases hq with hq|hq
 ·obtain ⟨its,r',pl,hz⟩:=I.list hq
  have hlen:=r'.length
  exact Calls.call_len_list pl.isList (by simp only[ζu]<;>omega) ⟨.int ys.length,H,I.tok _,⟨s.toks+1,by rw[ζu,hlen]⟩,q⟩
 ·obtain ⟨its,r',pl,hz⟩:=I.tuple hq
  have hlen:=r'.length
  exact len_tuple pl (by simp only[ζu]<;>omega) ⟨.int ys.length,H,I.tok _,⟨s.toks+1,by rw[ζu,hlen]⟩,q⟩
theorem zhw:CallR X (.builtin "len") (λxs H Q=>∃z,xs=[.str z]/\z.length<=sizeLine/\Q (.int z.length) H):=by
 intro pins s σ H xs us Q I r h
 obtain⟨z,rfl,hz,q⟩:=h
 obtain⟨u,rfl,t,rfl⟩:=zbG r
 have hn:=zdM
 exact len_str (by omega) ⟨.int z.length,H,I.tok _,⟨_,rfl⟩,q⟩
theorem CallR.or{f:Value}{r r':List V->Hp->VK->Prop}(h:CallR X f r)(h':CallR X f r'):CallR X f (λxs H Q=>r xs H Q\/r' xs H Q):=by
 intro pins s σ H xs us Q I rs q
 rcases q with q|q
 ·exact h pins s σ H xs us Q I rs q
 ·exact h' pins s σ H xs us Q I rs q
theorem zg3:CallR X (.type "list") (λxs H Q=>∃p ys,xs=[.ref p]/\(SqL X.K H p ys\/SqT X.K H p ys)/\∀l,H l=none->Q (.ref l) (upd H l (.lst ys))):=by
 intro pins s σ H xs us Q I r h
 obtain⟨p,ys,rfl,hq,q⟩:=h
 obtain⟨u,rfl,rx⟩:=zbG r
 cases rx
 have fin:∀(its:List Value),Vals ys its->ys.length<=sizeLine->∀(h':Heap) (c':Nat),(∀b o',s.heap.get? b=some o'->h'.get? b=some o')->
  h'.get? s.heap.objs.size=some {cls:= .type "list",dict:=none,data:= .seq its.toArray c',slots:= #[]}->EP X pins σ Q (.ref s.heap.objs.size) {s with heap:=h'}:=λits r' hz h' c' kp e=>
  ⟨.ref s.heap.objs.size,_,I.laid (t':=s.toks) kp (ζt _) (show ObjOk X.prog X.w _ h' _ (.lst ys)from⟨hz,its,c',r',e⟩),rfl,q _ (I.hok.fresh (ζt _))⟩
 rcases hq with hq|hq
 ·obtain ⟨its,r',pl,hz⟩:=I.list hq
  have hlen:=r'.length
  obtain⟨o,ho,hc,n,hd⟩:=pl.isList
  exact call_list_seq p (.inl rfl) ho hc hd (λh' c' kp e=>fin its r' hz h' c' kp e) (by simp only[ζu]<;>omega)
 ·obtain ⟨its,r',pl,hz⟩:=I.tuple hq
  have hlen:=r'.length
  obtain⟨o,ho,hc,n,hd⟩:=pl
  exact call_list_seq p (.inr rfl) ho hc hd (λh' c' kp e=>fin its r' hz h' c' kp e) (by simp only[ζu]<;>omega)
theorem zF:CallR X (.type "tuple") (λxs H Q=>∃p ys,xs=[.ref p]/\((SqL X.K H p ys/\∀l,H l=none->Q (.ref l) (upd H l (.tup ys)))\/(SqT X.K H p ys/\Q (.ref p) H))):=by
 intro pins s σ H xs us Q I r h
 obtain⟨p,ys,rfl,h⟩:=h
 obtain⟨u,rfl,rx⟩:=zbG r
 cases rx
 rcases h with⟨hq,q⟩|⟨hq,q⟩
 ·obtain ⟨its,r',pl,hz⟩:=I.list hq
  have hlen:=r'.length
  refine call_tuple_list pl.isList (λh' kp=>?_) (by simp only[ζu]<;>omega)
  have I1:Inv X pins σ H {s with heap:=h'}:=I.kept (t':=s.toks) kp
  have I2:Inv X pins σ (upd H h'.objs.size (.tup ys)) {s with heap:=h'.push {cls:= .type "tuple",data:= .seq its.toArray}}:=
   I1.laid (t':=s.toks) (λb o e=>ζc _ e) (ζt _) (show ObjOk X.prog X.w _ _ _ (.tup ys)from⟨hz,its,r',IsTup.new _ _,NoDict.new rfl (ζj _ rfl)⟩)
  exact⟨.ref h'.objs.size,_,I2,rfl,q _ (I1.hok.fresh (ζt _))⟩
 ·obtain ⟨its,r',pl,hz⟩:=I.tuple hq
  exact call_tuple_same pl ⟨.ref p,H,I,rfl,q⟩
def tyV(K:ξk)(T:String)(x:V)(H:Hp):Prop:=match x with
 | .str _=>T="str"
 | .int _=>T="int"
 | .ref p=>(T="list"/\∃xs,SqL K H p xs)\/(T="tuple"/\∃o,K.lookup p=some o/\o.cls= .type "tuple"/\o.dict=none)\/
    (T="dict"/\((∃kvs,H p=some (.dK kvs))\/∃kvs,H p=some (.dT kvs)))\/(T="set"/\∃S n,H p=some (.set S n))\/(T="tuple"/\∃xs,H p=some (.tup xs))
 |_=>False
theorem zmW{pins:List (Addr×Obj)}{σ:St}{H:Hp}{s:Shared}{T:String}{x:V}{v:Value}(I:Inv X pins σ H s)(r:RelV x v)(ty:tyV X.K T x H):
 s.TypeIs v T/\∀a,v= .ref a->∃ob,s.heap.get? a=some ob/\ob.dict=none:=by
 cases x with
 |str z=>
  obtain⟨t,rfl⟩:=r
  cases(show T="str"from ty)
  exact⟨typeIs_str s z t,λ_ e=>nomatch e⟩
 |int i=>
  obtain⟨t,rfl⟩:=r
  cases(show T="int"from ty)
  exact⟨typeIs_int s i t,λ_ e=>nomatch e⟩
 |ref p=>
  cases r
  rcases ty with⟨rfl,xs,hq⟩|⟨rfl,o,hk,hc,hd⟩|⟨rfl,hk⟩|⟨rfl,S,n,hk⟩|⟨rfl,xs,hk⟩
  ·obtain ⟨its,_,pl,_⟩:=I.list hq
   refine⟨pl.isList.typeIs,λa e=>?_⟩
   cases e
   obtain⟨o,n,e,c,hd,_⟩:=pl
   exact⟨o,e,hd⟩
  ·refine ⟨⟨o,I.kIn p o hk,hc⟩,λa e=>?_⟩
   cases e
   exact⟨o,I.kIn _ o hk,hd⟩
  ·have z:∃o,s.heap.get? p=some o/\o.ExactDict:=by
    rcases hk with⟨kvs,hk⟩|⟨kvs,hk⟩
    ·obtain ⟨_,_,_,_,o,_,_,e,ex,_⟩:=I.hok p _ hk
     exact⟨o,e,ex⟩
    ·obtain ⟨_,_,_,_,o,_,_,e,ex,_⟩:=I.hok p _ hk
     exact⟨o,e,ex⟩
   obtain⟨o,e,ex⟩:=z
   refine⟨⟨o,e,ex.1⟩,λa e2=>?_⟩
   cases e2
   exact⟨o,e,ex.2.1⟩
  ·obtain ⟨o,_,_,_,e,ex,_⟩:=I.hok p _ hk
   refine⟨⟨o,e,ex.1⟩,λa e2=>?_⟩
   cases e2
   exact⟨o,e,ex.2.1⟩
  ·obtain ⟨_,_,_,⟨o,e,c,_⟩,nd⟩:=I.hok p _ hk
   refine⟨⟨o,e,c⟩,λa e2=>?_⟩
   cases e2
   exact⟨o,e,nd o e⟩
 |_=>exact False.elim ty
def zry(K:ξk)(T:String)(r:V->List V->Hp->VK->Prop)(to:TE):TE:=λσ H Q=>to σ H λx H1=>tyV K T x H1/\r x [] H1 Q
def tBM(K:ξk)(T:String)(r:V->List V->Hp->VK->Prop)(to:TE)(t:TA):TE:=λσ H Q=>to σ H λx H1=>tyV K T x H1/\t σ H1 λxs H2=>r x xs H2 Q
variable{o e:Expr}{es:List Expr}{to:TE}{t:TA}{name:Str}{apos cpos:Pos}{T id:String}{r:V->List V->Hp->VK->Prop}
theorem zp3(pa:PlainAttrs T)(slot:Slot T name id)(hty:typeOf (.builtin id)=pure (.type "method_descriptor"))(hm:MtR X id r)(ho:PE X o to)
 (hbase:attributeBase o name X.env (eval o X.env)=eval o X.env:=by rfl) (hline:(apos.endLine==cpos.line)=true:=by rfl):PE X (.Call (.Attribute o name apos) [] [] cpos) (zry X.K T r to):=by
 intro pins s σ H Q I h
 refine wpAny_Call_method0_late hbase hline (thn (ho pins s σ H _ I h) λv s1 ⟨x,H1,I1,r1,ty,q1⟩=>?_)
 obtain⟨h1,h2⟩:=zmW I1 r1 ty
 exact⟨T,id,pa,slot,hty,h1,h2,Calls.callWith_builtin rfl (PySem.evalArgs_none (hm pins s1 σ H1 x [] v [] Q I1 r1 .nil q1))⟩
theorem zrB(pa:PlainAttrs T)(slot:Slot T name id)(hty:typeOf (.builtin id)=pure (.type "method_descriptor"))(hm:MtR X id r)(ho:PE X o to)(ha:PA X (e::es) t)
 (hbase:attributeBase o name X.env (eval o X.env)=eval o X.env:=by rfl)
 (hfew:((backTo cpos (starEach (e::es) X.env)).all (λx=>!x.1)&&(backToKw cpos (keywordEach [] X.env)).all (λx=>x.1.isSome)
   &&decide ((e::es).length+([]:List Keyword).length+(if([]:List Keyword).isEmpty then 0 else 1)<30))=true:=by rfl)
 (hline:(apos.endLine==cpos.line)=true:=by rfl) (hs:starEach (e::es) X.env=(false,eval e X.env)::starEach es X.env:=by rfl) (hplain:(backTo cpos (starEach es X.env)).any (·.1)=false:=by rfl):
 PE X (.Call (.Attribute o name apos) (e::es) [] cpos) (tBM X.K T r to t):=by
 intro pins s σ H Q I h
 refine wpAny_Call_method_late hbase hfew hline rfl (thn (ho pins s σ H _ I h) λv s1 ⟨x,H1,I1,r1,ty,q1⟩=>?_)
 obtain⟨h1,h2⟩:=zmW I1 r1 ty
 refine⟨T,id,pa,slot,hty,h1,h2,?_⟩
 have hA:=ha cpos pins s1 σ H1 _ I1 q1
 rw[hs] at hA⊢
 refine Calls.callWith_builtin (by show(false||(backTo cpos (starEach es X.env)).any (·.1))=false;rw[hplain]<;>rfl) (Calls.evalArgs_plain ?_)
 exact thn hA λus s2 ⟨vs,H2,I2,r2,q2⟩=>hm pins s2 σ H2 x vs v us Q I2 r1 r2 q2
end
def MtM(X:Cx)(id:String)(r:V->List V->Hp->VK->Prop):Prop:=
 ∀(pins:List (Addr×Obj)) (s:Shared) (σ:St) (H:Hp) (x:V) (xs:List V) (v:Value) (us:List Value) (Q:VK),Inv X pins σ H s->RelV x v->Vals xs us->r x xs H Q->
  wpAny (model X.prog X.w) X.A (call (.builtin id) (v::us)) (EP X pins σ Q) X.xe s
theorem Vals.one:∀{x:V} {us:List Value},Vals [x] us->∃u,us=[u]/\RelV x u
 |_,_, .cons r .nil=>⟨_,rfl,r⟩
theorem Vals.two:∀{x y:V} {us:List Value},Vals [x,y] us->∃u v,us=[u,v]/\RelV x u/\RelV y v
 |_,_,_, .cons r (.cons q .nil)=>⟨_,_,rfl,r,q⟩
section
variable{X:Cx}{pins:List (Addr×Obj)}{σ:St}{H:Hp}{s:Shared}{l b:Addr}{xs ys zs:List V}
theorem Inv.lset{its its':List Value}{n:Nat}{f:Array Value->Array Value}{t':Nat}(I:Inv X pins σ H s)(hH:H l=some (.lst xs))
 (e:s.heap.get? l=some {cls:= .type "list",data:= .seq its.toArray n}) (hf:f its.toArray=its'.toArray) (hv:Vals ys its') (hz:ys.length<=sizeLine):
 Inv X pins σ (upd H l (.lst ys)) {s with heap:=s.heap.update l (Obj.mapSeq f),toks:=t'}:=by
 have q:=PySem.IsL.update e f
 rw[hf] at q
 refine I.write (x:=l) (e:=l) (by rw[hH];exact trivial) (.inl rfl) (λb' u hb hu=>(Heap.get?_update_other s.heap (Obj.mapSeq f) (Ne.symm hb)).trans hu) ⟨_,q⟩ ?_
 exact⟨hz,its',_,hv,q⟩
theorem Inv.lnew{its:List Value}{t':Nat}(I:Inv X pins σ H s)(hv:Vals ys its)(hz:ys.length<=sizeLine):
 Inv X pins σ (upd H s.heap.objs.size (.lst ys)) {s with heap:=s.heap.push {cls:= .type "list",data:= .seq its.toArray},toks:=t'}:=
 I.laid (λ_ _ q=>ζc _ q) (ζt _) ⟨hz,its,0,hv,ζj _ rfl⟩
theorem Inv.fresh(I:Inv X pins σ H s):H s.heap.objs.size=none:=I.hok.fresh (ζt _)
theorem Inv.lstM(I:Inv X pins σ H s)(hH:H l=some (.lst xs)):xs.length<=sizeLine/\∃(its:List Value) (n:Nat),Vals xs its/\xs.length=its.length/\s.heap.get? l=some {cls:= .type "list",data:= .seq its.toArray n}:=by
 obtain⟨z,its,n,r,e⟩:=I.hok l _ hH
 exact⟨z,its,n,r,r.length,e⟩
theorem zlT{n:Nat}(h:n<=sizeLine):Builtin.List.listTooLong n=false:=by
 unfold Builtin.List.listTooLong
 exact ζn (by omega)
end
section
variable{X:Cx}
def zoM:V->List V->Hp->VK->Prop:=λx vs H Q=>∃l xs y,x= .ref l/\vs=[y]/\H l=some (.lst xs)/\xs.length<sizeLine/\Q .non (upd H l (.lst (xs ++ [y])))
theorem zan:MtM X "list.append" zoM:=by
 intro pins s σ H x vs v us Q I rx rv h
 obtain⟨l,xs,y,rfl,rfl,hH,hz,q⟩:=h
 cases rx
 obtain⟨u,rfl,ru⟩:=rv.one
 obtain⟨z,its,n,r,hl,e⟩:=I.lstM hH
 refine call_meets F.slot_list_append ⟨_,e,rfl⟩ F.entry_list_append (F.args_list_append_2 _ _) (PySem.list_append l its.toArray n u (by rw[ζu];omega)) ⟨e,?_⟩
 refine⟨.non,_,I.lset (its':=its ++ [u]) hH e (by simp) (r.append (.cons ru .nil)) ?_,rfl,q⟩
 rw[ζe,List.length_singleton]
 omega
def zoq:V->List V->Hp->VK->Prop:=λx vs H Q=>∃l b xs zs,x= .ref l/\vs=[.ref b]/\H l=some (.lst xs)/\H b=some (.lst zs)/\xs.length+zs.length<=sizeLine/\Q .non (upd H l (.lst (xs ++zs)))
theorem zgB:MtM X "list.extend" zoq:=by
 intro pins s σ H x vs v us Q I rx rv h
 obtain⟨l,b,xs,zs,rfl,rfl,hH,hB,hz,q⟩:=h
 cases rx
 obtain⟨u,rfl,ru⟩:=rv.one
 cases ru
 obtain⟨z,its,n,r,hl,e⟩:=I.lstM hH
 obtain⟨z2,its2,n2,r2,hl2,e2⟩:=I.lstM hB
 have hsz:its.toArray.size+its2.toArray.size<=sizeLine:=by rw[ζu,ζu];omega
 have hlong:¬(!its.toArray.isEmpty&&Builtin.List.listTooLong (its.toArray.size+its2.toArray.size))=true:=by
  rw[zlT hsz,Bool.and_false]
  exact ξe
 refine call_meets F.slot_list_extend ⟨_,e,rfl⟩ F.entry_list_extend (F.args_list_extend_2 _ _)
  (AutoSeq1.list_extend_list_list_0 l its.toArray n b its2.toArray n2 hlong (by rw[ζu];omega) (by omega)) ⟨e,e2,?_⟩
 refine⟨.non,_,I.lset (its':=its ++its2) hH e (by simp) (r.append r2) ?_,rfl,q⟩
 rw[ζe]
 omega
noncomputable def zsh:R2:=λx y H Q=>∃l b xs zs,x= .ref l/\y= .ref b/\H l=some (.lst xs)/\H b=some (.lst zs)/\xs.length+zs.length<=sizeLine/\∀p,H p=none->Q (.ref p) (upd H p (.lst (xs ++zs)))
theorem zjw:OpR X (binaryOp .Add) zsh:=by
 intro pins s σ H x y v u Q I rx ry h
 obtain⟨l,b,xs,zs,rfl,rfl,hH,hB,hz,q⟩:=h
 cases rx
 cases ry
 obtain⟨z,its,n,r,hl,e⟩:=I.lstM hH
 obtain⟨z2,its2,n2,r2,hl2,e2⟩:=I.lstM hB
 refine PySem.P.add_list e e2 ?_ (by rw[ζu,ζu];omega)
 have ea:its.toArray ++its2.toArray=(its ++its2).toArray:=by simp
 rw[ea]
 exact⟨.ref _,_,I.lnew (t':=s.toks) (r.append r2) (by rw[ζe];omega),rfl,q _ I.fresh⟩
end
section
variable{prog:Program}{w:World}{A:Around}{E:Value->Shared->Prop}{s:Shared}
set_option maxRecDepth 100000 in
end
section
variable{X:Cx}
end
end L2
namespace Att
open PySem PySem.W PySem.Calls PyProof.Rows
theorem ze3{P:Params}{h:Heap}:∀(ns:List Int) (vs:List Value),WellAll P h vs (ns.map WData.int)->IntsAre vs ns:=by
 intro ns
 induction ns with
 |nil=>
  intro vs w
  rw[List.map_nil] at w
  cases w
  exact .nil
 |cons n ns ih=>
  intro vs w
  rw[ξt] at w
  cases w with
  |cons a b=>
   cases a
   exact .cons _ _ (ih _ b)
theorem zkN{l:OpenLaw}{n:Nat}(hn:l.most=some n){P:Params}{h:Heap}{args:List WData}{vals:List Value}
 (hpre:l.row.toRowW.claim.pre args=true) (hwl:WellAll P h vals args):
 ∃a vs ns,vals=[Value.ref a]/\args=[WData.list (ns.map WData.int)]/\h.get? a=some {cls:= .type "list",data:= .seq vs.toArray}/\IntsAre vs ns/\ns.length<=n:=by
 have hsh:WShape.hasAll [] args [.list .int]=true:=(pre_splitW hpre).1
 have hc:l.pre.holds [] {args:=args}=true:=(pre_splitW hpre).2
 obtain⟨d,r,rfl,h1,h2⟩:=hasAllW_cons hsh
 obtain rfl:=hasAllW_nil h2
 obtain⟨xs,rfl,h3⟩:=hasW_list h1
 obtain⟨ns,rfl⟩:=items_int h3
 have hlen:ns.length<=n:=by
  unfold OpenLaw.pre at hc
  have h4:(WTm.not (.lt (.lit (.int (n:Int))) (.len (.arg 0)))).holds [] {args:=[.list (ns.map .int)]}=true:=by
   have h4:=(holds_andW hc).1
   rw[hn] at h4
   exact h4
  have h5:=condW_of h4 (w_not (w_lt w_lit (w_len_list (w_arg rfl))))
  rw[ζa] at h5
  refine Nat.le_of_not_lt λq=>?_
  have q':(n:Int)<((ns.length:Nat):Int):=by omega
  first
   |(rw[ζf q'] at h5;exact absurd h5 (by decide))
   |(simp at h5;omega)
 cases hwl with
 |cons w1 w2=>
  cases w2
  cases w1 with
  |list ho hall=>exact ⟨_,_,ns,rfl,rfl,ho,ze3 ns _ hall,hlen⟩
theorem zk2(l:OpenLaw)(args:List WData):l.row.toRowW.claim.post args (.bool true) args=true:=
 postW_of (r:=l.row.toRowW) (X:=(true==true))
  (show WShape.has [] (.bool true) .bool=true by first|rfl|decide|simp[WShape.has,WShape.arms,WShape.armsAll])
  (show(WTm.eq .res (.lit (.bool true))).value [] {args:=args,res:=some (.bool true),after:=args}=some (.bool (true==true))from w_eq_bool (w_res rfl) w_lit) rfl
theorem attach_call{l:OpenLaw}{n:Nat}{q:Program}{loose:List Str}{XP:(Str->Option Value)->Heap->Prop}{YP:World->Heap->Prop}{d:DefRec}
 (hn:l.most=some n) (hdf:d.params.defaults=[])
 (call:∀(w:World) (s₀ s₁:Shared) (mg mb:Str->Option Value) (fa:Addr) (o:Obj) (pm cd doc:Value) (a:Addr) (vs:List Value) (ns:List Int),
   Ground q loose [] XP w s₀ mg mb s₁.heap->YP w s₁.heap->
   s₁.heap.get? fa=some o->o.data= .func (docDef d.name d.params d.body d.scope pm cd doc)->s₁.heap.CodeRec cd d.name->mg d.name=some (.ref fa)->
   s₁.heap.get? a=some {cls:= .type "list",data:= .seq vs.toArray}->IntsAre vs ns->ns.length<=n->s₁.gens= #[]->
   codeAny (model l.prog w) callerA (.call (.ref fa) ⟨[.ref a],[]⟩) (λr s'=>r= .ok (.ret (.bool true))/\OldK s₁.heap s'.heap/\s'.os=s₁.os/\AllBare s'.gens) s₁):
 WalkO q loose XP YP l.row.toRowW d [] (λf vs=>PySem.call f vs):=by
 intro w s₀ s₁ mg mb G Y fa o pm cd doc dV kV ho hd hcd hD hmg hg args vals as hpre hlay hrd hwl hlo
 obtain rfl:dV= .none:=Dflts.none hD hdf
 obtain rfl:kV= .none:=Dflts.noKw hD
 obtain⟨a,vs,ns,rfl,rfl,hobj,hints,hlen⟩:=zkN hn hpre hwl
 refine enter_call (codeAny_mono (call w s₀ s₁ mg mb fa o pm cd doc a vs ns G Y ho (fd_plain hd) hcd hmg hobj hints hlen hg) λr s' hq=>?_)
 obtain⟨rfl,h2,h3,h4⟩:=hq
 exact⟨.inl ⟨.bool true, .bool true,[],rfl,λ_=>rfl, .bool true,zk2 l _,λ_=>⟨List.Pairwise.nil,λ_ hm=>(nomatch hm)⟩⟩,h2,h3,h4⟩
section
variable{prog:Program}{w:World}{A:Around}{E:Value->Shared->Prop}{s:Shared}{K:Frag}
end
end Att
namespace L2
open PySem PySem.Spec PyProof.Rows
theorem zgI:∀{vs:List Value} {ns:List Int},IntsAre vs ns->Vals (ns.map V.int) vs
 |_,_, .nil=> .nil
 |_,_, .cons n t h=> .cons ⟨t,rfl⟩ (zgI h)
def zq9(H:Hp):Prop:=∀b,H b=none\/∃o xs,H b=some (.frz o (.lst xs))
theorem zmD{P:Program}{w:World}{K:ξk}{mg mb:Str->Option Value}{CX:CXT}{k:Nat}{fa a:Addr}{fd:FuncData}{x:Str}{sp:Sp}{s₁:Shared}{vs:List Value}{ns:List Int}
 (KX:K.In s₁.heap) (hns:s₁.heap.Ns mainGlobals mg) (hb:s₁.heap.Ns builtinsNs mb) (hbb:∀x:Str,x≠"__name__"->mb x=bootBuiltins x) (hlim:s₁.heap.NoLimit) (hg:s₁.gens= #[])
 (ha:s₁.heap.get? a=some {cls:= .type "list",data:= .seq vs.toArray}) (hi:IntsAre vs ns) (hl:ns.length<=sizeLine) (hr:Room k callerA)
 (F:∀base:Heap,K.In base->base.Ns mainGlobals mg->FnOk P w K mg base CX k fa fd [x] sp) (hbind:∀(s:Shared) (u:Value),BindsTo s fd ⟨[u],[]⟩ [(x,u)])
 (hsp:∀H:Hp,zq9 H->SqL K H a (ns.map V.int)->sp [.ref a] H (λv _=>v= .bl true) λ_ _ _=>False)
 (hCX:∀H e s',CX [] H s₁ (λ_ _ _=>False) e s'->False):
 codeAny (model P w) callerA (.call (.ref fa) ⟨[.ref a],[]⟩) (λr s'=>r= .ok (.ret (.bool true))/\OldK s₁.heap s'.heap/\s'.os=s₁.os/\AllBare s'.gens) s₁:=by
 have rv:=zgI hi
 have lenV:=hi.length
 have core:∀H:Hp,zq9 H->SqL K H a (ns.map V.int)->HOk P w H s₁.heap->(∀b,H b≠none->b=a)->(H a≠none->K.lookup a=none)->
  codeAny (model P w) callerA (.call (.ref fa) ⟨[.ref a],[]⟩) (λr s'=>r= .ok (.ret (.bool true))/\OldK s₁.heap s'.heap/\s'.os=s₁.os/\AllBare s'.gens) s₁:=by
  intro H hO hS hok hA hK
  have base_of:∀{b:Addr} {o:Obj},s₁.heap.get? b=some o->H b=none->(zhB s₁.heap H).get? b=some o:=λe n=>zmP e n
  have noA:∀{b:Addr} {o:Obj} {es:Array DictEntry} {ep:Nat},s₁.heap.get? b=some o->o.data= .dict es ep->H b=none:=λ{b o es ep} e d=>by
   cases q:H b with
   |none=>rfl
   |some u=>
    have e':b=a:=hA b (by rw[q];simp)
    subst e'
    rw[ha] at e;cases e
    have d':Data.seq vs.toArray _=Data.dict es ep:=d
    cases d'
  have nsK:∀{b:Addr} {m:Str->Option Value},s₁.heap.Ns b m->(zhB s₁.heap H).Ns b m:=λ{b m} ⟨o,es,ep,e,d,r⟩=>⟨o,es,ep,base_of e (noA e d),d,r⟩
  have hKb:K.In (zhB s₁.heap H):=λb o e=>base_of (KX b o e) (by
   cases q:H b with
   |none=>rfl
   |some u=>
    have e':b=a:=hA b (by rw[q];simp)
    subst e'
    rw[hK (by rw[q];simp)] at e;cases e)
  have hM:Mod K mg (zhB s₁.heap H):=⟨hKb,nsK hns,⟨mb,nsK hb,hbb⟩,let⟨mc,h1,h2⟩:=hlim;⟨mc,nsK h1,h2⟩⟩
  have e0:Env0 P w K mg (zhB s₁.heap H) callerA [] s₁ H:=⟨rfl,hM,λb o e=>zpe e,Nat.le_of_eq (zly _ _),trivial,λb hb=>absurd (show b∈([]:List Addr)from hb) (by simp),hok, .of_eq hg⟩
  refine codeAny_mono ((F _ hKb (nsK hns)).run callerA [] s₁ H ⟨[.ref a],[]⟩ [.ref a] [.ref a] _ _ hr e0 (hbind s₁ (.ref a)) (.cons rfl .nil) (hsp H hO hS)) λr s' h=>?_
  cases r with
  |error e=>exact (hCX H e s' h).elim
  |ok fl=>
   cases fl with
   |next=>exact False.elim h
   |brk=>exact False.elim h
   |cont=>exact False.elim h
   |ret u=>
    obtain⟨v,H',os,bare,un,hok',r',q⟩:=h
    have q':v= .bl true:=q
    subst q'
    obtain rfl:u=Value.bool true:=r'
    refine⟨rfl,OldK.of_keep λb o e=>?_,os,bare⟩
    cases q:H b with
    |none=>exact un.keep b o e q (by intro z;exact absurd (show b∈([]:List Addr)from z) (by simp)) (by simp)
    |some u=>
     rcases hO b with z|⟨ob,xs,z⟩
     ·rw[q] at z;cases z
     ·have z2:=un.frzs b ob _ z
      obtain⟨e1,_⟩:=hok b _ z
      obtain⟨e2,_⟩:=hok' b _ z2
      rw[e] at e1;cases e1
      exact e2
 cases hk:K.lookup a with
 |some o=>
  have e:=KX a o hk
  rw[ha] at e
  cases e
  refine core (λ_=>none) (λ_=> .inl rfl) (.inr ⟨_,vs.toArray,_,hk,rfl,rfl,rfl,by rw[ζu,lenV];exact hl,by simpa using rv⟩) (λb u z=>by have z':(none:Option HO)=some u:=z;cases z') (λb z=>absurd rfl z) λz=>absurd rfl z
 |none=>
  refine core (λb=>if b=a then some (.frz {cls:= .type "list",data:= .seq vs.toArray} (.lst (ns.map V.int)))else none) (λb=>?_) (.inl (.inr ⟨{cls:= .type "list",data:= .seq vs.toArray},if_pos rfl⟩)) (λb u z=>?_) (λb z=>?_) λ_=>hk
  ·by_cases hb:b=a
   ·exact .inr ⟨_,_,if_pos hb⟩
   ·exact .inl (if_neg hb)
  ·by_cases hb:b=a
   ·have z':=(if_pos hb).symm.trans z
    cases z'
    subst hb
    exact⟨ha,by rw[ζa];exact hl,vs,_,rv,ha⟩
   ·have z':=(if_neg hb).symm.trans z
    cases z'
  ·by_cases hb:b=a
   ·exact hb
   ·exact absurd (if_neg hb) z
theorem walk_of{l:PySem.W.OpenLaw}{n k:Nat}{q:Program}{loose:List Str}{XP:(Str->Option Value)->Heap->Prop}{YP:World->Heap->Prop}{d:DefRec}{K:Params->ξk}{CX:World->CXT}{sp:World->Sp}{x:Str}
 (hn:l.most=some n) (hn2:n<=sizeLine) (hdf:d.params.defaults=[]) (hr:Room k callerA)
 (hY:∀(w:World) (h:Heap),YP w h->(K w.params).In h)
 (F:∀(w:World) (mg:Str->Option Value) (fa:Addr) (h:Heap),(K w.params).In h->h.Ns mainGlobals mg->mg d.name=some (.ref fa)->
   ∃fd:FuncData,(∀(s:Shared) (u:Value),BindsTo s fd ⟨[u],[]⟩ [(x,u)])/\
    ∀base:Heap,(K w.params).In base->base.Ns mainGlobals mg->FnOk l.prog w (K w.params) mg base (CX w) k fa fd [x] (sp w))
 (hsp:∀(w:World) (H:Hp) (a:Addr) (ns:List Int),ns.length<=n->zq9 H->SqL (K w.params) H a (ns.map V.int)->sp w [.ref a] H (λv _=>v= .bl true) λ_ _ _=>False)
 (hCX:∀(w:World) (H:Hp) (s:Shared) (e:Value) (s':Shared),CX w [] H s (λ_ _ _=>False) e s'->False):
 PySem.W.WalkO q loose XP YP l.row.toRowW d [] (λf vs=>PySem.call f vs):=by
 refine Att.attach_call hn hdf λw s₀ s₁ mg mb fa o pm cd doc a vs ns G Y ho hd hcd hmg hobj hints hlen hg=>?_
 have KX:=hY w _ Y
 obtain⟨fd,hb,hF⟩:=F w mg fa _ KX G.T.g hmg
 exact zmD KX G.T.g G.T.b G.T.builtins G.T.nolimit hg hobj hints (ξa hlen hn2) hr hF hb (λH hO hS=>hsp w H a ns hlen hO hS) λH e s'=>hCX w H s₁ e s'
noncomputable def zfb(s:Stmt)(j:Nat):Stmt:=match s with
 | .ClassDef _ _ _ body _ _ _ _ _ _ _=>body.getD j (.Pass ⟨0,0,0,0⟩)
 |_=> .Pass ⟨0,0,0,0⟩
noncomputable def zp(s:Stmt):Arguments:=match s with
 | .FunctionDef _ a _ _ _ _ _ _ _ _=>a
 |_=>{posonlyargs:=[],args:=[],vararg:=none,kwonlyargs:=[],kw_defaults:=[],kwarg:=none,defaults:=[]}
noncomputable def zo(s:Stmt):List Stmt:=match s with
 | .FunctionDef _ _ b _ _ _ _ _ _ _=>b
 |_=> []
noncomputable def zc(s:Stmt):Scope:=match s with
 | .FunctionDef _ _ _ _ _ _ sc _ _ _=>sc
 |_=>{kind:= .function,names:=[],isGenerator:=false,isCoroutine:=false}
noncomputable abbrev CX0:CXT:=λ_ _ _ _ _ _=>False
noncomputable abbrev E0:XK:=λ_ _ _=>False
theorem zq{X:Cx}:zcK CX0 X E0:=λ_ _ _ _ _ _ _ h=>h.elim
structure Fun(K:ξk)(x qual:Str)(st:Stmt)(f:Addr)(fd:FuncData):Prop where
 ex:∃(oc:Value) (od:Option Addr) (kV doc pm:Value) (an:Option Addr) (cdv ct:Value) (osl:Array (Option Value)),
  fd=PySem.W.fnOf x qual (zp st) (zo st) (zc st) .none kV doc pm an cdv ct/\K.lookup f=some ⟨oc,od, .func fd,osl⟩/\PySem.W.codeIn K cdv qual=true
 kp:PySem.W.keepIn K (.ref f)=true
section
variable{P:Program}{w:World}{K:ξk}{mg:Str->Option Value}{base:Heap}
theorem Fun.ok{x qual:Str}{st:Stmt}{f:Addr}{fd:FuncData}{N ps:List Str}{k:Nat}{sp:Sp}(F:Fun K x qual st f fd)(S:FnScope N ps (zc st))(len:∀vs H Q E,sp vs H Q E->vs.length=ps.length)
 (hbody:∀(cdv:Value) (A:Around) (outer:List Env) (s:Shared) (H:Hp) (vs:List V) (Q:VK) (E:XK),Room k (A.deeper (envOfC qual (zc st) s.heap.objs.size f cdv))->sp vs H Q E->
   ∃t,PSs (zhO CX0 P w K mg base N qual (zc st) f cdv A outer s H E).nox (zo st) t/\t {nx:=λ_ H'=>Q .non H',rt:=Q} (zdw N vs) H):FnOk P w K mg base CX0 (k+1) f fd ps sp:=by
 obtain⟨oc,od,kV,doc,pm,an,cdv,ct,osl,rfl,lk,hcd⟩:=F.ex
 refine zpL lk hcd S len λA outer s H vs Q E hr hsp=>?_
 obtain⟨t,h,q⟩:=hbody cdv A outer s H vs Q E hr hsp
 exact⟨t,h.nox,q⟩
theorem Fun.binds{x qual:Str}{st:Stmt}{f:Addr}{fd:FuncData}{ps:List Str}(F:Fun K x qual st f fd)
 (h:∀(kV doc pm:Value) (an:Option Addr) (cdv ct:Value) (us:List Value),us.length=ps.length->bindArgs (PySem.W.fnOf x qual (zp st) (zo st) (zc st) .none kV doc pm an cdv ct) ⟨us,[]⟩=pure (ps.zip us)):Binds K fd ps []:=by
 obtain⟨oc,od,kV,doc,pm,an,cdv,ct,osl,rfl,lk,hcd⟩:=F.ex
 exact .all (h kV doc pm an cdv ct)
theorem zJ{x qual:Str}{st:Stmt}{f:Addr}{oc:Value}{od an:Option Addr}{osl:Array (Option Value)}{kV doc pm cdv ct:Value}(l:K.lookup f=some ⟨oc,od, .func (PySem.W.fnOf x qual (zp st) (zo st) (zc st) .none kV doc pm an cdv ct),osl⟩)
 (c:PySem.W.codeIn K cdv qual=true) (k:PySem.W.keepIn K (.ref f)=true):Fun K x qual st f (PySem.W.fnOf x qual (zp st) (zo st) (zc st) .none kV doc pm an cdv ct):=⟨⟨oc,od,kV,doc,pm,an,cdv,ct,osl,rfl,l,c⟩,k⟩
end
theorem zj{n:Nat}(h:n<=1000):n<sizeLine:=Nat.lt_of_le_of_lt h (by decide)
section
variable{X:Cx}
end
theorem zbi{c A B:Prop}[Decidable c](h1:c->A)(h2:¬c->B):if c then A else B:=by
 by_cases h:c
 ·rw[if_pos h]
  exact h1 h
 ·rw[if_neg h]
  exact h2 h
def Same(H H':Hp):Prop:=∀b o,H b=some o->H' b=some o
theorem Same.refl(H:Hp):Same H H:=λ_ _ h=>h
theorem Same.trans{H H1 H2:Hp}(a:Same H H1)(b:Same H1 H2):Same H H2:=λc o h=>b c o (a c o h)
theorem Same.seq{K:ξk}{H H':Hp}{a:Addr}{xs:List V}(e:Same H H')(h:SqL K H a xs):SqL K H' a xs:=by
 rcases h with(h|⟨o,h⟩)|h
 ·exact .inl (.inl (e _ _ h))
 ·exact .inl (.inr ⟨o,e _ _ h⟩)
 ·exact .inr h
end L2
set_option maxHeartbeats 4000000
namespace L2
open PySem PySem.Spec PyProof.Rows
noncomputable def zk(X:Cx)(N':List Str)(scope:Scope)(cl:List (Str×Addr))(C:Addr)(s₀:Shared)(H₀:Hp)(fp:List Addr):Cx:=
 {prog:=X.prog,w:=X.w,K:=X.K,mg:=X.mg,base:=X.base,A:=X.A,N:=N',s₀:=s₀,H₀:=H₀,env:=compEnvC scope cl C X.env,outer:=X.stack,stack:=X.stack,ex:=fp,fn:=λ_=>false,
  calm:=X.calm,pn:=[],xe:=λ_ _=>False}
structure CompOk(N:List Str)(osc:Scope)(N':List Str)(src:List (Option Nat))(scope:Scope):Prop where
 kind:scope.kind= .function
 nocell:∀y∈scope.names,y.2≠ .cell
 loc:∀y∈scope.names,y.2= .local->scope.names.lookup y.1=some .local
 frees:∀y∈scope.names,y.2= .free->osc.names.lookup y.1=some .cell\/osc.names.lookup y.1=some .free
 nd:N'.Nodup
 len:src.length=N'.length
 src:∀q∈src.zip N',∀j∈q.1.toList,N[j]?=some q.2/\scope.names.lookup q.2=some .free
theorem zdC{env:Env}:∀(l:List (Str×NameKind)) (acc:List (Str×Addr)),(∀x c,acc.lookup x=some c->env.cells.lookup x=some c)->(∀y∈l,y.2= .free->∃c,env.cells.lookup y.1=some c)->
 ∃cl,(forIn l acc λ(x:Str×NameKind) (r:List (Str×Addr))=>(if(x.2==NameKind.free)=true then(cellOf env x.1>>=λa=>pure (ForInStep.yield ((x.1,a)::r)))else pure (ForInStep.yield r):Sem (ForInStep (List (Str×Addr)))))=pure cl/\
  (∀x c,cl.lookup x=some c->env.cells.lookup x=some c)/\(∀y∈l,y.2= .free->∃c,cl.lookup y.1=some c)/\(∀x c,acc.lookup x=some c->∃d,cl.lookup x=some d)
 |[],acc,h,_=>⟨acc,rfl,h,λ_ z=>(nomatch z),λx c e=>⟨c,e⟩⟩
 |(n,k)::l,acc,h,hf=>by
  by_cases hk:k= .free
  ·subst hk
   obtain⟨c,hc⟩:=hf (n, .free) ζo rfl
   have hacc:∀x d,((n,c)::acc).lookup x=some d->env.cells.lookup x=some d:=λx d e=>by
    rw[List.lookup_cons] at e
    cases hx:x==n with
    |true=>
     rw[hx] at e
     have e1:x=n:=by simpa using hx
     have e2:c=d:=by simpa using e
     rw[e1,←e2];exact hc
    |false=>
     rw[hx] at e
     exact h x d e
   obtain⟨cl,e1,e2,e3,e4⟩:=zdC l ((n,c)::acc) hacc λy hy=>hf y (ξc _ hy)
   refine⟨cl,?_,e2,λy hy hyf=>?_,λx d e=>?_⟩
   ·rw[List.forIn_cons]
    have:cellOf env n=pure c:=by unfold cellOf;rw[hc]
    simp only[beq_self_eq_true,if_true,this,pure_bind]
    exact e1
   ·rcases List.mem_cons.mp hy with rfl|hy
    ·exact e4 n c (by simp)
    ·exact e3 y hy hyf
   ·by_cases hx:x=n
    ·subst hx;exact e4 x c (by simp)
    ·have hb:(x==n)=false:=by simpa using hx
     exact e4 x d (by rw[List.lookup_cons,hb];exact e)
  ·obtain ⟨cl,e1,e2,e3,e4⟩:=zdC l acc h λy hy=>hf y (ξc _ hy)
   refine⟨cl,?_,e2,λy hy hyf=>?_,e4⟩
   ·rw[List.forIn_cons]
    have hb:(k==NameKind.free)=false:=by simpa using hk
    simp only[hb,Bool.false_eq_true,if_false,pure_bind]
    exact e1
   ·rcases List.mem_cons.mp hy with rfl|hy
    ·exact absurd hyf hk
    ·exact e3 y hy hyf
theorem zcD{scope:Scope}{env:Env}(hf:∀y∈scope.names,y.2= .free->∃c,env.cells.lookup y.1=some c):
 ∃cl,closureFor scope env=pure cl/\(∀x c,cl.lookup x=some c->env.cells.lookup x=some c)/\∀y∈scope.names,y.2= .free->∃c,cl.lookup y.1=some c:=by
 obtain⟨cl,e1,e2,e3,_⟩:=zdC (env:=env) scope.names [] (λ_ _ z=>by simp at z) hf
 refine⟨cl,?_,e2,e3⟩
 unfold closureFor
 refine Eq.trans ?_ (congrArg (λt=>t>>=λc=>(pure c:Sem (List (Str×Addr)))) e1)
 first
  |rfl
  |(congr 1)
theorem zgU{scope:Scope}{env:Env}:∀{x:Str},(relabel scope env).names.lookup x=some .cell\/(relabel scope env).names.lookup x=some .free->(∀y∈scope.names,y.2≠ .cell)->(x,NameKind.free)∈scope.names:=by
 intro x h hc
 have key:∀(l:List (Str×NameKind)),(∀y∈l,y.2≠ .cell)->((l.map λ(n,k)=>if (k==NameKind.free&&env.scope.kind== .function&&env.kindOf n==some .cell)then(n,NameKind.cell)else(n,k)).lookup x=some .cell\/
  (l.map λ(n,k)=>if (k==NameKind.free&&env.scope.kind== .function&&env.kindOf n==some .cell)then(n,NameKind.cell)else(n,k)).lookup x=some .free)->(x,NameKind.free)∈l:=by
  intro l
  induction l with
  |nil=>intro _ h;simp at h
  |cons y l ih=>
   obtain⟨n,k⟩:=y
   intro hc h
   have hc':∀y∈l,y.2≠ .cell:=λy hy=>hc y (ξc _ hy)
   have hk:k≠ .cell:=hc (n,k) ζo
   rw[ξt] at h
   by_cases hx:x=n
   ·subst hx
    by_cases hf:k= .free
    ·subst hf;exact ζo
    ·exfalso
     have hb:(k==NameKind.free)=false:=by simpa using hf
     simp only[hb,Bool.false_and,Bool.false_eq_true,if_false,List.lookup_cons,beq_self_eq_true] at h
     rcases h with h|h
     ·exact hk (ξh h)
     ·exact hf (ξh h)
   ·refine ξc _ (ih hc' ?_)
    have hb:(x==n)=false:=by simpa using hx
    by_cases hq:(k==NameKind.free&&env.scope.kind== .function&&env.kindOf n==some .cell)=true
    ·simp only[hq,if_true,List.lookup_cons,hb] at h
     exact h
    ·simp only[hq,Bool.false_eq_true,if_false,List.lookup_cons,hb] at h
     exact h
 exact key _ hc h
theorem zg8{scope:Scope}{env:Env}{x:Str}(h:scope.names.lookup x=some .free):(relabel scope env).names.lookup x=some .cell\/(relabel scope env).names.lookup x=some .free:=by
 have key:∀(l:List (Str×NameKind)),l.lookup x=some .free->((l.map λ(n,k)=>if (k==NameKind.free&&env.scope.kind== .function&&env.kindOf n==some .cell)then(n,NameKind.cell)else(n,k)).lookup x=some .cell\/
  (l.map λ(n,k)=>if (k==NameKind.free&&env.scope.kind== .function&&env.kindOf n==some .cell)then(n,NameKind.cell)else(n,k)).lookup x=some .free):=by
  intro l
  induction l with
  |nil=>intro h;simp at h
  |cons y l ih=>
   obtain⟨n,k⟩:=y
   intro h
   rw[ξt]
   rw[List.lookup_cons] at h
   cases hx:x==n with
   |true=>
    rw[hx] at h
    have hk:k= .free:=ξh h
    subst hk
    by_cases hq:(NameKind.free==NameKind.free&&env.scope.kind== .function&&env.kindOf n==some .cell)=true
    ·simp only[hq,if_true,List.lookup_cons,hx];exact .inl trivial
    ·simp only[hq,Bool.false_eq_true,if_false,List.lookup_cons,hx];exact .inr trivial
   |false=>
    rw[hx] at h
    by_cases hq:(k==NameKind.free&&env.scope.kind== .function&&env.kindOf n==some .cell)=true
    ·simp only[hq,if_true,List.lookup_cons,hx];exact ih h
    ·simp only[hq,Bool.false_eq_true,if_false,List.lookup_cons,hx];exact ih h
 exact key _ h
noncomputable def zeI(src:List (Option Nat))(σ:St):St:=src.map λo=>o.bind λj=>(σ[j]?).join
section
variable{X:Cx}{pins:List (Addr×Obj)}{σ:St}{H:Hp}{s:Shared}{N':List Str}{src:List (Option Nat)}{scope osc:Scope}{cl:List (Str×Addr)}{fp:List Addr}
theorem zcL{h₁:Heap}{tk:Nat}(I:Inv X pins σ H s)(hf:∀b∈fp,zcT X pins H b)(hlt:∀b∈fp,b<s.heap.objs.size)(ok:CompOk X.N osc N' src scope)(hsc:X.env.scope=osc)
 (c1:∀x c,cl.lookup x=some c->X.env.cells.lookup x=some c) (c2:∀y∈scope.names,y.2= .free->∃c,cl.lookup y.1=some c)
 (hn:h₁.Ns s.heap.objs.size λ_=>none) (hk:∀b o,s.heap.get? b=some o->h₁.get? b=some o):
 Inv (zk X N' scope cl s.heap.objs.size s H fp) [] (zeI src σ) H {s with heap:=h₁,toks:=tk}:=by
 have hkind:(relabel scope X.env).kind= .function:=ok.kind
 refine⟨⟨I.ok.mod,hkind,I.ok.glob,I.ok.blt,ζt _,λx y c h1 h2=>I.ok.inj x y c (c1 x c h1) (c1 y c h2),λx hx=>?_,λx c z _=>(by cases z),I.ok.hd,I.ok.frames, .inl rfl,λb hb=>?_,I.bs,ξa I.ok.bsz I.sz,λb o e hb=>?_,λb hb z=>?_,I.stack,I.stkFree⟩,
  rfl,I.bare,Un.kept hk,⟨_,hn,λi x v h1 h2 h3=>?_⟩,λx c e=>?_,I.hok.fresh (ζt _),λx c e=>I.freeC x c (c1 x c e),λp hp=>absurd (show p∈([]:List (Addr×Obj))from hp) (by simp),I.hok.kept hk,?_⟩
 ·exact c2 _ (zgU (env:=X.env) (scope:=scope) (x:=x) hx ok.nocell) rfl
 ·obtain ⟨f0,f1,f2,f3,f4,f5⟩:=hf b hb
  exact⟨λz=>absurd (hlt b hb) (by rw[z];exact Nat.lt_irrefl _),λx c e=>f4 x c (c1 x c e)⟩
 ·obtain ⟨f0,f1,f2,f3,f4,f5⟩:=hf b hb
  rcases f3 with z|z
  ·exact I.ok.noex b o e z
  ·exact absurd (ξf (ζm e) (ξa I.ok.bsz z)) (Nat.lt_irrefl _)
 ·obtain ⟨f0,f1,f2,f3,f4,f5⟩:=hf b hb
  rcases List.mem_cons.mp (I.stkSub b z)with q|q
  ·exact f1 q
  ·exact f2 q
 ·
  have hi:∃j,src[i]?=some (some j)/\σ[j]?=some (some v):=by
   unfold zeI at h2
   rw[ζp] at h2
   cases e:src[i]? with
   |none=>rw[e] at h2;cases h2
   |some o=>
    rw[e] at h2
    cases o with
    |none=>cases h2
    |some j=>
     refine⟨j,rfl,?_⟩
     have h2':(σ[j]?).join=some v:=ξh h2
     cases e2:σ[j]? with
     |none=>rw[e2] at h2';cases h2'
     |some w=>rw[e2] at h2';exact congrArg some h2'
  obtain⟨j,e1,e2⟩:=hi
  have hz:(some j,x)∈src.zip N':=by
   refine List.mem_iff_getElem?.mpr ⟨i,?_⟩
   rw[List.getElem?_zip_eq_some]
   exact⟨e1,h1⟩
  obtain⟨q1,q2⟩:=ok.src _ hz j (by simp)
  have hfr:=PySem.mem_of_lookup q2
  have hk0:=ok.frees _ hfr rfl
  rw[←hsc] at hk0
  obtain⟨m,hns,hl⟩:=I.loc
  obtain⟨u,r,l⟩:=hl j x v q1 e2 (hk0.elim (λz=> .inr (.inl z)) λz=> .inr (.inr z))
  refine⟨u,r,?_⟩
  rcases l with⟨l1,_⟩|⟨_,c,l2,l3⟩
  ·exfalso
   have l1':X.env.scope.names.lookup x=some .local:=l1
   rcases hk0 with z|z
   ·rw[l1'] at z;cases z
   ·rw[l1'] at z;cases z
  ·obtain ⟨d,hd⟩:=c2 _ hfr rfl
   have:d=c:=by
    have:=(c1 _ _ hd).symm.trans l2
    exact ξh this
   subst this
   obtain⟨o,ho,hod⟩:=l3
   exact .inr ⟨zg8 q2,d,hd,o,hk _ _ ho,hod⟩
 ·obtain ⟨v,o,ho,hod⟩:=I.cell x c (c1 x c e)
  exact⟨v,o,hk _ _ ho,hod⟩
 ·show (zeI src σ).length=N'.length
  unfold zeI
  rw[ζa]
  exact ok.len
theorem zcw{C:Addr}{σ':St}{H':Hp}{s':Shared}{h':Heap}(I:Inv X pins σ H s)(hf:∀b∈fp,zcT X pins H b)(hC:s.heap.objs.size<=C)(J:Inv (zk X N' scope cl C s H fp) [] σ' H' s')(hs:Heap.SameBut C s'.heap h'):
 Inv X pins σ H' {s' with heap:=h'}:=by
 have nC:∀b o,s.heap.get? b=some o->b≠C:=λb o e z=>absurd (ξf (ζm e) (by rw[z];exact hC)) (Nat.lt_irrefl _)
 have B:Un (frs X.stack) fp H H' s.heap s'.heap:=J.base
 refine I.call' (ch:=fp) J.os ⟨λb o e n hb hx=>(hs.2 b (nC b o e)).trans (B.keep b o e n hb hx),λb o e n hb hx=>?_,B.free,λb o e hx=>?_,B.tups,B.frzs,B.tbls⟩ (λb ob e=>?_) J.bare λb hb=>?_
 ·obtain ⟨sl,e1⟩:=B.slot b o e n hb hx
  exact⟨sl,(hs.2 b (nC b o e)).trans e1⟩
 ·obtain ⟨o',e1⟩:=B.there b o e hx
  exact⟨o',(hs.2 b (nC b o e)).trans e1⟩
 ·refine (J.hok b ob e).stay (λc w' hc q=>(hs.2 c ?_).trans q) (λ_ q=>q) λ_ _ q=>q
  have hfree:H' C=none:=J.free
  rintro rfl
  rcases hc with rfl|hc
  ·rw[hfree] at e;cases e
  ·rw[hfree] at hc;cases hc
 ·obtain ⟨f0,f1,f2,f3,f4,f5⟩:=hf b hb
  exact⟨f3,f1,f4,f5⟩
end
noncomputable def zdT(ifs:List Expr)(env:Env):Sem Bool:=forIn ifs true λc r=>if r=true then do let ok ←isTrue c env (eval c env);pure (ForInStep.yield ok)else pure (ForInStep.yield r)
def PIf(X:Cx)(ifs:List Expr)(t:TT):Prop:=
 ∀(pins:List (Addr×Obj)) (s:Shared) (σ:St) (H:Hp) (Q:Bool->Hp->Prop),Inv X pins σ H s->t σ H Q->wpAny (model X.prog X.w) X.A (zdT ifs X.env) (TP X pins σ Q) X.xe s
noncomputable def zqf:TT:=λ_ H Q=>Q true H
theorem zou{X:Cx}:PIf X [] zqf:=λpins s σ H Q I h=>wpAny_tests_nil ⟨H,I,h⟩
theorem znY{X:Cx}{c:Expr}{t:TT}(h:PT X c t):PIf X [c] t:=λpins s σ H Q I hq=>wpAny_tests_one (h pins s σ H Q I hq)
theorem zd7{prog:Program}{w:World}{A:Around}{R:Result->Shared->Prop}{s:Shared}{elt target iter:Expr}{ifs:List Expr}{scope:Scope}{pos:Pos}{it acc:Value}{env:Env}(I:Nat->Shared->Prop)
 (turn:∀n s,I n s->wpAny (model prog w) A (pyNext it) (λr s1=>match r with
   |none=>R (.ok .next) s1
   |some v=>wpAny (model prog w) A (letOwnedTupleGo target it v) (λ_ s1'=>wpAny (model prog w) A (assign target env v) (λ_ s2=>wpAny (model prog w) A (zdT ifs env) (λok s3=>
     if ok=true then wpAny (model prog w) A (eval elt env) (λx s4=>wpAny (model prog w) A (call (.builtin "list.append") [acc,x]) (λ_ s5=>∃m,m<n/\I m s5) (λ_ _=>False) s4) (λ_ _=>False) s3
     else∃m,m<n/\I m s3) (λ_ _=>False) s2) (λ_ _=>False) s1') (λ_ _=>False) s1) (λ_ _=>False) s)
 (n:Nat) (h:I n s):codeAny (model prog w) A (.compLoop (.ListComp elt [⟨target,iter,ifs,0⟩] scope pos) 0 it acc env) R s:=by
 have no:∀{E:Value->Shared->Prop} (e:Value) (s:Shared),(λ(_:Value) (_:Shared)=>False) e s->E e s:=λ_ _ z=>False.elim z
 refine codeAny_loop rfl I (λn s hI=>?_) n h
 show wpAny _ A ((compTurn (.ListComp elt [⟨target,iter,ifs,0⟩] scope pos) 0 it acc env).onRaise (λx=>do noteFrame x env;theTreesLotGoes x)) _ _ s
 refine wpAny_noted ?_
 rw[compTurn_list]
 refine ζb (wpAny_standAt (ζb (ψc (turn n s hI) (λr s₁ h₁=>?_) no)))
 cases r with
 |none=>exact ζr h₁
 |some v=>
  refine ζb (ψc h₁ (λ_ s1' h1'=>?_) no)
  refine ζb (ψc h1' (λ_ s₂ h₂=>ζb (ψc h₂ (λok s₃ h₃=>?_) no)) no)
  cases ok with
  |false=>exact ζr ⟨rfl,h₃⟩
  |true=>
   exact ζb (ζb (ψc h₃ (λx s₄ h₄=>ζb (ψc h₄ (λ_ s₅ h₅=>ζr (ζr ⟨rfl,h₅⟩)) no)) no))
def zfh(g:TG)(tc:TT)(te:TE)(src:List (Option Nat))(σ:St)(Q:VK)(J:It)(H1:Hp):Prop:=∀l,H1 l=none->
 ∃W:Nat->Nat->List V->St->Hp->Prop,(∃m,W 0 m [] (zeI src σ) (upd H1 l (.lst [])))/\∀i m ys σ' H',W i m ys σ' H'->H' l=some (.lst ys)->
  (J.stop i H'/\Q (.ref l) H')\/(J.go i H'/\∃N:List V->St->Hp->Prop,(∀zs σ2 H2,N zs σ2 H2->∃m',m'<m/\W (i+1) m' zs σ2 H2)/\∀x H2,J.yld i H' x H2->g x σ' H2 λσ2 H3=>tc σ2 H3 λb H4=>
    if b=true then te σ2 H4 λy H5=>H5 l=some (.lst ys)/\ys.length<sizeLine/\N (ys ++ [y]) σ2 (upd H5 l (.lst (ys ++ [y])))
    else H4 l=some (.lst ys)/\N ys σ2 H4)
noncomputable def zjZ(wi:TI)(g:TG)(tc:TT)(te:TE)(src:List (Option Nat)):TE:=λσ H Q=>wi σ H (zfh g tc te src σ Q)
def zpW(g:TG)(tb:TS)(D:Ends)(σ:St)(J:It)(H1:Hp):Prop:=∃W:Nat->Nat->St->Hp->Prop,(∃m,W 0 m σ H1)/\∀i m σ H,W i m σ H->
 (J.stop i H/\D.nx σ H)\/(J.go i H/\∃N:St->Hp->Prop,(∀σ' H',N σ' H'->∃m',m'<m/\W (i+1) m' σ' H')/\∀x H',J.yld i H x H'->g x σ H' λσ2 H2=>tb {D with nx:=N,ct:=N,bk:=D.nx} σ2 H2)
noncomputable def zpx(wi:TI)(g:TG)(tb:TS):TS:=λD σ H=>wi σ H (zpW g tb D σ)
theorem zox{X:Cx}{tg iter:Expr}{body:List Stmt}{wi:TI}{g:TG}{tb:TS}{pos:Pos}(hp:PassesOwn (model X.prog X.w) X.A X.env X.xe)(hc:X.calm=true)(hi:PI X tg iter wi)(hg:PG X tg g)(hb:PSs X body tb)
 (hs:∀x,foldedSetIterable iter X.env x=pure x:=by intro _;rfl):PS X (.For tg iter body [] pos) (zpx wi g tb):=zra hp hc hi hg hb hs
section
variable{X:Cx}{elt tg iter:Expr}{ifs:List Expr}{scope osc:Scope}{pos:Pos}{N':List Str}{src:List (Option Nat)}{wi:TI}{g:TG}{tc:TT}{te:TE}
theorem zpf(ok:CompOk X.N osc N' src scope)(hsc:X.env.scope=osc)(hc:X.calm=true)(hi:PI X tg iter wi)
 (hg:∀cl C s₀ H₀ fp,PG (zk X N' scope cl C s₀ H₀ fp) tg g) (ht:∀cl C s₀ H₀ fp,PIf (zk X N' scope cl C s₀ H₀ fp) ifs tc) (he:∀cl C s₀ H₀ fp,PE (zk X N' scope cl C s₀ H₀ fp) elt te)
 (hs:∀x,foldedSetIterable iter X.env x=pure x:=by intro _;rfl):PE X (.ListComp elt [⟨tg,iter,ifs,0⟩] scope pos) (zjZ wi g tc te src):=by
 intro pins s σ H Q I h
 obtain⟨cl,hcl,c1,c2⟩:=zcD (scope:=scope) (env:=X.env) λy hy hyf=>I.ok.has y.1 (by
  have z:=ok.frees y hy hyf
  rw[←hsc] at z
  exact z)
 rw[eval_ListComp]
 refine wpAny_comprehension_free (use:=none) rfl hs hcl ok.kind ok.loc (thn (hi pins s σ H _ I h) λv s1 h1=>thn h1 λitv s2 h2=>?_)
 obtain⟨it,fp,tn,J,H2,e,I2,T,st2,f2,q2⟩:=h2
 subst e
 have hlt2:∀b∈fp,b<s2.heap.objs.size:=λb hb=>by
  obtain⟨o,e,_⟩:=T.obj _ _ st2 b hb
  exact ζm e
 refine wpAny_newObj_type ?_
 have hl:H2 s2.heap.objs.size=none:=I2.hok.fresh (ζt _)
 have I3:Inv X pins σ (upd H2 s2.heap.objs.size (.lst [])) {s2 with heap:=s2.heap.push {cls:= .type "list",dict:=none,data:= .seq ([]:List Value).toArray}}:=
  I2.laid (t':=s2.toks) (λb u e=>ζc _ e) (ζt _) ⟨ξi _,[],0, .nil,ζj _ rfl⟩
 obtain⟨W,⟨m0,w0⟩,turn⟩:=q2 _ hl
 generalize hl2:s2.heap.objs.size=l at *
 generalize hs3:({s2 with heap:=s2.heap.push {cls:= .type "list",dict:=none,data:= .seq ([]:List Value).toArray}}:Shared)=s3 at *
 have f3:∀b∈fp,zcT X pins (upd H2 l (.lst [])) b:=λb hb=>⟨by rw[zi (ξj (hlt2 b hb))];exact(f2 b hb).1,(f2 b hb).2⟩
 have k3:∀b o,s2.heap.get? b=some o->s3.heap.get? b=some o:=λb o e=>by rw[←hs3];exact ζc _ e
 have hlt3:∀b∈fp,b<s3.heap.objs.size:=λb hb=>by
  obtain⟨o,e,_⟩:=T.obj _ _ st2 b hb
  exact ζm (k3 b o e)
 refine wpAny_newFunctionEnv ok.nocell (by intro y hy;simp at hy) (λh₁ hns₁ hsb₁=>?_) ok.kind
 have k4:∀b o,s3.heap.get? b=some o->h₁.get? b=some o:=λb o e=>(hsb₁.2 b (ξj (ζm e))).trans (ζc _ e)
 have J0:=zcL (tk:=s3.toks+([]:List (Str×Value)).length) I3 f3 hlt3 ok hsc c1 c2 hns₁ k4
 have st4:tn 0 h₁:=T.keep _ _ _ st2 λb hb o e=>k4 b o (k3 b o e)
 generalize hC:s3.heap.objs.size=C at *
 have stat:∀{H':Hp},(∀b∈fp,H' b=none)->∀b∈fp,zcT (zk X N' scope cl C s3 (upd H2 l (.lst [])) fp) [] H' b:=λ{H'} hn b hb=>
  ⟨hn b hb,(J0.ok.exf b hb).1,J0.ok.exfs b hb, .inl hb,(J0.ok.exf b hb).2,λp hp=>absurd (show p∈([]:List (Addr×Obj))from hp) (by simp)⟩
 have loop:codeAny (model X.prog X.w) X.A (.compLoop (.ListComp elt [⟨tg,iter,ifs,0⟩] scope pos) 0 (.ref it) (.ref l) (compEnvC scope cl C X.env))
  (compPost (model X.prog X.w) X.A X.xe none (EP X pins σ Q) (.ref l) C) {s3 with heap:=h₁,toks:=s3.toks+([]:List (Str×Value)).length}:=by
  refine zd7 (λn s'=>∃i ys σ' H',Inv (zk X N' scope cl C s3 (upd H2 l (.lst [])) fp) [] σ' H' s'/\tn i s'.heap/\(∀b∈fp,H' b=none)/\H' l=some (.lst ys)/\W i n ys σ' H') ?_ m0
   ⟨0,[],_,_,J0,st4,λb hb=>(f3 b hb).1,zb,w0⟩
  rintro n s5 ⟨i,ys,σ5,H5,I5,st5,fr5,hl5,w5⟩
  rcases turn i n ys σ5 H5 w5 hl5 with⟨stop,qn⟩|⟨go,N,hN,step⟩
  ·refine thn (T.done (zk X N' scope cl C s3 (upd H2 l (.lst [])) fp) rfl rfl rfl hc i [] s5 σ5 H5 (λ_ _=>False) I5 (stat fr5) st5 stop) λr s6 ⟨hr,I6⟩=>?_
   subst hr
   obtain⟨m,hn,_⟩:=I6.loc
   exact⟨m,hn,λh' hsb=>⟨.ref l,H5,zcw I3 f3 (by rw[←hC];exact ζt _) I6 hsb,rfl,qn⟩⟩
  ·refine thn (T.item (zk X N' scope cl C s3 (upd H2 l (.lst [])) fp) rfl rfl rfl hc i [] s5 σ5 H5 (λ_ _=>False) I5 (stat fr5) st5 go) λr s6 ⟨u,hr,h6⟩=>?_
   subst hr
   refine thn h6 λ_ s7 ⟨x,H7,I7,r7,y7,st7,fr7⟩=>?_
   have I7':=I7.pinned (stat fr7) (T.obj _ _ st7)
   refine thn (hg cl C s3 _ fp _ s7 σ5 H7 x u _ I7' r7 (step x H7 y7)) λ_ s8 ⟨σ8,H8,I8,q8⟩=>?_
   refine thn (ht cl C s3 _ fp _ s8 σ8 H8 _ I8 q8) λb s9 ⟨H9,I9,q9⟩=>?_
   have back:∀{s':Shared} {H':Hp},Inv (zk X N' scope cl C s3 (upd H2 l (.lst [])) fp) ([]++zbM fp s7.heap) σ8 H' s'->tn (i+1) s'.heap/\∀b∈fp,H' b=none:=λ{s' H'} I'=>by
    refine⟨T.keep _ _ _ st7 λb hb o e=>(I'.pin (b,o) (ξl _ (ξl _ (zX hb e)))).1,λb hb=>?_⟩
    obtain⟨o,e,d⟩:=T.obj _ _ st7 b hb
    exact(I'.pin (b,o) (ξl _ (ξl _ (zX hb e)))).2.1
   cases b with
   |false=>
    obtain⟨hl9,n9⟩:=q9
    obtain⟨m',hm,w9⟩:=hN _ _ _ n9
    obtain⟨t9,fr9⟩:=back I9
    exact⟨m',hm,i+1,ys,σ8,H9,I9.unpinned,t9,fr9,hl9,w9⟩
   |true=>
    refine thn (he cl C s3 _ fp _ s9 σ8 H9 _ I9 q9) λxv s10 ⟨y,H10,I10,r10,hl10,hz,n10⟩=>?_
    obtain⟨m',hm,w10⟩:=hN _ _ _ n10
    refine thn (zan (X:=zk X N' scope cl C s3 (upd H2 l (.lst [])) fp) _ s10 σ8 H10 (.ref l) [y] (.ref l) [xv] (λv H'=>H'=upd H10 l (.lst (ys ++ [y]))) I10 rfl (.cons r10 .nil) ⟨l,ys,y,rfl,rfl,hl10,hz,rfl⟩) λ_ s11 ⟨_,H11,I11,_,e11⟩=>?_
    subst e11
    obtain⟨t11,fr11⟩:=back I11
    exact⟨m',hm,i+1,ys ++ [y],σ8,_,I11.unpinned,t11,fr11,zb,w10⟩
 exact codeAny_compStart_list loop (T.self _ 0 _ _ _ st4 loop)
end
section
variable{κ:Type}[DecidableEq κ]
noncomputable def zbm(kvs:List (κ×V))(k:κ):Option V:=(kvs.find? λkv=>decide (kv.1=k)).map (·.2)
noncomputable def zb7(kvs:List (κ×V))(k:κ)(v:V):List (κ×V):=
 if(kvs.any λkv=>decide (kv.1=k))=true then kvs.map (λkv=>if kv.1=k then(kv.1,v)else kv)else kvs ++ [(k,v)]
theorem zb5{p:κ×V}{r:List (κ×V)}{k:κ}(e:p.1=k):zbm (p::r) k=some p.2:=by simp[zbm,List.find?_cons,e]
theorem zbC{p:κ×V}{r:List (κ×V)}{k:κ}(e:¬p.1=k):zbm (p::r) k=zbm r k:=by simp[zbm,List.find?_cons,e]
theorem zfF(k:κ):∀kvs:List (κ×V),(kvs.any λkv=>decide (kv.1=k))=(zbm kvs k).isSome
 |[]=>rfl
 |p::r=>by
  rw[List.any_cons]
  by_cases e:p.1=k
  ·simp only[zb5 e,ζf e,Bool.true_or,Option.isSome_some]
  ·rw[zbC e,ζn e,Bool.false_or];exact zfF k r
theorem zgN(k j:κ)(y:V):∀kvs:List (κ×V),zbm kvs k=none->zbm (kvs ++ [(k,y)]) j=if j=k then some y else zbm kvs j
 |[],_=>by
  by_cases e:k=j
  ·rw[if_pos e.symm];exact zb5 (p:=(k,y)) e
  ·rw[if_neg (λz=>e z.symm)];exact zbC (p:=(k,y)) e
 |p::r,hn=>by
  rw[List.cons_append]
  have hk:¬p.1=k:=λz=>by rw[zb5 z] at hn;cases hn
  rw[zbC hk] at hn
  have ih:=zgN k j y r hn
  by_cases e:p.1=j
  ·rw[zb5 e,zb5 e,if_neg (λz=>hk (e.trans z))]
  ·rw[zbC e,zbC e,ih]
theorem zdc(kvs:List (κ×V))(k:κ)(v:V):(zb7 kvs k v).length<=kvs.length+1:=by
 unfold zb7
 split
 ·rw[ζa];omega
 ·rw[ζe,ζv,List.length_nil];omega
theorem zij{kvs:List (κ×V)}{k:κ}(v:V)(h:zbm kvs k=none):zb7 kvs k v=kvs ++ [(k,v)]:=by
 unfold zb7
 rw[zfF,h]
 exact if_neg (by decide)
theorem RelO.isSome_eq{o:Option V}{u:Option Value}(r:RelO o u):o.isSome=u.isSome:=by
 cases o with
 |none=>cases u with
  |none=>rfl
  |some _=>exact (show False from r).elim
 |some _=>cases u with
  |none=>exact (show False from r).elim
  |some _=>rfl
theorem KV.val{kvs:List (κ×V)}{vs:List (κ×Value)}(r:KV kvs vs)(k:κ):RelO (zbm kvs k) (valueAt vs k):=by
 unfold KV at r
 induction r with
 |nil=>exact True.intro
 | @cons p q ps qs h t ih=>
   obtain⟨h1,h2⟩:=h
   by_cases e:p.1=k
   ·have e':q.1=k:=h1.symm.trans e
    have b:valueAt (q::qs) k=some q.2:=by simp[valueAt,List.find?_cons,e']
    rw[zb5 e,b];exact h2
   ·have e':¬q.1=k:=λz=>e (h1.trans z)
    have b:valueAt (q::qs) k=valueAt qs k:=by simp[valueAt,List.find?_cons,e']
    rw[zbC e,b];exact ih
theorem KV.any{kvs:List (κ×V)}{vs:List (κ×Value)}(r:KV kvs vs)(k:κ):(kvs.any λkv=>decide (kv.1=k))=vs.any λkv=>decide (kv.1=k):=by
 unfold KV at r
 induction r with
 |nil=>rfl
 |cons h t ih=>rw[List.any_cons,List.any_cons,ih,h.1]
theorem KV.repl{kvs:List (κ×V)}{vs:List (κ×Value)}(r:KV kvs vs)(k:κ){y:V}{u:Value}(ry:RelV y u):
 KV (kvs.map λkv=>if kv.1=k then(kv.1,y)else kv) (vs.map λkv=>if kv.1=k then(kv.1,u)else kv):=by
 unfold KV at r⊢
 induction r with
 |nil=>exact .nil
 | @cons p q ps qs h t ih=>
   rw[ξt,ξt]
   refine .cons ?_ ih
   obtain⟨h1,h2⟩:=h
   by_cases e:p.1=k
   ·rw[if_pos e,if_pos (h1.symm.trans e)];exact⟨h1,ry⟩
   ·rw[if_neg e,if_neg (λz=>e (h1.trans z))];exact⟨h1,h2⟩
theorem KV.put{kvs:List (κ×V)}{vs:List (κ×Value)}(r:KV kvs vs)(k:κ){y:V}{u:Value}(ry:RelV y u):KV (zb7 kvs k y) (stored vs k u):=by
 unfold zb7 stored
 rw[r.any k]
 by_cases e:(vs.any λkv=>decide (kv.1=k))=true
 ·rw[if_pos e,if_pos e];exact r.repl k ry
 ·rw[if_neg e,if_neg e];exact Paired.snoc r ⟨rfl,ry⟩
theorem KV.length{kvs:List (κ×V)}{vs:List (κ×Value)}(r:KV kvs vs):kvs.length=vs.length:=Paired.length r
end
theorem zh3{P:Program}{w:World}{k:Key}{u:Value}(r:RelV (kV k) u):(zai P w).is k u=true:=by
 cases k with
 |inl i=>obtain ⟨t,e⟩:=(show∃t,u=Value.int i t from r);subst e;exact zh5 P w i t
 |inr x=>obtain ⟨t,e⟩:=(show∃t,u=Value.str x t from r);subst e;exact zeV P w x t
theorem zgq{P:Program}{w:World}:∀{ks:List Key} {us:List Value},Vals (ks.map kV) us->ItemsAre (zai P w) ks us
 |[],_,r=>by rw[List.map_nil] at r;cases r;exact .nil
 |k::ks,_,r=>by
  rw[ξt] at r
  cases r with
  |cons h t=>exact .cons (zh3 h) (zgq t)
abbrev KT(H:Hp):List (List Key×V)->List (List Key×Addr×Value)->Prop:=Paired λp q=>p.1=q.1/\H q.2.1=some (.tup (p.1.map kV))/\RelV p.2 q.2.2
theorem KT.val{H:Hp}{kvs:List (List Key×V)}{xs:List (List Key×Addr×Value)}(r:KT H kvs xs)(k:List Key):RelO (zbm kvs k) ((atKey xs k).map (·.2)):=by
 induction r with
 |nil=>exact True.intro
 | @cons p q ps qs h t ih=>
   obtain⟨h1,_,h2⟩:=h
   by_cases e:p.1=k
   ·have e':q.1=k:=h1.symm.trans e
    have b:atKey (q::qs) k=some q.2:=by simp[atKey,List.find?_cons,e']
    rw[zb5 e,b];exact h2
   ·have e':¬q.1=k:=λz=>e (h1.trans z)
    have b:atKey (q::qs) k=atKey qs k:=by simp[atKey,List.find?_cons,e']
    rw[zbC e,b];exact ih
theorem KT.repl{H:Hp}{kvs:List (List Key×V)}{xs:List (List Key×Addr×Value)}(r:KT H kvs xs)(k:List Key){y:V}{u:Value}(ry:RelV y u):
 KT H (kvs.map λkv=>if kv.1=k then(kv.1,y)else kv) (xs.map (putAt k u)):=by
 induction r with
 |nil=>exact .nil
 | @cons p q ps qs h t ih=>
   rw[ξt,ξt]
   refine .cons ?_ ih
   obtain⟨h1,h2,h3⟩:=h
   unfold putAt
   by_cases e:p.1=k
   ·rw[if_pos e,if_pos (h1.symm.trans e)];exact⟨h1,h2,ry⟩
   ·rw[if_neg e,if_neg (λz=>e (h1.trans z))];exact⟨h1,h2,h3⟩
theorem KT.put{H:Hp}{kvs:List (List Key×V)}{xs:List (List Key×Addr×Value)}(r:KT H kvs xs)(k:List Key){b:Addr}{y:V}{u:Value}(hb:H b=some (.tup (k.map kV)))(ry:RelV y u):
 KT H (zb7 kvs k y) (storedH xs k b u):=by
 have e:(kvs.any λkv=>decide (kv.1=k))=(atKey xs k).isSome:=by
  rw[zfF,(r.val k).isSome_eq,Option.isSome_map]
 unfold zb7 storedH
 rw[e]
 by_cases q:(atKey xs k).isSome=true
 ·rw[if_pos q,if_pos q];exact r.repl k ry
 ·rw[if_neg q,if_neg q];exact Paired.snoc r ⟨rfl,hb,ry⟩
theorem KT.keeps{H H':Hp}{kvs:List (List Key×V)}{xs:List (List Key×Addr×Value)}(r:KT H kvs xs)(ht:∀b ys,H b=some (.tup ys)->H' b=some (.tup ys)):KT H' kvs xs:=
 Paired.mapP r λ_ _ z=>⟨z.1,ht _ _ z.2.1,z.2.2⟩
section
variable{P:Program}{w:World}{H:Hp}{h:Heap}{a:Addr}
theorem zpS{u:HO}(ok:HOk P w H h)(e:Rd H a u):ObjOk P w H h a u:=e.ok ok
theorem zkr{kvs:List (Key×V)}(ok:HOk P w H h)(e:Rd H a (.dK kvs)):kvs.length<=sizeLine/\(a==sysModules)=false/\∃vs,KV kvs vs/\h.DictOf (zai P w) a vs:=
 show ObjOk P w H h a (.dK kvs)from zpS ok e
theorem zgl{kvs:List (Key×V)}(ok:HOk P w H h)(e:H a=some (.dK kvs)):kvs.length<=sizeLine/\(a==sysModules)=false/\∃vs,KV kvs vs/\h.DictOf (zai P w) a vs:=zkr ok (.inl e)
theorem zhx{ks:List Key}(ok:HOk P w H h)(e:H a=some (.tup (ks.map kV))):(tupleKind (zai P w)).is h ks a:=by
 obtain⟨_,its,r,⟨o,h1,h2,n,h3⟩,_⟩:=(show ObjOk P w H h a (.tup (ks.map kV))from ok a _ e)
 exact⟨o,its.toArray,n,h1,h2,h3,by simpa using zgq r⟩
theorem zjC{kvs:List (List Key×V)}(ok:HOk P w H h)(e:Rd H a (.dT kvs)):kvs.length<=sizeLine/\(a==sysModules)=false/\
 ∃xs,KT H kvs xs/\h.DictOfH (tupleKind (zai P w)) a xs:=by
 obtain⟨z,y,xs,r,o,es,ep,h1,h2,h3,h4,h5⟩:=(show ObjOk P w H h a (.dT kvs)from zpS ok e)
 refine⟨z,y,xs,r,o,es,ep,h1,h2,h3,h4,λx hx=>?_,h5⟩
 have all:∀{l:List (List Key×V)} {m:List (List Key×Addr×Value)},KT H l m->∀x∈m,(tupleKind (zai P w)).is h x.1 x.2.1:=by
  intro l m q
  induction q with
  |nil=>intro x hx;exact nomatch hx
  | @cons p q ps qs hq t ih=>
    intro x hx
    rcases List.mem_cons.mp hx with e|hx
    ·subst e
     exact zhx ok (by rw[←hq.1];exact hq.2.1)
    ·exact ih x hx
 exact all r x hx
theorem zr1{kvs:List (List Key×V)}(ok:HOk P w H h)(e:H a=some (.dT kvs)):kvs.length<=sizeLine/\(a==sysModules)=false/\
 ∃xs,KT H kvs xs/\h.DictOfH (tupleKind (zai P w)) a xs:=zjC ok (.inl e)
end
def DGet(H:Hp)(a:Addr)(y:V)(r:Option V):Prop:=
 (∃kvs k,Rd H a (.dK kvs)/\y=kV k/\r=zbm kvs k)\/∃kvs k b,Rd H a (.dT kvs)/\y= .ref b/\H b=some (.tup (k.map kV))/\r=zbm kvs k
def DPut(H:Hp)(a:Addr)(y v:V)(H':Hp):Prop:=
 (∃kvs k,H a=some (.dK kvs)/\y=kV k/\kvs.length<sizeLine/\H'=upd H a (.dK (zb7 kvs k v)))\/
 ∃kvs k b,H a=some (.dT kvs)/\y= .ref b/\H b=some (.tup (k.map kV))/\kvs.length<sizeLine/\H'=upd H a (.dT (zb7 kvs k v))
theorem DGet.t{H:Hp}{a b:Addr}{kvs:List (List Key×V)}{k:List Key}(e:H a=some (.dT kvs))(eb:H b=some (.tup (k.map kV))):DGet H a (.ref b) (zbm kvs k):= .inr ⟨kvs,k,b, .inl e,rfl,eb,rfl⟩
theorem DPut.k{H:Hp}{a:Addr}{kvs:List (Key×V)}{k:Key}{v:V}(e:H a=some (.dK kvs))(hl:kvs.length<sizeLine):DPut H a (kV k) v (upd H a (.dK (zb7 kvs k v))):= .inl ⟨kvs,k,e,rfl,hl,rfl⟩
theorem DPut.t{H:Hp}{a b:Addr}{kvs:List (List Key×V)}{k:List Key}{v:V}(e:H a=some (.dT kvs))(eb:H b=some (.tup (k.map kV)))(hl:kvs.length<sizeLine):
 DPut H a (.ref b) v (upd H a (.dT (zb7 kvs k v))):= .inr ⟨kvs,k,b,e,rfl,eb,hl,rfl⟩
section
variable{X:Cx}{pins:List (Addr×Obj)}{σ:St}{H:Hp}{s:Shared}{a:Addr}{y v:V}{u r:Value}{o:Option V}{A:Around}{E:Value->Shared->Prop}
theorem Inv.big(I:Inv X pins σ H s):sysModules<s.heap.objs.size:=by
 have h:mainGlobals<s.heap.objs.size:=(I.mod.glob.keeps I.bk).lt
 exact Nat.lt_trans (by decide) h
theorem zlo{Q:Value->Shared->Prop}(hu:A.units+1<cLine)(I:Inv X pins σ H s)(g:DGet H a y (some v))(ry:RelV y u)(h:∀w' s',Inv X pins σ H s'->RelV v w'->Q w' s'):
 wpAny (model X.prog X.w) A (getItem (.ref a) u) Q E s:=by
 rcases g with⟨kvs,k,e,ey,l⟩|⟨kvs,k,b,e,ey,eb,l⟩
 ·subst ey
  obtain⟨z,hd,vs,rel,dd⟩:=zkr I.hok e
  obtain⟨w',hw,rw'⟩:=RelO.some_of (v:=v) (o:=valueAt vs k) (by rw[l];exact rel.val k)
  exact wpAny_getItem_of (zh3 ry) dd.mapOf hw (h w' _ (I.tok _) rw')
 ·subst ey
  cases(show u=Value.ref b from ry)
  obtain⟨z,hd,xs,rel,dd⟩:=zjC I.hok e
  obtain⟨w',hw,rw'⟩:=RelO.some_of (v:=v) (o:=(atKey xs k).map (·.2)) (by rw[l];exact rel.val k)
  obtain⟨p,hp,hp2⟩:=Option.map_eq_some_iff.mp hw
  refine wpAny_getItem_heap (tupleKind_room_in1 hu) (zhx I.hok eb) dd hp ?_
  rw[hp2]
  exact h w' _ (I.tok _) rw'
theorem zow{Q:Value->Shared->Prop}(hu:A.units+1<cLine)(I:Inv X pins σ H s)(g:DGet H a y o)(ry:RelV y u)(h:∀s',Inv X pins σ H s'->Q (.bool (!o.isSome)) s'):
 wpAny (model X.prog X.w) A (compareOp .NotIn u (.ref a)) Q E s:=by
 rcases g with⟨kvs,k,e,ey,l⟩|⟨kvs,k,b,e,ey,eb,l⟩
 ·subst ey
  obtain⟨z,hd,vs,rel,dd⟩:=zkr I.hok e
  refine wpAny_notIn_of (zh3 ry) hd dd.mapOf ?_
  rw[←(rel.val k).isSome_eq,←l]
  exact h _ (I.tok _)
 ·subst ey
  cases(show u=Value.ref b from ry)
  obtain⟨z,hd,xs,rel,dd⟩:=zjC I.hok e
  refine wpAny_notIn_heap (tupleKind_room_in1 hu) (zhx I.hok eb) hd dd ?_
  have q:=(rel.val k).isSome_eq
  rw[Option.isSome_map] at q
  rw[←q,←l]
  exact h _ (I.tok _)
theorem zdY{h':Heap}{t':Nat}{ob:HO}(I:Inv X pins σ H s)(mu:Mut (H a))(hs:Heap.SameBut a s.heap h')(he:∃q,h'.get? a=some q)(new:ObjOk X.prog X.w (upd H a ob) h' a ob):
 Inv X pins σ (upd H a ob) {s with heap:=h',toks:=t'}:=
 I.write (x:=a) (e:=a) mu (.inl rfl) (λb q hb z=>(hs.2 b hb).trans z) he new
theorem zhv{P:Program}{w:World}{H':Hp}{h':Heap}{kvs:List (Key×V)}{vs:List (Key×Value)}(z:kvs.length<=sizeLine)(hd:(a==sysModules)=false)(rel:KV kvs vs)(dd:h'.DictOf (zai P w) a vs):
 ObjOk P w H' h' a (.dK kvs):=⟨z,hd,vs,rel,dd⟩
theorem zlG{H':Hp}{Q:Unit->Shared->Prop}(hu:A.units+1<cLine)(I:Inv X pins σ H s)(g:DPut H a y v H')(ry:RelV y u)(rv:RelV v r)(h:∀s',Inv X pins σ H' s'->Q () s'):
 wpAny (model X.prog X.w) A (setItem (.ref a) u r) Q E s:=by
 rcases g with⟨kvs,k,e,ey,l,eH⟩|⟨kvs,k,b,e,ey,eb,l,eH⟩
 ·subst ey eH
  obtain⟨z,hd,vs,rel,dd⟩:=zgl I.hok e
  have hz:vs.length<=sizeLine:=by rw[←rel.length];exact z
  have hl:(zb7 kvs k v).length<=sizeLine:=by have:=zdc kvs k v;omega
  refine wpAny_setItem_pairs (hsz:=hz) (zh3 ry) dd λh' dd' hs=>h _ ?_
  have he:∃q,h'.get? a=some q:=let⟨q,_,_,hq,_⟩:=dd';⟨q,hq⟩
  exact zdY I (by rw[e];exact True.intro) hs he (zhv hl hd (rel.put k rv) dd')
 ·subst ey eH
  cases(show u=Value.ref b from ry)
  obtain⟨z,hd,xs,rel,dd⟩:=zr1 I.hok e
  have hz:xs.length<=sizeLine:=by rw[←Paired.length rel];exact z
  have hl:(zb7 kvs k v).length<=sizeLine:=by have:=zdc kvs k v;omega
  refine wpAny_setItem_heap (hsz:=hz) (tupleKind_room_in1 hu) (zhx I.hok eb) dd λh' dd' hs=>h _ ?_
  obtain⟨q,es,ep,hq,h2,h3,h4,_,h5⟩:=dd'
  refine zdY I (by rw[e];exact True.intro) hs ⟨q,hq⟩ ⟨hl,hd,_,(rel.put k eb rv).keeps λc ys ec=>?_,q,es,ep,hq,h2,h3,h4,h5⟩
  rw[zi (zca ec e (λz=>nomatch z))]
  exact ec
end
section
variable{X:Cx}{pins:List (Addr×Obj)}{σ:St}{H:Hp}{s:Shared}{a:Addr}{kvs:List (Key×V)}{k:Key}{u:Value}{A:Around}{E:Value->Shared->Prop}
theorem zn6{Q:Value->Shared->Prop}(I:Inv X pins σ H s)(e:H a=some (.dK kvs))(h:∀s',Inv X pins σ (upd H a (.dK [])) s'->Q .none s'):wpAny (model X.prog X.w) A (call (.builtin "dict.clear") [.ref a]) Q E s:=by
 obtain⟨z,hd,vs,rel,dd⟩:=zgl I.hok e
 refine call_meetsIn PySem.F.slot_dict_clear dd.typeIs PySem.F.entry_dict_clear (PySem.F.args_dict_clear_1 _) (meets_dict_clear (zai X.prog X.w) a) ⟨vs,dd,by rw[←rel.length];exact z,λh' dd' hs=>h _ ?_⟩
 have he:∃q,h'.get? a=some q:=let⟨q,_,_,hq,_⟩:=dd';⟨q,hq⟩
 exact zdY (t':=s.toks) I (by rw[e];exact True.intro) hs he (zhv (ξi _) hd .nil dd')
end
def zoi(i:Expr):Prop:=∀ov iv,subscripted i false ov iv=operate [ov,iv] (getItem ov iv)
theorem zkl{prog:Program}{w:World}{A:Around}{E:Value->Shared->Prop}{s:Shared}{env:Env}{value slice:Expr}{pos:Pos}{T id:String}{Q:Value->Shared->Prop}
 (hl:typeLookup (.type T) "__getitem__"=pure (some (.builtin id))) (hs:zoi slice)
 (h:wpAny (model prog w) A (eval value env) (λo s₁=>wpAny (model prog w) A (eval slice env) (λi s₂=>s₂.TypeIs o T/\wpAny (model prog w) A (getItem o i) Q E s₂) E s₁) E s):
 wpAny (model prog w) A (eval (.Subscript value slice pos) env) Q E s:=by
 refine Subscript_ (ψc h (λo s₁ h₁=>ψc h₁ (λi s₂ h₂=>?_) λ_ _ x=>x) λ_ _ x=>x)
 obtain⟨hT,h₂⟩:=h₂
 unfold subscriptTail
 refine ζb ?_
 rw[getitemInPython_of_ne hT.not_modules]
 refine ζb (wpAny_specialOf hT hl ?_)
 have fin:wpAny (model prog w) A (subscripted slice false o i) (λr s₃=>wpAny (model prog w) A (letTemporaryGo value o r>>=λ_=>pure r) Q E s₃) E s₂:=by
  rw[hs o i]
  exact wpAny_operating (ψc h₂ (λr s₃ h₃=>ζb (wpAny_letTemporaryGo (ζr h₃))) λ_ _ x=>x)
 first
  |exact ζr (ζb fin)
  |exact ζb (ζr (ζb fin))
  |exact ζb fin
theorem zhI{X:Cx}{pins:List (Addr×Obj)}{σ:St}{H:Hp}{s:Shared}{a:Addr}{y:V}{o:Option V}(I:Inv X pins σ H s)(g:DGet H a y o):s.TypeIs (.ref a) "dict":=by
 rcases g with⟨kvs,k,e,_,_⟩|⟨kvs,k,b,e,_,_,_⟩
 ·obtain ⟨_,_,vs,_,dd⟩:=zkr I.hok e
  exact dd.typeIs
 ·obtain ⟨_,_,xs,_,dd⟩:=zjC I.hok e
  exact dd.typeIs
noncomputable def zpE(td ty:TE):TE:=λσ H Q=>td σ H λx H1=>ty σ H1 λy H2=>∃a v,x= .ref a/\DGet H2 a y (some v)/\Q v H2
noncomputable def zpz(td ty tv:TE):TS:=λD σ H=>tv σ H λv H1=>td σ H1 λx H2=>ty σ H2 λy H3=>∃a H4,x= .ref a/\DPut H3 a y v H4/\D.nx σ H4
section
variable{X:Cx}{o i e value:Expr}{pos pos' tpos:Pos}{td ty tv:TE}
theorem zn0(hu:X.A.units+1<cLine)(ho:PE X o td)(hi:PE X i ty)(hs:zoi i):PE X (.Subscript o i pos) (zpE td ty):=by
 intro pins s σ H Q I h
 refine zkl PySem.F.slot_dict_getitem.lookup hs (thn (ho pins s σ H _ I h) λu s1 ⟨x,H1,I1,rx,q1⟩=>thn (hi pins s1 σ H1 _ I1 q1) λiv s2 ⟨y,H2,I2,ry,a,v,ex,g,q2⟩=>?_)
 subst ex
 obtain rfl:u=Value.ref a:=rx
 exact⟨zhI I2 g,zlo hu I2 g ry λw' s3 I3 rw'=>⟨v,H2,I3,rw',q2⟩⟩
theorem zoX(hu:X.A.units+1<cLine)(ho:PE X o td)(hi:PE X i ty)(hv:PE X value tv)(hs:swapsWith value (some (.Subscript o i pos')) pos.line X.env=pure false):
 PS X (.Assign [.Subscript o i pos'] value pos) (zpz td ty tv):=by
 intro pins s σ H D I h
 refine wpAny_Assign_Subscript (thn (hv pins s σ H _ I h) λr s1 ⟨v,H1,I1,rv,q1⟩=>thn (ho pins s1 σ H1 _ I1 q1) λu s2 ⟨x,H2,I2,rx,q2⟩=>thn (hi pins s2 σ H2 _ I2 q2) λiv s3 ⟨y,H3,I3,ry,a,H4,ex,g,q3⟩=>?_) hs
 subst ex
 obtain rfl:u=Value.ref a:=rx
 exact zlG hu I3 g ry rv λs4 I4=>⟨σ,H4,I4,q3⟩
end
theorem zia{P:Program}{w:World}{H:Hp}(h:Heap)(hb:sysModules<h.objs.size):ObjOk P w H (h.push {cls:= .type "dict",data:= .dict #[]}) h.objs.size (.dK []):=
 ⟨ξi _,beq_eq_false_iff_ne.mpr (Ne.symm (ξj hb)),[], .nil,Heap.DictOf.new h⟩
theorem zmZ{P:Program}{w:World}{H:Hp}(h:Heap)(hb:sysModules<h.objs.size):ObjOk P w H (h.push {cls:= .type "dict",data:= .dict #[]}) h.objs.size (.dT []):=
 ⟨ξi _,beq_eq_false_iff_ne.mpr (Ne.symm (ξj hb)),[], .nil,_, #[],0,ζj _ rfl,⟨rfl,rfl,rfl⟩,rfl,rfl,List.nodup_nil⟩
noncomputable def zmn:TE:=λ_ H Q=>∀p,H p=none->Q (.ref p) (upd H p (.dK []))
noncomputable def znt:TE:=λ_ H Q=>∀p,H p=none->Q (.ref p) (upd H p (.dT []))
section
variable{X:Cx}{pos:Pos}
theorem zmQ:PE X (.Dict [] [] pos) zmn:=λpins s σ H Q I h=>
 wpAny_Dict_empty ⟨.ref s.heap.objs.size,_,I.laid (a:=s.heap.objs.size) (o:= .dK []) (t':=s.toks) (λ_ _ q=>ζc _ q) (ζt _) (zia s.heap I.big),rfl,h _ (I.hok.fresh (ζt _))⟩
theorem zmX:PE X (.Dict [] [] pos) znt:=λpins s σ H Q I h=>
 wpAny_Dict_empty ⟨.ref s.heap.objs.size,_,I.laid (a:=s.heap.objs.size) (o:= .dT []) (t':=s.toks) (λ_ _ q=>ζc _ q) (ζt _) (zmZ s.heap I.big),rfl,h _ (I.hok.fresh (ζt _))⟩
end
def zmi:List (TE×TE)->St->Hp->(List (V×V)->Hp->Prop)->Prop
 |[],_,H,Q=>Q [] H
 |(tk,tv)::r,σ,H,Q=>tk σ H λx H1=>tv σ H1 λy H2=>zmi r σ H2 λps H3=>Q ((x,y)::ps) H3
abbrev VV:List (V×V)->List (Value×Value)->Prop:=Paired λp q=>RelV p.1 q.1/\RelV p.2 q.2
def PPs(X:Cx)(pos:Pos)(keys:List (Option Expr))(values:List Expr)(trs:List (TE×TE)):Prop:=
 ∀(pins:List (Addr×Obj)) (s:Shared) (σ:St) (H:Hp) (Q:List (V×V)->Hp->Prop),Inv X pins σ H s->zmi trs σ H Q->
  wpAny (model X.prog X.w) X.A (evalPairs (pairTrees keys values X.env pos)) (λvs s'=>∃ps H',Inv X pins σ H' s'/\VV ps vs/\Q ps H') X.xe s
structure M1(X:Cx)(o:Expr)(m:Str)(apos:Pos)(e:Expr)(cpos:Pos):Prop where
 base:attributeBase o m X.env (eval o X.env)=eval o X.env
 few:((backTo cpos (starEach [e] X.env)).all (λx=>!x.1)&&(backToKw cpos (keywordEach [] X.env)).all (λx=>x.1.isSome)
  &&decide (([e]:List Expr).length+([]:List Keyword).length+(if([]:List Keyword).isEmpty then 0 else 1)<30))=true
 line:(apos.endLine==cpos.line)=true
 trees:backTo cpos (starEach [e] X.env)=[(false,eval e X.env)]
structure M2(X:Cx)(o:Expr)(m:Str)(apos:Pos)(e f:Expr)(cpos:Pos):Prop where
 base:attributeBase o m X.env (eval o X.env)=eval o X.env
 few:((backTo cpos (starEach [e,f] X.env)).all (λx=>!x.1)&&(backToKw cpos (keywordEach [] X.env)).all (λx=>x.1.isSome)
  &&decide (([e,f]:List Expr).length+([]:List Keyword).length+(if([]:List Keyword).isEmpty then 0 else 1)<30))=true
 line:(apos.endLine==cpos.line)=true
 trees:backTo cpos (starEach [e,f] X.env)=[(false,eval e X.env),(false,eval f X.env)]
section
variable{X:Cx}{pins:List (Addr×Obj)}{σ:St}{H:Hp}{s:Shared}{a:Addr}{y d:V}{u r:Value}{o:Option V}{A:Around}{E:Value->Shared->Prop}
end
section
variable{X:Cx}{o e f:Expr}{apos cpos:Pos}{td ty tx:TE}
end
section
variable{X:Cx}{pins:List (Addr×Obj)}{σ:St}{H:Hp}{s:Shared}{a:Addr}{kvs:List (Key×V)}{A:Around}{E:Value->Shared->Prop}
end
section
variable{X:Cx}{pins:List (Addr×Obj)}{σ:St}{H:Hp}{s:Shared}{a:Addr}{y:V}{u:Value}{A:Around}{E:Value->Shared->Prop}
end
section
variable{X:Cx}
theorem zkv:∀{bs:List Bool} {us:List Value} {i:Nat} {v:Value},Vals (bs.map V.bl) us->us[i]?=some v->∃b,bs[i]?=some b/\v= .bool b
 |[],_,_,_, .nil,e=>by simp at e
 |b::bs,_,0,v, .cons r _,e=>by
  simp at e
  subst e
  exact⟨b,rfl,r⟩
 |b::bs,_,i+1,v, .cons _ t,e=>by
  obtain⟨c,h1,h2⟩:=zkv (i:=i) t (by simpa using e)
  exact⟨c,by simpa using h1,h2⟩
noncomputable def atB(bs:List Bool)(j:Nat):Bool:=match bs[j]? with|some b=>b|none=>true
theorem zhc(bs:List Bool):(List.range bs.length).all (atB bs)=bs.all id:=by
 refine Eq.trans ?_ (PyProof.Rows.all_rangeD bs (id:Bool->Bool))
 congr 1
 funext j
 unfold atB
 cases bs[j]?<;>rfl
theorem zlv{X:Cx}(hc:X.calm=true):CallR X (.builtin "all") (λxs H Q=>∃(p:Addr) (bs:List Bool),xs=[.ref p]/\SqL X.K H p (bs.map V.bl)/\Q (.bl (bs.all id)) H):=by
 intro pins s σ H xs us Q I r h
 obtain⟨p,bs,rfl,hq,q⟩:=h
 obtain⟨u,rfl,ru⟩:=zbG r
 cases ru
 obtain⟨its,rv,pl,hz⟩:=I.list hq
 have hp:p≠s.heap.objs.size:=ξj pl.lt
 refine call_all_walk (wpAny_pyIter_list pl.isList ?_)
 refine⟨s.heap.objs.size,_,_,_,_,_,atB bs,rfl,Walks.list (A:=X.A.in1) (show X.A.in1.handled=none from I.ok.hd hc) _ p hp its.toArray,⟨⟨_,ζj _ rfl,rfl,rfl⟩,?_⟩,?_,λh' tk hk=>?_⟩
 ·obtain ⟨o,n,e,c,_,d⟩:=pl
  exact⟨o,ζc _ e,c,n,d⟩
 ·intro i v s' Q' E' hP hQ
  obtain⟨b,h1,rfl⟩:=zkv (i:=i) (v:=v) rv (by simpa using hP)
  refine wpAny_truthy_bool ?_
  have e:atB bs i=b:=by unfold atB;rw[h1]
  rw[e] at hQ
  exact hQ
 ·have hl:its.toArray.size=bs.length:=by
   have:=rv.length
   simp at this
   simp[this]
  rw[hl,zhc]
  refine⟨.bl (bs.all id),H,I.kept λb o e=>hk b o ?_ (ζc _ e),rfl,q⟩
  intro z
  have:b=s.heap.objs.size:=by simpa using z
  exact absurd (ζm e) (by rw[this];exact Nat.lt_irrefl _)
theorem zbj:∀{ys:List Str} {us:List Value},Vals (ys.map V.str) us->StrsAre us ys
 |[],_, .nil=>by first|exact .nil|trivial
 |y::ys,_, .cons r t=>by
  obtain⟨k,rfl⟩:=r
  first
   |exact .cons _ _ (zbj t)
   |exact .cons (zbj t)
   |exact⟨⟨k,rfl⟩,zbj t⟩
noncomputable def zfl(z:Str)(n:Nat):Str:=⟨(List.replicate n z.cps).foldl (·++·) #[]⟩
theorem ziV:OpR X (binaryOp .Mult) (λx y H Q=>∃z n,x= .str z/\y= .int n/\1<n/\n<=1000/\0<z.length/\z.length<=1000/\Q (.str (zfl z n.toNat)) H):=by
 intro pins s σ H x y v u Q I rx ry h
 obtain⟨z,n,rfl,rfl,h1,h2,h3,h4,q⟩:=h
 obtain⟨t,rfl⟩:=rx
 obtain⟨t',rfl⟩:=ry
 have e1:¬n<1:=by omega
 have e2:(n==1||z.length==0)=false:=by
  have a:(n==1)=false:=beq_eq_false_iff_ne.mpr (by omega)
  have b:(z.length==0)=false:=beq_eq_false_iff_ne.mpr (by omega)
  rw[a,b];rfl
 have hz:z.length*n.toNat<=1000*1000:=Nat.mul_le_mul h4 (by omega)
 refine PySem.P.mul_str ?_ (λ_ _=>?_) (λ_ _=>?_) ?_
 ·have a:decide (n< -(2^63:Int))=false:=ζn (by omega)
  have b:decide (n≥2^63)=false:=ζn (by omega)
  rw[a,b];rfl
 ·have hd:(1000:Int)<=(2^63 -1)/n:=by
   apply Int.le_ediv_of_mul_le (by omega)
   omega
  omega
 ·have hb:z.length*n.toNat<=sizeLine:=ξa hz (by decide)
  unfold Builtin.Str.tooLong
  exact ζn (by omega)
 ·rw[if_neg e1,e2]
  simp only[Bool.false_eq_true,if_false]
  refine⟨?_,⟨.str _,H,I.tok _,⟨_,rfl⟩,q⟩⟩
  have key:∀(k:Nat) (acc:Array Nat),((List.replicate k z.cps).foldl (·++·) acc).size=acc.size+k*z.cps.size:=by
   intro k
   induction k with
   |zero=>intro acc;simp
   |succ k ih=>intro acc;rw[List.replicate_succ,List.foldl_cons,ih,Array.size_append,Nat.succ_mul];omega
  have hk:=key n.toNat #[]
  have hz':n.toNat *z.cps.size<=1000*1000:=Nat.mul_le_mul (by omega) h4
  have hsl:1000*1000<=sizeLine:=by decide
  show((List.replicate n.toNat z.cps).foldl (·++·) #[]).size<=sizeLine
  rw[hk]
  simp only[Array.size_empty]
  omega
theorem zl5:CallR X (.builtin "isinstance") (λxs H Q=>∃x T t b,xs=[x, .ty T]/\TyOf X.K H x t/\PySem.W.kitOne X.K t (.type T)=some b/\Q (.bl b) H):=by
 intro pins s σ H xs us Q I r h
 obtain⟨x,T,t,b,rfl,ht,hk,q⟩:=h
 obtain⟨u,w',rfl,ru,rw'⟩:=zkf r
 cases rw'
 exact zlc I ru ht hk λtk=>⟨.bl b,H,I.tok _,rfl,q⟩
theorem zbL:bootBuiltins "len"=some (.builtin "len"):=by decide +kernel
theorem zri:bootBuiltins "all"=some (.builtin "all"):=by decide +kernel
theorem zf5:bootBuiltins "isinstance"=some (.builtin "isinstance"):=by decide +kernel
theorem zqN:bootBuiltins "max"=some (.builtin "max"):=by decide +kernel
theorem ziN:bootBuiltins "min"=some (.builtin "min"):=by decide +kernel
theorem zbV:bootBuiltins "sorted"=some (.builtin "sorted"):=by decide +kernel
theorem zep:bootBuiltins "int"=some (.type "int"):=by decide +kernel
theorem zay:bootBuiltins "tuple"=some (.type "tuple"):=by decide +kernel
theorem zol:bootBuiltins "list"=some (.type "list"):=by decide +kernel
theorem znU:bootBuiltins "dict"=some (.type "dict"):=by decide +kernel
theorem few{α:Type}{xs:List α}(h:Nat.ble xs.length 1000=true):xs.length<=sizeLine:=ξg (zj (Nat.le_of_ble_eq_true h))
noncomputable def zeE:Expr->Option V
 | .Constant (.str x) _ _=>some (.str x)
 | .Constant (.int i) _ _=>some (.int i)
 | .Constant (.bool b) _ _=>some (.bl b)
 | .Constant .none _ _=>some .non
 |_=>none
theorem zlO{e:Expr}{v:V}(h:zeE e=some v):PE X e (tC v)/\∀es,starEach (e::es) X.env=(false,eval e X.env)::starEach es X.env:=by
 cases e with
 |Constant c j pos=>
  cases c with
  |str x=>cases h;exact⟨zme,λ_=>rfl⟩
  |int x=>cases h;exact⟨zl0,λ_=>rfl⟩
  |bool x=>cases h;exact⟨zpv,λ_=>rfl⟩
  |none=>cases h;exact⟨zl4,λ_=>rfl⟩
  |_=>cases h
 |_=>cases h
noncomputable def zsg(vs:List V):TA:=λ_ H Q=>Q vs H
theorem zec:∀{es:List Expr} {vs:List V},es.mapM zeE=some vs->PA X es (zsg vs)
 |[],vs,h=>by
  have e:vs=[]:=by simpa using h.symm
  subst e
  exact zmV
 |e::es,vs,h=>by
  rw[List.mapM_cons] at h
  cases h1:zeE e with
  |none=>rw[h1] at h;cases h
  |some v=>
   rw[h1] at h
   cases h2:es.mapM zeE with
   |none=>rw[h2] at h;cases h
   |some us=>
    rw[h2] at h
    have e1:v::us=vs:=ξh h
    subst e1
    obtain⟨p,st⟩:=zlO (X:=X) h1
    have q:=zjL p (zec (es:=es) h2) (st es)
    exact q
noncomputable def zpw(vs:List V):TE:=λ_ H Q=>vs.length<=sizeLine/\∀p,H p=none->Q (.ref p) (upd H p (.lst vs))
theorem znW(vs:List V){es:List Expr}{pos:Pos}(h:es.mapM zeE=some vs):PE X (.List es pos) (zpw vs):=zl2 (zec h)
end
structure Wk(J:It)(n:Nat)(P:Nat->V->Prop)(ok:Hp->Prop):Prop where
 stop:∀i H,ok H->n<=i->J.stop i H
 go:∀i H,ok H->i<n->J.go i H
 yld:∀i H x H',ok H->i<n->J.yld i H x H'->H'=H/\P i x
theorem zdi{K:ξk}{a:Addr}{xs:List V}:Wk (Itl K a) xs.length (λi x=>xs[i]?=some x) (λH=>SqL K H a xs) where
 stop:=λi H h l=>⟨xs,h,l⟩
 go:=λi H h l=>⟨xs,xs[i],h,by simp[l]⟩
 yld:=λi H x H' h l y=>⟨y.1,y.2 xs h⟩
theorem zaI{K:ξk}{a:Addr}{xs:List V}:Wk (Itt K a) xs.length (λi x=>xs[i]?=some x) (λH=>SqT K H a xs) where
 stop:=λi H h l=>⟨xs,h,l⟩
 go:=λi H h l=>⟨xs,xs[i],h,by simp[l]⟩
 yld:=λi H x H' h l y=>⟨y.1,y.2 xs h⟩
theorem zbZ{lo:Int}{n:Nat}:Wk (Itr lo n) n (λi x=>x= .int (lo+i)) (λ_=>True) where
 stop:=λi H h l=>l
 go:=λi H h l=>l
 yld:=λi H x H' h l y=>y
theorem zaR{J:It}{n:Nat}{P:Nat->V->Prop}{ok:Hp->Prop}{g:TG}{tc:TT}{te:TE}{src:List (Option Nat)}{σ:St}{H1:Hp}{Q:VK}(wk:Wk J n P ok)(Pv:Addr->Nat->List V->St->Hp->Prop)
 (h0:∀l,H1 l=none->Pv l 0 [] (zeI src σ) (upd H1 l (.lst []))) (hok:∀l i ys σ H,H1 l=none->Pv l i ys σ H->ok H)
 (hs:∀l i x ys σ H,H1 l=none->i<n->P i x->Pv l i ys σ H->H l=some (.lst ys)->g x σ H λσ2 H3=>tc σ2 H3 λb H4=>
   if b=true then te σ2 H4 λy H5=>H5 l=some (.lst ys)/\ys.length<sizeLine/\Pv l (i+1) (ys ++ [y]) σ2 (upd H5 l (.lst (ys ++ [y])))else H4 l=some (.lst ys)/\Pv l (i+1) ys σ2 H4)
 (hd:∀l ys σ H,H1 l=none->Pv l n ys σ H->H l=some (.lst ys)->Q (.ref l) H):
 zfh g tc te src σ Q J H1:=by
 intro l hl
 refine⟨λi m ys σ H=>m=n -i/\i<=n/\Pv l i ys σ H,⟨n,by simp,ξi _,h0 l hl⟩,?_⟩
 rintro i m ys σ' H' ⟨rfl,hi,p⟩ hl'
 by_cases hlt:i<n
 ·refine .inr ⟨wk.go i H' (hok l i ys σ' H' hl p) hlt,Pv l (i+1),λzs σ2 H2 q=>⟨n -(i+1),by omega,rfl,hlt,q⟩,λx H2 y=>?_⟩
  obtain⟨rfl,px⟩:=wk.yld i H' x H2 (hok l i ys σ' H' hl p) hlt y
  exact hs l i x ys σ' _ hl hlt px p hl'
 ·have e:i=n:=by omega
  subst e
  exact .inl ⟨wk.stop _ _ (hok l _ ys σ' H' hl p) (ζt _),hd l ys σ' H' hl p hl'⟩
theorem zaU{J:It}{n:Nat}{P:Nat->V->Prop}{ok:Hp->Prop}{g:TG}{tb:TS}{D:Ends}{σ:St}{H:Hp}(wk:Wk J n P ok)(Pv:Nat->St->Hp->Prop)(h0:Pv 0 σ H)(hok:∀i σ H,Pv i σ H->ok H)
 (hs:∀i x σ H,i<n->P i x->Pv i σ H->g x σ H λσ2 H2=>tb {D with nx:=Pv (i+1),ct:=Pv (i+1),bk:=D.nx} σ2 H2) (hd:∀σ H,Pv n σ H->D.nx σ H):
 zpW g tb D σ J H:=by
 refine⟨λi m σ H=>m=n -i/\i<=n/\Pv i σ H,⟨n,by simp,ξi _,h0⟩,?_⟩
 rintro i m σ H ⟨rfl,hi,p⟩
 by_cases hlt:i<n
 ·refine .inr ⟨wk.go i H (hok i σ H p) hlt,Pv (i+1),λσ' H' q=>⟨n -(i+1),by omega,rfl,hlt,q⟩,λx H' y=>?_⟩
  obtain⟨rfl,px⟩:=wk.yld i H x H' (hok i σ H p) hlt y
  exact hs i x σ _ hlt px p
 ·have e:i=n:=by omega
  subst e
  exact .inl ⟨wk.stop _ _ (hok _ σ H p) (ζt _),hd σ H p⟩
structure QE(X:Cx)(e:Expr)(t:TE):Prop where o:PE X e t
structure QT(X:Cx)(e:Expr)(t:TT):Prop where o:PT X e t
structure QW(X:Cx)(e:Expr)(t:TT):Prop where o:PW X e t
structure QA(X:Cx)(es:List Expr)(t:TA):Prop where o:PA X es t
structure QS(X:Cx)(s:Stmt)(t:TS):Prop where o:PS X s t
structure QB(X:Cx)(s:List Stmt)(t:TS):Prop where o:PSs X s t
structure QI(X:Cx)(tg iter:Expr)(t:TI):Prop where o:PI X tg iter t
structure QG(X:Cx)(tg:Expr)(t:TG):Prop where o:PG X tg t
structure QGs(X:Cx)(tg:List Expr)(t:TGs):Prop where o:PGs X tg t
structure QF(X:Cx)(ifs:List Expr)(t:TT):Prop where o:PIf X ifs t
structure QO(X:Cx)(e:Option Expr)(t:TO):Prop where o:PO X e t
structure QPs(X:Cx)(pos:Pos)(keys:List (Option Expr))(values:List Expr)(trs:List (TE×TE)):Prop where o:PPs X pos keys values trs
section
variable{X:Cx}{a b c e o i:Expr}{es:List Expr}{ta tb tc te to ti:TE}{t u:TA}{pos p apos cpos:Pos}{j:Nat}{x:Str}{sa sb:TS}{q q':TT}{rest:List Expr}
theorem qv(i:Nat){x:Str}{pos:Pos}(hN:X.N[i]?=some x:=by rfl)(hv:Vis X.env.scope x:=by exact Or.inl rfl)(hd:(x==("__debug__":Str))=false:=by decide)
 (hcd:(x==("__classdict__":Str))=false:=by decide):QE X (.Name x pos) (zkX i):=⟨zlX hN hv hd hcd⟩
theorem qc(i:Nat){x:Str}{pos:Pos}(hN:X.N[i]?=some x:=by rfl)(hv:X.env.scope.names.lookup x=some .cell:=by rfl)(hd:(x==("__debug__":Str))=false:=by decide)
 (hcd:(x==("__classdict__":Str))=false:=by decide):QE X (.Name x pos) (zkX i):=⟨zlX hN (.inr (.inl hv)) hd hcd⟩
theorem zf{k:Int}:QE X (.Constant (.int k) j pos) (tC (.int k)):=⟨zl0⟩
theorem zah{k:Str}:QE X (.Constant (.str k) j pos) (tC (.str k)):=⟨zme⟩
theorem ziY{k:Bool}:QE X (.Constant (.bool k) j pos) (tC (.bl k)):=⟨zpv⟩
theorem zaC:QE X (.Constant .none j pos) (tC .non):=⟨zl4⟩
theorem zsf{T:String}(hm:X.mg x=none)(hv:bootBuiltins x=some (.type T))(hg:Gl X x:=by rfl)(hn:x≠"__name__":=by decide)(hd:(x==("__debug__":Str))=false:=by decide):QE X (.Name x pos) (tC (.ty T)):=⟨znJ hg hm hv rfl hn hd⟩
theorem zS{op:Operator}{r:R2}(ho:OpR X (binaryOp op) r)(ha:QE X a ta)(hb:QE X b tb):QE X (.BinOp a op b pos) (tOp r ta tb):=⟨zrD ho ha.o hb.o⟩
theorem zma{op:UnaryOp}{r:V->Hp->VK->Prop}(ho:UnR X (unaryOp op) r)(ha:QE X a ta):QE X (.UnaryOp op a pos) (tUn r ta):=⟨zr0 ho ha.o⟩
theorem zbH{op:CmpOp}{r:R2}(ho:OpR X (compareOp op) r)(ha:QE X a ta)(hb:QE X b tb)(hm:behindInMarks op b=false:=by rfl):QE X (.Compare a [op] [b] pos) (tOp r ta tb):=⟨zoL ho ha.o hb.o hm⟩
theorem zC{op:CmpOp}{r:R2}(ho:OpR X (compareOp op) r)(ha:QE X a ta)(hb:QE X b tb)(hm:behindInMarks op b=false:=by rfl):QT X (.Compare a [op] [b] pos) (zpU (tOp r ta tb)):=⟨zo3 ho ha.o hb.o hm⟩
theorem zps{op:BoolOp}(h:QE X a ta):QE X (.BoolOp op [a] pos) ta:=⟨zqK h.o⟩
theorem zpT(ha:QE X a ta)(hb:QE X (.BoolOp .And (b::rest) pos) tb):QE X (.BoolOp .And (a::b::rest) pos) (zpI ta tb):=⟨zp8 ha.o hb.o⟩
theorem zpM(ha:QE X a ta):QE X (.UnaryOp .Not a pos) (zpC ta):=⟨zq1 ha.o⟩
theorem zji(hc:QT X c q)(ha:QE X a ta)(hb:QE X b tb):QE X (.IfExp c a b pos) (tIf q ta tb):=⟨zl7 hc.o ha.o hb.o⟩
theorem zrh(ha:QT X a q):QW X (.BoolOp .And [a] pos) q:=⟨zoy ha.o⟩
theorem zjA(ha:QT X a q):QW X (.BoolOp .Or [a] pos) q:=⟨zqd ha.o⟩
theorem zr6(ha:QT X a q)(hb:QW X (.BoolOp .And (b::rest) pos) q'):QW X (.BoolOp .And (a::b::rest) pos) (zr8 q q'):=⟨zqw ha.o hb.o⟩
theorem znN(ha:QT X a q)(hb:QW X (.BoolOp .Or (b::rest) pos) q'):QW X (.BoolOp .Or (a::b::rest) pos) (tOr q q'):=⟨zrW ha.o hb.o⟩
theorem t_w(h:QW X a q):QT X a q:=⟨h.o.pt⟩
theorem zmA(ha:QT X a q):QT X (.UnaryOp .Not a pos) (zrR q):=⟨zqJ ha.o⟩
theorem ziA(h:QE X e te)(he:∀whole,isTrue e X.env whole=(do let v ←whole;standAt e.pos;holding [v] (truthy v)):=by intro _;rfl):QT X e (tB te):=⟨zq5 h.o he⟩
theorem zoR(h:QE X e te)(he:∀whole,isTrue e X.env whole=(do let v ←whole;standAt e.pos;holding [v] (truthy v)):=by intro _;rfl):QT X e (λσ H Q=>te σ H λx H'=>∃k,zp5 X.K x H' k/\Q k H'):=⟨znG h.o he⟩
theorem zd:QA X [] zqB:=⟨zmV⟩
theorem za(ha:QE X e te)(hr:QA X es t)(hs:starEach (e::es) X.env=(false,eval e X.env)::starEach es X.env:=by rfl):QA X (e::es) (zkD te t):=⟨zjL ha.o hr.o hs⟩
theorem zD{k:Nat}(h:QA X es t):QE X (.Tuple es k pos) (zrQ t):=⟨zq0 h.o⟩
theorem zcO(h:QA X es t):QE X (.List es pos) (zrl t):=⟨zl2 h.o⟩
theorem zey(vs:List V)(h:es.mapM zeE=some vs):QE X (.List es pos) (zpw vs):=⟨znW vs h⟩
theorem zn{CX:CXT}{k:Nat}{f:Addr}{fd:FuncData}{ps:List Str}{sp:Sp}{dvs:List V}{ds:List Value}{E:XK}(F:FnOk X.prog X.w X.K X.mg X.base CX k f fd ps sp)(hr:Room k X.A)(hm:X.mg x=some (.ref f))(hk:PySem.W.keepIn X.K (.ref f)=true)(hb:Binds X.K fd ps ds)(hd:Vals dvs ds)(hx:zcK CX X E)
 (ha:QA X (e::es) t) (hg:Gl X x:=by rfl) (hdb:(x==("__debug__":Str))=false:=by decide) (he:starEach (e::es) X.env=(false,eval e X.env)::starEach es X.env:=by rfl) (hpl:(backTo pos (starEach es X.env)).any (·.1)=false:=by rfl):
 QE X (.Call (.Name x p) (e::es) [] pos) (zpD sp dvs E t):=⟨zo1 F hr hg hm hk hb hd hx ha.o hdb he hpl⟩
theorem zE{id:String}{r:List V->Hp->VK->Prop}(hc:CallR X (.builtin id) r)(hm:X.mg x=none)(hv:bootBuiltins x=some (.builtin id))(ha:QA X (e::es) t)(hg:Gl X x:=by rfl)(hn:x≠"__name__":=by decide)(hdb:(x==("__debug__":Str))=false:=by decide)
 (he:starEach (e::es) X.env=(false,eval e X.env)::starEach es X.env:=by rfl) (hpl:(backTo pos (starEach es X.env)).any (·.1)=false:=by rfl):QE X (.Call (.Name x p) (e::es) [] pos) (tCB r t):=⟨zmb hc hg hm hv ha.o hn hdb he hpl⟩
theorem zL{T:String}{r:List V->Hp->VK->Prop}(hc:CallR X (.type T) r)(hm:X.mg x=none)(hv:bootBuiltins x=some (.type T))(ha:QA X (e::es) t)(hg:Gl X x:=by rfl)(hn:x≠"__name__":=by decide)(hdb:(x==("__debug__":Str))=false:=by decide)
 (he:starEach (e::es) X.env=(false,eval e X.env)::starEach es X.env:=by rfl) (hpl:(backTo pos (starEach es X.env)).any (·.1)=false:=by rfl):QE X (.Call (.Name x p) (e::es) [] pos) (tCB r t):=⟨zlz hc hg hm hv ha.o hn hdb he hpl⟩
theorem zN{r:R2}(hr:IxR X r)(ha:QE X a ta)(hb:QE X b tb)(hs:zkc b:=by exact λ_ _=>rfl):QE X (.Subscript a b pos) (tOp r ta tb):=⟨zr3 hr ha.o hb.o hs⟩
theorem zeF:QO X none zhf:=⟨zoC⟩
theorem zcV(h:QE X e te):QO X (some e) (zpy te):=⟨zoO h.o⟩
theorem zi2{r:V->Option Int->Option Int->Hp->VK->Prop}{lo hi:Option Expr}{tl th:TO}(hr:SlR X r)(he:QE X e te)(hl:QO X lo tl)(hu:QO X hi th):QE X (.Subscript e (.Slice lo hi none p) pos) (tSl r te tl th):=⟨zmL hr he.o hl.o hu.o⟩
theorem zdS{T id:String}{name:Str}{r:V->List V->Hp->VK->Prop}(pa:PlainAttrs T)(slot:Slot T name id)(hty:typeOf (.builtin id)=pure (.type "method_descriptor"))(hm:MtR X id r)(ho:QE X o to)(ha:QA X (e::es) t)
 (hbase:attributeBase o name X.env (eval o X.env)=eval o X.env:=by rfl)
 (hfew:((backTo cpos (starEach (e::es) X.env)).all (λx=>!x.1)&&(backToKw cpos (keywordEach [] X.env)).all (λx=>x.1.isSome)
   &&decide ((e::es).length+([]:List Keyword).length+(if([]:List Keyword).isEmpty then 0 else 1)<30))=true:=by rfl)
 (hline:(apos.endLine==cpos.line)=true:=by rfl) (hs:starEach (e::es) X.env=(false,eval e X.env)::starEach es X.env:=by rfl) (hplain:(backTo cpos (starEach es X.env)).any (·.1)=false:=by rfl):
 QE X (.Call (.Attribute o name apos) (e::es) [] cpos) (tBM X.K T r to t):=⟨zrB pa slot hty hm ho.o ha.o hbase hfew hline hs hplain⟩
theorem zeo{tg:Expr}(h:QE X e te):QI X tg e (zkH X.K te):=⟨zoD h.o⟩
theorem zbD{tg:Expr}(h:QE X e te):QI X tg e (zo6 X.K te):=⟨zqZ h.o⟩
theorem zbY{tg:Expr}(hm:X.mg "range"=none)(ha:QA X [a] t)(hg:Gl X "range":=by rfl)(hs:starEach [a] X.env=[(false,eval a X.env)]:=by rfl):QI X tg (.Call (.Name "range" p) [a] [] pos) (zpB t):=⟨zlu hg hm ha.o hs⟩
theorem zr(k:Nat)(hN:X.N.Nodup)(hi:X.N[k]?=some x:=by rfl)(hx:X.env.scope.names.lookup x=some .local:=by rfl):QG X (.Name x pos) (zcW k):=⟨zkp hN hi (.inl hx) (.inr hx)⟩
theorem zbe:QGs X [] zrG:=⟨zom⟩
theorem zu{tg:TG}{tgs:TGs}(h1:QG X e tg)(h2:QGs X es tgs)(hs:(assignEach (e::es) X.env).map (·.2)=assign e X.env::(assignEach es X.env).map (·.2):=by rfl):QGs X (e::es) (zpK tg tgs):=⟨znr h1.o h2.o hs⟩
theorem zdx(n:Nat){k:Nat}{tgs:TGs}(hc:X.calm=true)(h:QGs X es tgs)(hn:(assignEach es X.env).length=n:=by rfl)(hst:(assignEach es X.env).findIdx? (·.1)=none:=by rfl):QG X (.Tuple es k pos) (zrn X.K n tgs):=⟨zq8 hc h.o hn hst⟩
theorem zdN:QF X [] zqf:=⟨zou⟩
theorem zd6(h:QT X c q):QF X [c] q:=⟨znY h.o⟩
theorem zab:QB X [] zpY:=⟨zpj⟩
theorem zg{st:Stmt}{sts:List Stmt}(h1:QS X st sa)(h2:QB X sts sb):QB X (st::sts) (zrA sa sb):=⟨zhL h1.o h2.o⟩
theorem zm{st:Stmt}(h1:QS X st sa):QB X [st] sa:=⟨zoP h1.o⟩
theorem zaP{A B:List Stmt}(hc:QT X c q)(ha:QB X A sa)(hb:QB X B sb):QS X (.If c A B pos) (zrs q sa sb):=⟨zr2 hc.o ha.o hb.o⟩
theorem zz(h:QE X e te):QS X (.Return (some e) pos) (zrC te):=⟨zrm h.o⟩
theorem zbK(he:QE X e te)(hs:swapsWith e none pos.line X.env=pure false:=by rfl):QS X (.Expr e pos) (zpG te):=⟨zo2 he.o hs⟩
theorem zqH:QS X (.Continue pos) zpZ:=⟨zif⟩
theorem zO(k:Nat){pos':Pos}(hN:X.N.Nodup)(he:QE X e te)(hi:X.N[k]?=some x:=by rfl)(hx:X.env.scope.names.lookup x=some .local:=by rfl)(hs:swapsWith e (some (.Name x pos')) pos.line X.env=pure false:=by rfl):
 QS X (.Assign [.Name x pos'] e pos) (zjc te (zcW k)):=⟨znD hN hi (.inl hx) he.o hs (.inr hx)⟩
theorem zdG(k:Nat){pos':Pos}(hN:X.N.Nodup)(he:QE X e te)(hi:X.N[k]?=some x:=by rfl)(hx:X.env.scope.names.lookup x=some .cell:=by rfl)(hf:X.fn x=true:=by rfl)(hs:swapsWith e (some (.Name x pos')) pos.line X.env=pure false:=by rfl):
 QS X (.Assign [.Name x pos'] e pos) (zjc te (zcW k)):=⟨znD hN hi (.inr hx) he.o hs (.inl hf)⟩
theorem zbO{tg iter:Expr}{body:List Stmt}{wi:TI}{g:TG}(hp:PassesOwn (model X.prog X.w) X.A X.env X.xe)(hc:X.calm=true)(hi:QI X tg iter wi)(hg:QG X tg g)(hb:QB X body sa)
 (hs:∀x,foldedSetIterable iter X.env x=pure x:=by intro _;rfl):QS X (.For tg iter body [] pos) (zpx wi g sa):=⟨zox hp hc hi.o hg.o hb.o hs⟩
end
section
variable{X:Cx}{elt tg iter:Expr}{ifs:List Expr}{scope osc:Scope}{pos:Pos}{N':List Str}{src:List (Option Nat)}{wi:TI}{g:TG}{tc:TT}{te:TE}
theorem zb6(ok:CompOk X.N osc N' src scope)(hsc:X.env.scope=osc)(hc:X.calm=true)(hi:QI X tg iter wi)
 (hg:∀cl C s₀ H₀ fp,QG (zk X N' scope cl C s₀ H₀ fp) tg g) (ht:∀cl C s₀ H₀ fp,QF (zk X N' scope cl C s₀ H₀ fp) ifs tc) (he:∀cl C s₀ H₀ fp,QE (zk X N' scope cl C s₀ H₀ fp) elt te)
 (hs:∀x,foldedSetIterable iter X.env x=pure x:=by intro _;rfl):QE X (.ListComp elt [⟨tg,iter,ifs,0⟩] scope pos) (zjZ wi g tc te src):=
 ⟨zpf ok hsc hc hi.o (λcl C s₀ H₀ fp=>(hg cl C s₀ H₀ fp).o) (λcl C s₀ H₀ fp=>(ht cl C s₀ H₀ fp).o) (λcl C s₀ H₀ fp=>(he cl C s₀ H₀ fp).o) hs⟩
end
theorem Fun.okQ{P:Program}{w:World}{K:ξk}{mg:Str->Option Value}{base:Heap}{x qual:Str}{st:Stmt}{f:Addr}{fd:FuncData}{N ps:List Str}{k:Nat}{sp:Sp}(F:Fun K x qual st f fd)(S:FnScope N ps (zc st))(len:∀vs H Q E,sp vs H Q E->vs.length=ps.length)
 (hbody:∀(cdv:Value) (A:Around) (outer:List Env) (s:Shared) (H:Hp) (vs:List V) (Q:VK) (E:XK),Room k (A.deeper (envOfC qual (zc st) s.heap.objs.size f cdv))->sp vs H Q E->
   ∃t,QB (zhO CX0 P w K mg base N qual (zc st) f cdv A outer s H E).nox (zo st) t/\t {nx:=λ_ H'=>Q .non H',rt:=Q} (zdw N vs) H):FnOk P w K mg base CX0 (k+1) f fd ps sp:=
 F.ok S len λcdv A outer s H vs Q E hr h=>let ⟨t,a,b⟩:=hbody cdv A outer s H vs Q E hr h;⟨t,a.o,b⟩
theorem zqq{h:Heap}{a:Addr}{m:Str->Option Value}(hn:h.Ns a m):∃o,h.get? a=some o/\∀v,o.data≠ .cell v:=
 let⟨o,es,ep,e,d,_⟩:=hn;⟨o,e,λv z=>by rw[d] at z;cases z⟩
theorem zpa{h h':Heap}{a:Addr}{m:Str->Option Value}{o:Obj}(hn:h.Ns a m)(e:h.get? a=some o)(e':h'.get? a=some o):h'.Ns a m:=by
 obtain⟨o',es,ep,e1,r⟩:=hn
 rw[e] at e1
 cases e1
 exact⟨o,es,ep,e',r⟩
section
variable{X:Cx}{elt tg iter:Expr}{ifs:List Expr}{scope osc:Scope}{pos:Pos}{N':List Str}{src:List (Option Nat)}{wi:TI}{g:TG}{tc:TT}{te:TE}{y:Str}{py spos:Pos}{k:Nat}
theorem zjk(ok:CompOk X.N osc N' src scope)(hsc:X.env.scope=osc)(hc:X.calm=true)(hi:PI X tg iter wi)
 (hg:∀cl C s₀ H₀ fp,PG (zk X N' scope cl C s₀ H₀ fp) tg g) (ht:∀cl C s₀ H₀ fp,PIf (zk X N' scope cl C s₀ H₀ fp) ifs tc) (he:∀cl C s₀ H₀ fp,PE (zk X N' scope cl C s₀ H₀ fp) elt te)
 (hN:X.N.Nodup) (hk:X.N[k]?=some y) (hx:X.env.scope.names.lookup y=some .local) (hsw:swapsWith (.ListComp elt [⟨tg,iter,ifs,0⟩] scope pos) (some (.Name y py)) spos.line X.env=pure true)
 (hs:∀x,foldedSetIterable iter X.env x=pure x:=by intro _;rfl):PS X (.Assign [.Name y py] (.ListComp elt [⟨tg,iter,ifs,0⟩] scope pos) spos) (zjc (zjZ wi g tc te src) (zcW k)):=by
 intro pins s σ H D I h
 obtain⟨cl,hcl,c1,c2⟩:=zcD (scope:=scope) (env:=X.env) λy hy hyf=>I.ok.has y.1 (by
  have z:=ok.frees y hy hyf
  rw[←hsc] at z
  exact z)
 rw[exec_Assign_Name_used _ _ _ _ hsw]
 refine ζb (wpAny_standAt (ζb ?_))
 show wpAny _ X.A (do let _ ←comprehension (.ListComp elt [⟨tg,iter,ifs,0⟩] scope pos) scope X.env _ (newList []) false (eval iter X.env) (some (assign (.Name y py) X.env))) _ _ s
 refine ζb (ψc (wpAny_comprehension_free (use:=some (assign (.Name y py) X.env)) (Q:=λ_ s'=>∃σ' H',Inv X pins σ' H' s'/\D.nx σ' H') rfl hs hcl ok.kind ok.loc
  (thn (hi pins s σ H _ I h) λv s1 h1=>thn h1 λitv s2 h2=>?_)) (λ_ s' hq=>ζr (ζr hq)) λ_ _ e=>e)
 obtain⟨it,fp,tn,J,H2,e,I2,T,st2,f2,q2⟩:=h2
 subst e
 have hlt2:∀b∈fp,b<s2.heap.objs.size:=λb hb=>by
  obtain⟨o,e,_⟩:=T.obj _ _ st2 b hb
  exact ζm e
 refine wpAny_newObj_type ?_
 have hl:H2 s2.heap.objs.size=none:=I2.hok.fresh (ζt _)
 have I3:Inv X pins σ (upd H2 s2.heap.objs.size (.lst [])) {s2 with heap:=s2.heap.push {cls:= .type "list",dict:=none,data:= .seq ([]:List Value).toArray}}:=
  I2.laid (t':=s2.toks) (λb u e=>ζc _ e) (ζt _) ⟨ξi _,[],0, .nil,ζj _ rfl⟩
 obtain⟨W,⟨m0,w0⟩,turn⟩:=q2 _ hl
 generalize hl2:s2.heap.objs.size=l at *
 generalize hs3:({s2 with heap:=s2.heap.push {cls:= .type "list",dict:=none,data:= .seq ([]:List Value).toArray}}:Shared)=s3 at *
 have f3:∀b∈fp,zcT X pins (upd H2 l (.lst [])) b:=λb hb=>⟨by rw[zi (ξj (hlt2 b hb))];exact(f2 b hb).1,(f2 b hb).2⟩
 have k3:∀b o,s2.heap.get? b=some o->s3.heap.get? b=some o:=λb o e=>by rw[←hs3];exact ζc _ e
 have hlt3:∀b∈fp,b<s3.heap.objs.size:=λb hb=>by
  obtain⟨o,e,_⟩:=T.obj _ _ st2 b hb
  exact ζm (k3 b o e)
 refine wpAny_newFunctionEnv ok.nocell (by intro y hy;simp at hy) (λh₁ hns₁ hsb₁=>?_) ok.kind
 have k4:∀b o,s3.heap.get? b=some o->h₁.get? b=some o:=λb o e=>(hsb₁.2 b (ξj (ζm e))).trans (ζc _ e)
 have J0:=zcL (tk:=s3.toks+([]:List (Str×Value)).length) I3 f3 hlt3 ok hsc c1 c2 hns₁ k4
 have st4:tn 0 h₁:=T.keep _ _ _ st2 λb hb o e=>k4 b o (k3 b o e)
 generalize hC:s3.heap.objs.size=C at *
 have stat:∀{H':Hp},(∀b∈fp,H' b=none)->∀b∈fp,zcT (zk X N' scope cl C s3 (upd H2 l (.lst [])) fp) [] H' b:=λ{H'} hn b hb=>
  ⟨hn b hb,(J0.ok.exf b hb).1,J0.ok.exfs b hb, .inl hb,(J0.ok.exf b hb).2,λp hp=>absurd (show p∈([]:List (Addr×Obj))from hp) (by simp)⟩
 have loop:codeAny (model X.prog X.w) X.A (.compLoop (.ListComp elt [⟨tg,iter,ifs,0⟩] scope pos) 0 (.ref it) (.ref l) (compEnvC scope cl C X.env))
  (compPost (model X.prog X.w) X.A X.xe (some (assign (.Name y py) X.env)) (λ_ s'=>∃σ' H',Inv X pins σ' H' s'/\D.nx σ' H') (.ref l) C) {s3 with heap:=h₁,toks:=s3.toks+([]:List (Str×Value)).length}:=by
  refine zd7 (λn s'=>∃i ys σ' H',Inv (zk X N' scope cl C s3 (upd H2 l (.lst [])) fp) [] σ' H' s'/\tn i s'.heap/\(∀b∈fp,H' b=none)/\H' l=some (.lst ys)/\W i n ys σ' H') ?_ m0
   ⟨0,[],_,_,J0,st4,λb hb=>(f3 b hb).1,zb,w0⟩
  rintro n s5 ⟨i,ys,σ5,H5,I5,st5,fr5,hl5,w5⟩
  rcases turn i n ys σ5 H5 w5 hl5 with⟨stop,qn⟩|⟨go,N,hN,step⟩
  ·refine thn (T.done (zk X N' scope cl C s3 (upd H2 l (.lst [])) fp) rfl rfl rfl hc i [] s5 σ5 H5 (λ_ _=>False) I5 (stat fr5) st5 stop) λr s6 ⟨hr,I6⟩=>?_
   subst hr
   obtain⟨m,hn,_⟩:=I6.loc
   have hCs:s3.heap.objs.size<=C:=by rw[←hC];exact ζt _
   have I7:Inv X pins σ H5 s6:=zcw (h':=s6.heap) I3 f3 hCs I6 ⟨rfl,λ_ _=>rfl⟩
   have fC:zcT X pins H5 C:=I3.fpOk hCs I6.free
   obtain⟨oC,eC,dC⟩:∃o,s6.heap.get? C=some o/\∀v,o.data≠ .cell v:=by
    obtain⟨o,e,d⟩:=zqq hn
    exact⟨o,e,d⟩
   have I8:=I7.pinned (fp:=[C]) (λb hb=>by rw[List.mem_singleton.mp hb];exact fC) (λb hb=>by rw[List.mem_singleton.mp hb];exact⟨oC,eC,dC⟩)
   refine wpAny_assign_Name (zcZ (v:= .ref l) I8 hN hk (.inl hx) rfl (λs9 I9=>?_) (.inr hx))
   have p9:=(I9.pin (C,oC) (ξl _ (ξl _ (zX (List.mem_singleton.mpr rfl) eC)))).1
   refine⟨m,zpa hn eC p9,λh' hsb=>⟨_,H5,?_,qn⟩⟩
   obtain⟨f0,f1,f2,f3',f4,f5⟩:=fC
   exact I9.unpinned.turned (t':=s9.toks) (λb o hb e=>(hsb.2 b hb).trans e) f0 f1 f3' f4 f5
  ·refine thn (T.item (zk X N' scope cl C s3 (upd H2 l (.lst [])) fp) rfl rfl rfl hc i [] s5 σ5 H5 (λ_ _=>False) I5 (stat fr5) st5 go) λr s6 ⟨u,hr,h6⟩=>?_
   subst hr
   refine thn h6 λ_ s7 ⟨x,H7,I7,r7,y7,st7,fr7⟩=>?_
   have I7':=I7.pinned (stat fr7) (T.obj _ _ st7)
   refine thn (hg cl C s3 _ fp _ s7 σ5 H7 x u _ I7' r7 (step x H7 y7)) λ_ s8 ⟨σ8,H8,I8,q8⟩=>?_
   refine thn (ht cl C s3 _ fp _ s8 σ8 H8 _ I8 q8) λb s9 ⟨H9,I9,q9⟩=>?_
   have back:∀{s':Shared} {H':Hp},Inv (zk X N' scope cl C s3 (upd H2 l (.lst [])) fp) ([]++zbM fp s7.heap) σ8 H' s'->tn (i+1) s'.heap/\∀b∈fp,H' b=none:=λ{s' H'} I'=>by
    refine⟨T.keep _ _ _ st7 λb hb o e=>(I'.pin (b,o) (ξl _ (ξl _ (zX hb e)))).1,λb hb=>?_⟩
    obtain⟨o,e,d⟩:=T.obj _ _ st7 b hb
    exact(I'.pin (b,o) (ξl _ (ξl _ (zX hb e)))).2.1
   cases b with
   |false=>
    obtain⟨hl9,n9⟩:=q9
    obtain⟨m',hm,w9⟩:=hN _ _ _ n9
    obtain⟨t9,fr9⟩:=back I9
    exact⟨m',hm,i+1,ys,σ8,H9,I9.unpinned,t9,fr9,hl9,w9⟩
   |true=>
    refine thn (he cl C s3 _ fp _ s9 σ8 H9 _ I9 q9) λxv s10 ⟨y,H10,I10,r10,hl10,hz,n10⟩=>?_
    obtain⟨m',hm,w10⟩:=hN _ _ _ n10
    refine thn (zan (X:=zk X N' scope cl C s3 (upd H2 l (.lst [])) fp) _ s10 σ8 H10 (.ref l) [y] (.ref l) [xv] (λv H'=>H'=upd H10 l (.lst (ys ++ [y]))) I10 rfl (.cons r10 .nil) ⟨l,ys,y,rfl,rfl,hl10,hz,rfl⟩) λ_ s11 ⟨_,H11,I11,_,e11⟩=>?_
    subst e11
    obtain⟨t11,fr11⟩:=back I11
    exact⟨m',hm,i+1,ys ++ [y],σ8,_,I11.unpinned,t11,fr11,zb,w10⟩
 exact codeAny_compStart_list loop (T.self _ 0 _ _ _ st4 loop)
theorem zdl(k:Nat)(ok:CompOk X.N osc N' src scope)(hsc:X.env.scope=osc)(hc:X.calm=true)(hN:X.N.Nodup)(hi:QI X tg iter wi)
 (hg:∀cl C s₀ H₀ fp,QG (zk X N' scope cl C s₀ H₀ fp) tg g) (ht:∀cl C s₀ H₀ fp,QF (zk X N' scope cl C s₀ H₀ fp) ifs tc) (he:∀cl C s₀ H₀ fp,QE (zk X N' scope cl C s₀ H₀ fp) elt te)
 (hk:X.N[k]?=some y:=by rfl) (hx:X.env.scope.names.lookup y=some .local:=by rfl) (hsw:swapsWith (.ListComp elt [⟨tg,iter,ifs,0⟩] scope pos) (some (.Name y py)) spos.line X.env=pure true:=by rfl)
 (hs:∀x,foldedSetIterable iter X.env x=pure x:=by intro _;rfl):QS X (.Assign [.Name y py] (.ListComp elt [⟨tg,iter,ifs,0⟩] scope pos) spos) (zjc (zjZ wi g tc te src) (zcW k)):=
 ⟨zjk ok hsc hc hi.o (λcl C s₀ H₀ fp=>(hg cl C s₀ H₀ fp).o) (λcl C s₀ H₀ fp=>(ht cl C s₀ H₀ fp).o) (λcl C s₀ H₀ fp=>(he cl C s₀ H₀ fp).o) hN hk hx hsw hs⟩
end
section
variable{X:Cx}{e o i tg:Expr}{te to ti:TE}{g:TG}{pos:Pos}{x:Str}{t:zo7}
theorem zgs(he:QE X e te)(hg:QG X tg g)(hs:swapsWithSole [tg] e pos.line X.env=pure false:=by rfl)(hw:swappedStores [tg] e X.env=pure none:=by rfl)
 (h1:(assignEach [tg] X.env).map (·.2)=[assign tg X.env]:=by rfl):QS X (.Assign [tg] e pos) (zjc te g):=⟨zq7 he.o hg.o hs hw h1⟩
theorem zlS(ho:QE X o to)(hi:QE X i ti)(hs:zrc X t)(ha:∀v,assign (.Subscript o i pos) X.env v=(do
 let ov ←holding [v] (eval o X.env)
 let iv ←holding [v,ov] (eval i X.env)
 standAt pos
 holding [v,ov,iv] (setItem ov iv v)
 release [v,ov,iv] []):=by intro _;rfl):QG X (.Subscript o i pos) (zrS to ti t):=⟨zqg ho.o hi.o hs ha⟩
theorem zcG(k:Nat)(hN:X.N.Nodup)(hi:X.N[k]?=some x:=by rfl)(hx:X.env.scope.names.lookup x=some .cell:=by rfl)(hf:X.fn x=true:=by rfl):QG X (.Name x pos) (zcW k):=⟨zkp hN hi (.inr hx) (.inl hf)⟩
end
noncomputable def zsr(t u:TS):TS:=λD σ H=>∃R:St->Hp->Prop,t {D with nx:=R} σ H/\∀σ' H',R σ' H'->u D σ' H'
theorem zgp{X:Cx}{st:Stmt}{sts:List Stmt}{sa sb:TS}(h1:QS X st sa)(h2:QB X sts sb):QB X (st::sts) (zsr sa sb):=by
 refine⟨λpins s σ H D I h=>?_⟩
 obtain⟨R,ha,hb⟩:=h
 have h3:PSs X sts (λD' σ' H'=>D'=D/\R σ' H'):=λpins s σ' H' D' I h=>by
  obtain⟨rfl,hR⟩:=h
  exact h2.o pins s σ' H' D' I (hb σ' H' hR)
 have e:(λσ' H'=>D=D/\R σ' H')=R:=by
  funext σ' H'
  simp
 refine zhL h1.o h3 pins s σ H D I ?_
 show sa {D with nx:=λσ' H'=>D=D/\R σ' H'} σ H
 rw[e]
 exact ha
section
variable{X:Cx}
theorem zm5(z:Str):zfl z 1=z:=by
 unfold zfl
 simp
theorem zhX:OpR X (binaryOp .Mult) (λx y H Q=>∃z n,x= .str z/\y= .int n/\1<=n/\n<=1000/\0<z.length/\z.length<=1000/\Q (.str (zfl z n.toNat)) H):=by
 intro pins s σ H x y v u Q I rx ry h
 obtain⟨z,n,rfl,rfl,h1,h2,h3,h4,q⟩:=h
 by_cases h:1<n
 ·exact ziV pins s σ H _ _ v u Q I rx ry ⟨z,n,rfl,rfl,h,h2,h3,h4,q⟩
 ·have e:n=1:=by omega
  subst e
  obtain⟨t,rfl⟩:=rx
  obtain⟨t',rfl⟩:=ry
  refine PySem.P.mul_str (by decide) (λ_ z=>by simp at z) (λ_ z=>by simp at z) ?_
  simp only[show¬(1:Int)<1 by decide,if_false,beq_self_eq_true,Bool.true_or,if_true]
  refine⟨.str _,H,I,⟨_,rfl⟩,?_⟩
  have e:zfl z (1:Int).toNat=z:=zm5 z
  rw[e] at q
  exact q
end
section
variable{X:Cx}{K:ξk}
theorem znd(h:X.K=K):IxR X (zqz K):=by subst h;exact ix_list
theorem zhl(h:X.K=K):IxR X (zp2 K):=by subst h;exact ix_tup
theorem zae:CallR X (.builtin "len") (λxs H Q=>(∃p ys,xs=[.ref p]/\(SqL X.K H p ys\/SqT X.K H p ys)/\Q (.int ys.length) H)\/∃z,xs=[.str z]/\z.length<=sizeLine/\Q (.int z.length) H):=call_len_seq.or zhw
theorem zjm(h:X.K=K):CallR X (.builtin "len") (λxs H Q=>(∃p ys,xs=[.ref p]/\(SqL K H p ys\/SqT K H p ys)/\Q (.int ys.length) H)\/∃z,xs=[.str z]/\z.length<=sizeLine/\Q (.int z.length) H):=by subst h;exact zae
theorem zfH(n:Nat){k:Nat}{es:List Expr}{pos:Pos}{tgs:TGs}(hK:X.K=K)(hc:X.calm=true)(h:QGs X es tgs)(hn:(assignEach es X.env).length=n:=by rfl)(hst:(assignEach es X.env).findIdx? (·.1)=none:=by rfl):QG X (.Tuple es k pos) (zrn K n tgs):=by subst hK;exact zdx n hc h hn hst
end
end L2
namespace RW
open PySem PySem.Spec PyProof.Rows L2
noncomputable def zkG(c:Nat):Bool:=decide (97<=c)&&decide (c<=122)
noncomputable def takenL:List Str:=["if","and","not","never"]
noncomputable def zh(x:Str):Bool:=decide (1<=x.length)&&decide (x.length<=8)&&x.cps.toList.all zkG&&!(takenL.any λy=>decide (y=x))
def Hand(H:Hp)(a:Addr)(n:Int):Prop:=∃x m t:Int,H a=some (.lst [.int x, .int m, .int t])/\0<=m/\m<2^63/\0<=t/\t<=n
def Keep(a:Addr)(H H':Hp):Prop:=∀b o,b≠a->H b=some o->H' b=some o
theorem Keep.refl(a:Addr)(H:Hp):Keep a H H:=λ_ _ _ h=>h
theorem Keep.trans{a:Addr}{H H1 H2:Hp}(x:Keep a H H1)(y:Keep a H1 H2):Keep a H H2:=λb o n h=>y b o n (x b o n h)
theorem Keep.upd(a:Addr)(H:Hp)(o:HO):Keep a H (upd H a o):=λb u n h=>by rw[zi n];exact h
theorem Keep.new{a p:Addr}{H:Hp}{o:HO}(h:H p=none):Keep a H (L2.upd H p o):=λb u n e=>by rw[zi (ze e h)];exact e
theorem Keep.of{a:Addr}{H H':Hp}(h:Same H H'):Keep a H H':=λb o _ e=>h b o e
theorem Hand.ne{H:Hp}{a p:Addr}{n:Int}(h:Hand H a n)(e:H p=none):p≠a:=by
 obtain⟨x,m,t,h,_⟩:=h
 exact λz=>by rw[z,h] at e;cases e
theorem Hand.new{H:Hp}{a p:Addr}{n:Int}{o:HO}(h:Hand H a n)(e:H p=none):Hand (upd H p o) a n:=by
 have ne:=h.ne e
 obtain⟨x,m,t,h,r⟩:=h
 exact⟨x,m,t,by rw[zi (Ne.symm ne)];exact h,r⟩
theorem Hand.same{H H':Hp}{a:Addr}{n:Int}(h:Hand H a n)(s:Same H H'):Hand H' a n:=by
 obtain⟨x,m,t,h,r⟩:=h
 exact⟨x,m,t,s _ _ h,r⟩
theorem Hand.mono{H:Hp}{a:Addr}{n n':Int}(h:Hand H a n)(l:n<=n'):Hand H a n':=by
 obtain⟨x,m,t,h,h1,h2,h3,h4⟩:=h
 exact⟨x,m,t,h,h1,h2,h3,by omega⟩
theorem Keep.sqL{K:ξk}{a b:Addr}{H H':Hp}{xs:List V}(k:Keep a H H')(n:b≠a)(h:SqL K H b xs):SqL K H' b xs:=by
 rcases h with(h|⟨o,h⟩)|h
 ·exact .inl (.inl (k _ _ n h))
 ·exact .inl (.inr ⟨o,k _ _ n h⟩)
 ·exact .inr h
theorem Hand.updNe{H:Hp}{a p:Addr}{n:Int}{o:HO}(h:Hand H a n)(e:p≠a):Hand (upd H p o) a n:=by
 obtain⟨x,m,t,h,r⟩:=h
 exact⟨x,m,t,by rw[zi (Ne.symm e)];exact h,r⟩
theorem Keep.updNew{a p:Addr}{H H':Hp}{o:HO}(k:Keep a H H')(e:H p=none):Keep a H (L2.upd H' p o):=λb u n h=>by
 rw[zi (ze h e)]
 exact k b u n h
noncomputable def lettersS:Str:="abcdefghijklmnopqrstuvwxyz"
noncomputable def one(c:Nat):Str:=⟨#[c]⟩
theorem Same.new{H:Hp}{p:Addr}{o:HO}(h:H p=none):Same H (L2.upd H p o):=λb u e=>by rw[zi (ze e h)];exact e
structure At(K:ξk)(mg:Str->Option Value)(x:Str)(st:Stmt)(ps:List Str)(f:Addr)(fd:FuncData):Prop where
 fn:Fun K x x st f fd
 b:Binds K fd ps []
 mg:mg x=some (.ref f)
 kp:PySem.W.keepIn K (.ref f)=true
theorem ze7{α:Type}{xs:List α}{d:Int}(h0:0<=d)(h1:d<xs.length):∃v,atI xs d=some v/\v∈xs:=by
 obtain⟨k,rfl⟩:∃k:Nat,d=(k:Int):=⟨d.toNat,by omega⟩
 have hk:k<xs.length:=by omega
 exact⟨xs[k],zQ (by simp[hk]),List.getElem_mem hk⟩
theorem at0{α:Type}{x:α}{xs:List α}:atI (x::xs) 0=some x:=zQ (j:=0) rfl
theorem at1{α:Type}{x y:α}{xs:List α}:atI (x::y::xs) 1=some y:=zQ (j:=1) rfl
theorem tru{b:Bool}(h:¬b=true):b=false:=by simpa using h
inductive D where
 |non|bl (b:Bool)|int (i:Int)|str (x:Str)|tup (ds:List D)|oth
inductive Rep(H:Hp):V->D->Prop where
 |non:Rep H .non .non
 |bl (b:Bool):Rep H (.bl b) (.bl b)
 |int (i:Int):Rep H (.int i) (.int i)
 |str (x:Str) (h:x.length<=1000):Rep H (.str x) (.str x)
 |tup {p:Addr} {vs:List V} {ds:List D} (h:H p=some (.tup vs)) (l:vs.length=ds.length) (b:ds.length<=1000) (r:∀(i:Nat) (v:V) (d:D),vs[i]?=some v->ds[i]?=some d->Rep H v d):Rep H (.ref p) (.tup ds)
 |lst {p:Addr} {vs:List V} (h:H p=some (.lst vs)):Rep H (.ref p) .oth
 |dK {p:Addr} {kvs:List (Key×V)} (h:H p=some (.dK kvs)):Rep H (.ref p) .oth
structure Mono(H H':Hp):Prop where
 tup:∀p xs,H p=some (.tup xs)->H' p=some (.tup xs)
 lst:∀p xs,H p=some (.lst xs)->∃ys,H' p=some (.lst ys)
 dK:∀p xs,H p=some (.dK xs)->∃ys,H' p=some (.dK ys)
theorem Mono.trans{H H1 H2:Hp}(a:Mono H H1)(b:Mono H1 H2):Mono H H2:=⟨λp xs h=>b.tup p xs (a.tup p xs h),λp xs h=>let ⟨ys,e⟩:=a.lst p xs h;b.lst p ys e,λp xs h=>let ⟨ys,e⟩:=a.dK p xs h;b.dK p ys e⟩
theorem Mono.of{H H':Hp}(s:Same H H'):Mono H H':=⟨λp xs h=>s _ _ h,λp xs h=>⟨xs,s _ _ h⟩,λp xs h=>⟨xs,s _ _ h⟩⟩
theorem Mono.new{H:Hp}{p:Addr}{o:HO}(h:H p=none):Mono H (upd H p o):= .of (Same.new h)
theorem Mono.lset{H:Hp}{p:Addr}{xs ys:List V}(h:H p=some (.lst xs)):Mono H (upd H p (.lst ys)):=by
 refine⟨λq zs e=>?_,λq zs e=>?_,λq zs e=>?_⟩
 ·by_cases hq:q=p
  ·subst hq;rw[h] at e;cases e
  ·rw[zi hq];exact e
 ·by_cases hq:q=p
  ·subst hq;exact⟨ys,zb⟩
  ·rw[zi hq];exact⟨zs,e⟩
 ·by_cases hq:q=p
  ·subst hq;rw[h] at e;cases e
  ·rw[zi hq];exact⟨zs,e⟩
theorem Mono.keep{H H':Hp}{a:Addr}{n m:Int}(k:Keep a H H')(h:Hand H a n)(h':Hand H' a m):Mono H H':=by
 obtain⟨x,y,z,h,_⟩:=h
 obtain⟨x',y',z',h',_⟩:=h'
 refine⟨λq zs e=>?_,λq zs e=>?_,λq zs e=>?_⟩
 ·exact k q _ (λhq=>by subst hq;rw[h] at e;cases e) e
 ·by_cases hq:q=a
  ·subst hq;exact⟨_,h'⟩
  ·exact ⟨zs,k q _ hq e⟩
 ·exact ⟨zs,k q _ (λhq=>by subst hq;rw[h] at e;cases e) e⟩
theorem Rep.mono{H H':Hp}{v:V}{d:D}(h:Rep H v d)(m:Mono H H'):Rep H' v d:=by
 induction h with
 |non=>exact .non
 |bl b=>exact .bl b
 |int i=>exact .int i
 |str x h=>exact .str x h
 |tup h l b _ ih=>exact .tup (m.tup _ _ h) l b ih
 |lst h=>obtain ⟨ys,e⟩:=m.lst _ _ h;exact .lst e
 |dK h=>obtain ⟨ys,e⟩:=m.dK _ _ h;exact .dK e
theorem Rep.same{H H':Hp}{v:V}{d:D}(h:Rep H v d)(s:Same H H'):Rep H' v d:=h.mono (.of s)
def RepL(H:Hp)(vs:List V)(ds:List D):Prop:=vs.length=ds.length/\∀(i:Nat) (v:V) (d:D),vs[i]?=some v->ds[i]?=some d->Rep H v d
theorem RepL.nil{H:Hp}:RepL H [] []:=⟨rfl,λi v d e=>by simp at e⟩
theorem RepL.cons{H:Hp}{v:V}{d:D}{vs:List V}{ds:List D}(h:Rep H v d)(r:RepL H vs ds):RepL H (v::vs) (d::ds):=by
 refine⟨by simp[r.1],λi w e h1 h2=>?_⟩
 cases i with
 |zero=>simp at h1 h2;subst h1;subst h2;exact h
 |succ i=>exact r.2 i w e (by simpa using h1) (by simpa using h2)
theorem RepL.head{H:Hp}{v:V}{d:D}{vs:List V}{ds:List D}(r:RepL H (v::vs) (d::ds)):Rep H v d/\RepL H vs ds:=
 ⟨r.2 0 v d rfl rfl,by have:=r.1;simp at this;exact this,λi w e h1 h2=>r.2 (i+1) w e (by simpa using h1) (by simpa using h2)⟩
theorem RepL.mono{H H':Hp}{vs:List V}{ds:List D}(r:RepL H vs ds)(m:Mono H H'):RepL H' vs ds:=⟨r.1,λi v d h1 h2=>(r.2 i v d h1 h2).mono m⟩
theorem RepL.append{H:Hp}{vs us:List V}{ds es:List D}(r:RepL H vs ds)(q:RepL H us es):RepL H (vs ++us) (ds ++es):=by
 refine⟨by rw[ζe,ζe,r.1,q.1],λi v d h1 h2=>?_⟩
 by_cases hi:i<vs.length
 ·rw[ψa hi] at h1
  rw[ψa (by rw[←r.1];exact hi)] at h2
  exact r.2 i v d h1 h2
 ·rw[ξm (by omega)] at h1
  rw[ξm (by rw[←r.1];omega),←r.1] at h2
  exact q.2 _ v d h1 h2
theorem RepL.get{H:Hp}{vs:List V}{ds:List D}{i:Nat}{v:V}(r:RepL H vs ds)(h:vs[i]?=some v):∃d,ds[i]?=some d/\Rep H v d:=by
 have hi:i<vs.length:=by
  rcases ζw i vs.length with q|q
  ·exact q
  ·rw[ζi q] at h;cases h
 have hd:i<ds.length:=by rw[←r.1];exact hi
 exact⟨ds[i],by simp[hd],r.2 i v _ h (by simp[hd])⟩
theorem Rep.mkL{H:Hp}{p:Addr}{vs:List V}{ds:List D}(h:H p=some (.tup vs))(b:ds.length<=1000)(r:RepL H vs ds):Rep H (.ref p) (.tup ds):= .tup h r.1 b r.2
theorem Rep.ofT{H:Hp}{v:V}{ds:List D}(h:Rep H v (.tup ds)):∃p vs,v= .ref p/\H p=some (.tup vs)/\RepL H vs ds/\ds.length<=1000:=by
 cases h with
 |tup h l b r=>exact ⟨_,_,rfl,h,⟨l,r⟩,b⟩
theorem Rep.of2{H:Hp}{v:V}{d e:D}(h:Rep H v (.tup [d,e])):∃p x y,v= .ref p/\H p=some (.tup [x,y])/\Rep H x d/\Rep H y e:=by
 obtain⟨p,vs,rfl,hp,r,_⟩:=h.ofT
 match vs,r with
 |[x,y],r=>exact ⟨p,x,y,rfl,hp,r.head.1,r.head.2.head.1⟩
 |[],r=>exact absurd r.1 (by simp)
 |[_],r=>exact absurd r.1 (by simp)
 |_::_::_::_,r=>exact absurd r.1 (by simp)
theorem Rep.mk1{H:Hp}{p:Addr}{x:V}{d:D}(h:H p=some (.tup [x]))(a:Rep H x d):Rep H (.ref p) (.tup [d]):= .mkL h (by simp) (.cons a .nil)
theorem Rep.mk2{H:Hp}{p:Addr}{x y:V}{d e:D}(h:H p=some (.tup [x,y]))(a:Rep H x d)(b:Rep H y e):Rep H (.ref p) (.tup [d,e]):= .mkL h (by simp) (.cons a (.cons b .nil))
noncomputable def isTupB:D->Bool| .tup _=>true|_=>false
noncomputable def isStrB:D->Bool| .str _=>true|_=>false
noncomputable def isNumB:D->Bool| .int _=>true|_=>false
noncomputable def zfU(d:D)(lo hi:Int):Bool:=match d with| .int i=>decide (lo<=i)&&decide (i<=hi)|_=>false
noncomputable def headStrB:D->Bool| .tup (.str _::_)=>true|_=>false
noncomputable def zdo:D->Bool| .str x=>zh x|_=>false
noncomputable def namingL:List Str:=["by","from","to","mark"]
noncomputable def zB:D->Bool
 | .tup [.str w,x]=>if w="long"then zfU x 0 99 else(namingL.any λy=>decide (y=w))&&zdo x
 |_=>false
noncomputable def zw(d:D):Bool:=match d with
 | .tup [.str w,x]=>if w="not"then zB x else zB d
 |_=>false
noncomputable def zaA:D->Bool| .tup ds=>decide (ds.length<=4)&&ds.all zw|_=>false
noncomputable def zeO:D->Bool| .tup [.str w,_]=>decide (w="to")|_=>false
noncomputable def zcP:D->Bool| .tup [.str w,x]=>if w="not"then zeO x else decide (w="to")|_=>false
noncomputable def zbA:D->Bool| .non=>true|d=>zfU d (-999) 999
noncomputable def zdR:D->Bool| .tup ds=>ds.any zcP|_=>false
noncomputable def zW:D->Bool| .tup [c,x]=>zaA c&&zbA x&&!zdR c|_=>false
noncomputable def zbX:D->Bool
 | .tup [.str w]=>decide (w="keep")
 | .tup [.str w,x]=>(decide (w="put")||decide (w="strike"))&&zdo x
 |_=>false
noncomputable def zbR:D->Bool| .tup [c,x]=>zaA c&&zbX x|_=>false
theorem zd1{w:Str}{x:D}:zB (.tup [.str w,x])=if w="long"then zfU x 0 99 else(namingL.any λy=>decide (y=w))&&zdo x:=rfl
theorem zcy{w:Str}{x:D}:zw (.tup [.str w,x])=if w="not"then zB x else zB (.tup [.str w,x]):=rfl
theorem zh6{ds:List D}:zaA (.tup ds)=(decide (ds.length<=4)&&ds.all zw):=rfl
theorem zk4{c x:D}:zW (.tup [c,x])=(zaA c&&zbA x&&!zdR c):=rfl
theorem znX{c x:D}:zbR (.tup [c,x])=(zaA c&&zbX x):=rfl
theorem zqQ{w:Str}{x:D}:zbX (.tup [.str w,x])=((decide (w="put")||decide (w="strike"))&&zdo x):=rfl
theorem zhC{x:Str}:zdo (.str x)=zh x:=rfl
theorem zbI{x y:Str}:decide (V.str x=V.str y)=decide (x=y):=by
 by_cases h:x=y
 ·subst h;rw[ζf rfl,ζf rfl]
 ·rw[ζn h,ζn λz=>h (V.str.inj z)]
theorem zbu(d:D)(h:zB d=true):∃x e,d= .tup [.str x,e]:=by
 unfold zB at h
 split at h
 ·exact ⟨_,_,rfl⟩
 ·cases h
theorem zek(d:D)(h:zw d=true):∃x e,d= .tup [.str x,e]:=by
 unfold zw at h
 split at h
 ·exact ⟨_,_,rfl⟩
 ·cases h
theorem zci{e:D}:zB (.tup [.str "not",e])=false:=by
 have h1:¬("not":Str)="long":=by decide +kernel
 have h2:(namingL.any λy=>decide (y=("not":Str)))=false:=by decide +kernel
 rw[zd1,if_neg h1,h2];rfl
theorem zlK{xs:List V}{n:Nat}:zbB xs none (some (n:Int))=xs.take n:=by
 unfold zbB
 have e1:HT.sIx xs.length 0 none=0:=rfl
 have e2:HT.sIx xs.length xs.length (some (n:Int))=min n xs.length:=by
  unfold HT.sIx
  have h:¬(n:Int)<0:=by omega
  simp only[if_neg h,Int.toNat_natCast]
 rw[e1,e2,List.drop_zero,Nat.sub_zero,List.take_eq_take_iff]
 omega
theorem ziB{N:Nat}{a:Addr}{m c:Int}{Pd:Nat->D->Prop}{H:Hp}{te:TE}{src:List (Option Nat)}{σ σr:L2.St}{Q:VK}(hs:zeI src σ=none::σr)(hH:Hand H a m)(hN:N<=900)(hc:0<=c)
 (he:∀(i:Nat) (H1:Hp) (Q1:VK),i<N->Hand H1 a (m+c*i)->Keep a H H1->(∀v d H2,Rep H2 v d->Pd i d->Hand H2 a (m+c*i+c)->Keep a H1 H2->Q1 v H2)->te (some (.int (i:Int))::σr) H1 Q1)
 (q:∀l vs ds H',H l=none->H' l=some (.lst vs)->RepL H' vs ds->ds.length=N->(∀i d,ds[i]?=some d->Pd i d)->Hand H' a (m+c*N)->Keep a H H'->Q (.ref l) H'):zfh (zcW 0) zqf te src σ Q (Itr 0 N) H:=by
 refine zaR zbZ (λl i ys σ' H'=>(∃o,σ'=o::σr)/\(∃ds:List D,RepL H' ys ds/\ds.length=i/\∀j d,ds[j]?=some d->Pd j d)/\Hand H' a (m+c*i)/\Keep a H H') ?_ (λ_ _ _ _ _ _ _=>trivial) ?_ ?_
 ·exact λl hl=>⟨⟨_,hs⟩,⟨[],RepL.nil,rfl,λj d z=>by simp at z⟩,(hH.new hl).mono (by simp),Keep.new hl⟩
 ·rintro l i y ys σ' H1 hl hi rfl ⟨⟨o,rfl⟩,⟨ds,hr,hl2,hp⟩,hH1,k1⟩ hl'
  have nl:=hH.ne hl
  rw[Int.zero_add]
  refine he i H1 _ hi hH1 k1 λv d H2 rv pd hH2 k2=>?_
  have hl2':H2 l=some (.lst ys):=k2 _ _ nl hl'
  have m2:Mono H1 H2:=Mono.keep k2 hH1 hH2
  have m3:Mono H2 (upd H2 l (.lst (ys ++ [v]))):=Mono.lset hl2'
  refine⟨hl2',?_,⟨_,rfl⟩,⟨ds ++ [d],((hr.mono m2).append (.cons rv .nil)).mono m3,?_,?_⟩,(hH2.updNe nl).mono ?_,(k1.trans k2).updNew hl⟩
  ·have:=hr.1
   exact zj (by omega)
  ·rw[ζe,hl2];rfl
  ·intro j e he
   by_cases hj:j<ds.length
   ·rw[ψa hj] at he
    exact hp j e he
   ·rw[ξm (by omega)] at he
    have hj2:j=ds.length:=by
     rcases ζw ds.length j with z|z
     ·rw[ζi (by simp;omega)] at he;cases he
     ·omega
    subst hj2
    simp at he
    subst he
    rw[hl2];exact pd
  ·rw[show((i+1:Nat):Int)=(i:Int)+1 by omega,Int.mul_add,Int.mul_one]
   omega
 ·rintro l ys σ' H1 hl ⟨⟨o,rfl⟩,⟨ds,hr,hl2,hp⟩,hH1,k1⟩ hl'
  exact q l ys ds H1 hl hl' hr hl2 hp hH1 k1
end RW
namespace L2
open PySem PySem.Spec PyProof.Rows
open Sem (wp)
open MeetsSeq MeetsSeq2 MeetsSeq3 Builtin
theorem zco:fillsNumberSlot (.type "tuple") "mul"=pure false:=
 PySem.fillsNumberSlot_seq (id:="tuple.__mul__") (r:=some (.builtin "tuple.__rmul__")) PySem.F.slot_tuple_mul.lookup (by decide +kernel) PySem.F.slot_tuple_rmul.lookup (by decide +kernel)
theorem zd3:seqRepeat? (.type "tuple")=pure (some (.builtin "tuple.__mul__")):=by
 unfold seqRepeat?
 rw[PySem.seqSlot_of (T:="tuple") (name:="__mul__") (id:="tuple.__mul__") PySem.F.slot_tuple_mul.lookup (by decide +kernel),PySem.seqSlot_of (T:="tuple") (name:="__rmul__") (id:="tuple.__rmul__") PySem.F.slot_tuple_rmul.lookup (by decide +kernel)]
 rfl
theorem zbf(a:Int)(t:Tok)(l:Addr)(items:Array Value)(n:Nat)(dd:Option Addr)(sl:Array (Option Value)):
 Meets (Builtin.«int.__rmul__» ⟨[.int a t, .ref l],[]⟩) (λ_ R s=>s.heap.get? l=some {cls:= .type "tuple",dict:=dd,data:= .seq items n,slots:=sl}/\R (.ok (.ret Value.notImplemented)) s):=
 .of_wp λprog w A R s h=>by obtain⟨hp,g,d,tk,os⟩:=s;obtain⟨hl,h⟩:=h;wp_walk;exact⟨_,rfl,h⟩
end L2
namespace L2
open PySem PySem.Spec PyProof.Rows
theorem zrp{X:Cx}{pos:Pos}:QE X (.Dict [] [] pos) zmn:=⟨zmQ⟩
end L2
namespace RW
open PySem PySem.Spec PyProof.Rows L2
def Dsp(te:TE)(σ:L2.St)(H:Hp)(d:D):Prop:=∀(H1:Hp) (Q:VK),Same H H1->(∀v H2,Same H1 H2->Rep H2 v d->Q v H2)->te σ H1 Q
def znQ(ta:TA)(σ:L2.St)(H:Hp)(ds:List D):Prop:=∀(H1:Hp) (Q:List V->Hp->Prop),Same H H1->(∀vs H2,Same H1 H2->RepL H2 vs ds->Q vs H2)->ta σ H1 Q
def zrz(te:TE)(σ:L2.St)(H:Hp)(ds:List D):Prop:=∀(H1:Hp) (Q:VK),Same H H1->(∀l vs H2,Same H1 H2->H2 l=some (.lst vs)->RepL H2 vs ds->Q (.ref l) H2)->te σ H1 Q
section
variable{te tf:TE}{ta:TA}{σ:L2.St}{H:Hp}{d:D}{ds es:List D}{K:ξk}
theorem znI{i:Int}:Dsp (tC (.int i)) σ H (.int i):=λH1 Q s q=>q _ H1 (Same.refl _) (.int i)
theorem zoo:Dsp (tC .non) σ H .non:=λH1 Q s q=>q _ H1 (Same.refl _) .non
theorem zoT{i:Int}:Dsp (tUn (rU λi=> .int (-i)) (tC (.int i))) σ H (.int (-i)):=λH1 Q s q=>⟨i,rfl,q _ H1 (Same.refl _) (.int (-i))⟩
theorem zn1{i:Nat}{v:V}(h:σ[i]?=some (some v))(r:Rep H v d):Dsp (zkX i) σ H d:=λH1 Q s q=>⟨v,h,q v H1 (Same.refl _) (r.same s)⟩
theorem zlV:znQ zqB σ H []:=λH1 Q s q=>q [] H1 (Same.refl _) RepL.nil
theorem zk7(h:Dsp te σ H d)(r:znQ ta σ H ds):znQ (zkD te ta) σ H (d::ds):=λH1 Q s q=>
 h H1 _ s λv H2 s2 rv=>r H2 _ (s.trans s2) λvs H3 s3 rs=>q (v::vs) H3 (s2.trans s3) (.cons (rv.same s3) rs)
theorem zmo(h:znQ ta σ H ds)(hl:ds.length<=1000):zrz (zrl ta) σ H ds:=λH1 Q s q=>
 h H1 _ s λvs H2 s2 rs=>⟨ξg (zj (by rw[rs.1];exact hl)),λp hp=>q p vs _ (s2.trans (Same.new hp)) zb (rs.mono (.new hp))⟩
end
section
variable{te:TE}{tr:TA}{tb:TS}{De:Ends}{σ:L2.St}{H:Hp}{ds:List D}{d:D}{k:Nat}
theorem zqU{Q:List V->Hp->Prop}(h:zrz te σ H ds)(q:∀l vs H2,Same H H2->H2 l=some (.lst vs)->RepL H2 vs ds->tr σ H2 λxs H3=>Q (.ref l::xs) H3):zkD te tr σ H Q:=h H _ (Same.refl H) q
end
theorem zjf{α:Type}{p:α->Prop}:∀d∈([]:List α),p d:=λ_ z=>nomatch z
theorem ziO{H:Hp}{a l:Addr}{n:Int}{vs:List V}{ds:List D}(h:Hand H a n)(e:H l=some (.lst vs))(r:RepL H vs ds)(h3:ds.length≠3):l≠a:=λz=>by
 obtain⟨x,m,t,hh,_⟩:=h
 rw[z,hh] at e
 cases e
 exact h3 r.1.symm
end RW
namespace RW
open PySem PySem.W PyProof.Rows L2
section
variable{α β:Type}{N:Nat}{lt:Nat->Nat->Bool}
def OkT(N:Nat)(lt:Nat->Nat->Bool){α:Type}:KasT α->(α->Prop)->Prop
 | .ret a,P=>P a
 | .ask i j k,P=>i<N/\j<N/\OkT N lt (k (lt i j)) P
theorem OkT.mono{P Q:α->Prop}(h:∀a,P a->Q a):∀{t:KasT α},OkT N lt t P->OkT N lt t Q
 | .ret a,q=>h a q
 | .ask i j k,⟨h1,h2,q⟩=>⟨h1,h2,OkT.mono h q⟩
theorem OkT.bind{f:α->KasT β}{P:β->Prop}:∀{t:KasT α},OkT N lt t (λa=>OkT N lt (f a) P)->OkT N lt (t.bind f) P
 | .ret a,q=>q
 | .ask i j k,⟨h1,h2,q⟩=>⟨h1,h2,OkT.bind q⟩
theorem OkT.wp{cmp:Nat->Nat->(Bool->Shared->Prop)->Shared->Prop}{I:Shared->Prop}(hc:∀i j (C:Bool->Shared->Prop) s,i<N->j<N->I s->(∀s',I s'->C (lt i j) s')->cmp i j C s){P:α->Prop}{Q:α->Shared->Prop}(hq:∀a s,P a->I s->Q a s):
 ∀{t:KasT α} {s:Shared},I s->OkT N lt t P->t.kasWp cmp Q s
 | .ret a,s,hs,q=>hq a s q hs
 | .ask i j k,s,hs,⟨h1,h2,q⟩=>hc i j _ s h1 h2 hs λs' hs'=>OkT.wp hc hq hs' q
noncomputable abbrev gd(p:Array Nat)(i:Nat):Nat:=p.getD i 0
structure Strict(N:Nat)(lt:Nat->Nat->Bool):Prop where
 tot:∀i j,i<N->j<N->i≠j->lt i j=false->lt j i=true
 tr:∀i j k,i<N->j<N->k<N->lt i j=true->lt j k=true->lt i k=true
 asy:∀i j,i<N->j<N->lt i j=true->lt j i=false
def PermN(N:Nat)(p:Array Nat):Prop:=p.toList.Perm (List.range N)
theorem PermN.size{p:Array Nat}(h:PermN N p):p.size=N:=by
 have:=h.length_eq
 simpa using this
theorem gd_get{p:Array Nat}{i:Nat}(h:i<p.size):gd p i=p[i]:=by simp[gd,Array.getD,h]
theorem zhz{p q:Array Nat}{i j:Nat}(h:p[i]?=q[j]?):gd p i=gd q j:=by
 simp only[gd,Array.getD_eq_getD_getElem?,h]
theorem PermN.bd{p:Array Nat}(h:PermN N p){i:Nat}(hi:i<N):gd p i<N:=by
 have hs:=h.size
 rw[gd_get (by omega)]
 have:p[i]∈p.toList:=by simp
 exact List.mem_range.mp (h.mem_iff.mp this)
theorem PermN.inj{p:Array Nat}(h:PermN N p){i j:Nat}(hi:i<N)(hj:j<N)(hij:i≠j):gd p i≠gd p j:=by
 have hs:=h.size
 have nd:p.toList.Nodup:=h.nodup_iff.mpr List.nodup_range
 rw[gd_get (by omega),gd_get (by omega)]
 intro z
 exact hij ((List.getElem_inj (i:=i) (j:=j) (h₀:=by simp;omega) (h₁:=by simp;omega) nd).mp (by simpa using z))
def Sor(lt:Nat->Nat->Bool)(p:Array Nat)(m:Nat):Prop:=∀i j,i<j->j<m->lt (gd p i) (gd p j)=true
def Des(lt:Nat->Nat->Bool)(p:Array Nat)(m:Nat):Prop:=∀i j,i<j->j<m->lt (gd p j) (gd p i)=true
theorem Sor.snoc{p:Array Nat}{n:Nat}(S:Strict N lt)(hp:PermN N p)(h:Sor lt p n)(h1:1<=n)(hn:n<N)(e:lt (gd p (n -1)) (gd p n)=true):Sor lt p (n+1):=by
 intro i j hij hj
 by_cases hjn:j<n
 ·exact h i j hij hjn
 ·have ej:j=n:=by omega
  subst ej
  by_cases hi:i=j -1
  ·subst hi;exact e
  ·exact S.tr _ _ _ (hp.bd (by omega)) (hp.bd (by omega)) (hp.bd hn) (h i (j -1) (by omega) (by omega)) e
theorem Des.snoc{p:Array Nat}{n:Nat}(S:Strict N lt)(hp:PermN N p)(h:Des lt p n)(h1:1<=n)(hn:n<N)(e:lt (gd p n) (gd p (n -1))=true):Des lt p (n+1):=by
 intro i j hij hj
 by_cases hjn:j<n
 ·exact h i j hij hjn
 ·have ej:j=n:=by omega
  subst ej
  by_cases hi:i=j -1
  ·subst hi;exact e
  ·exact S.tr _ _ _ (hp.bd hn) (hp.bd (by omega)) (hp.bd (by omega)) e (h i (j -1) (by omega) (by omega))
theorem ziC{p:Array Nat}(S:Strict N lt)(hp:PermN N p):∀f n,1<=n->n+f<=N->Sor lt p n->OkT N lt (kas_asc p f n) (λm=>n<=m/\m<=n+f/\Sor lt p m/\(m<n+f->lt (gd p m) (gd p (m -1))=true))
 |0,n,_,_,hs=>⟨ζt _,ζt _,hs,λh=>by omega⟩
 |f+1,n,h1,hn,hs=>by
  refine⟨hp.bd (by omega),hp.bd (by omega),?_⟩
  cases hc:lt (gd p n) (gd p (n -1))with
  |true=>
   show OkT N lt (if true=true then _ else _) _
   rw[if_pos rfl]
   exact⟨ζt _,by omega,hs,λ_=>hc⟩
  |false=>
   show OkT N lt (if false=true then _ else _) _
   rw[if_neg (by decide)]
   refine OkT.mono (λm hm=>⟨by omega,by omega,hm.2.2.1,λh=>hm.2.2.2 (by omega)⟩) (ziC S hp f (n+1) (by omega) (by omega) (hs.snoc S hp h1 (by omega) (S.tot _ _ (hp.bd (by omega)) (hp.bd (by omega)) (hp.inj (by omega) (by omega) (by omega)) hc)))
theorem zkg{p:Array Nat}(S:Strict N lt)(hp:PermN N p):∀f n,1<=n->n+f<=N->Des lt p n->OkT N lt (kas_desc f p n 0) (λr=>r.1=p/\n<=r.2.1/\r.2.1<=n+f/\Des lt p r.2.1/\r.2.2=0)
 |0,n,_,_,hs=>⟨rfl,ζt _,ζt _,hs,rfl⟩
 |f+1,n,h1,hn,hs=>by
  refine⟨hp.bd (by omega),hp.bd (by omega),?_⟩
  cases hc:lt (gd p n) (gd p (n -1))with
  |true=>
   show OkT N lt (if true=true then(if 0>0 then _ else _)else _) _
   rw[if_pos rfl,if_neg (by decide)]
   exact OkT.mono (λm hm=>⟨hm.1,by omega,by omega,hm.2.2.2⟩) (zkg S hp f (n+1) (by omega) (by omega) (hs.snoc S hp h1 (by omega) hc))
  |false=>
   show OkT N lt (if false=true then _ else _) _
   rw[if_neg (by decide)]
   refine⟨hp.bd (by omega),hp.bd (by omega),?_⟩
   have hd:lt (gd p (n -1)) (gd p n)=true:=S.tot _ _ (hp.bd (by omega)) (hp.bd (by omega)) (hp.inj (by omega) (by omega) (by omega)) hc
   show OkT N lt (if lt (gd p (n -1)) (gd p n)=true then _ else _) _
   rw[if_pos hd]
   exact⟨rfl,ζt _,by show n<=n+(f+1);omega,hs,rfl⟩
theorem zim{p:Array Nat}(hp:PermN N p)(n:Nat):PermN N (kas_rev p 0 n):=(Array.perm_iff_toList_perm.mp (mirror_perm p 0 n _)).trans hp
theorem zoE{p:Array Nat}{n:Nat}(hp:PermN N p)(hn:n<=N)(h:Des lt p n):Sor lt (kas_rev p 0 n) n:=by
 have hs:=hp.size
 have e:∀k,k<n->gd (kas_rev p 0 n) k=gd p (n -1 -k):=λk hk=>by
  refine zhz ?_
  show(mirror p 0 n ((n -0)/2))[k]?=_
  rw[getElem?_mirror_all (by omega),if_pos ⟨ξi _,hk⟩,Nat.zero_add]
 intro i j hij hj
 rw[e i (by omega),e j hj]
 exact h (n -1 -j) (n -1 -i) (by omega) (by omega)
def znz(N:Nat)(lt:Nat->Nat->Bool)(r:Nat×Array Nat):Prop:=PermN N r.2/\Sor lt r.2 r.1/\1<=r.1/\r.1<=N
theorem zny{p:Array Nat}{n:Nat}(S:Strict N lt)(hp:PermN N p)(h1:1<=n)(hn:n<=N)(h:Des lt p n):OkT N lt (kas_tail3 n N p) (znz N lt):=by
 refine OkT.bind (OkT.mono (λm hm=>?_) (ziC S (zim hp n) (N -n) n h1 (by omega) (zoE hp hn h)))
 exact⟨zim hp n,hm.2.2.1,by have:=hm.1;omega,by have:=hm.2.1;omega⟩
theorem znF{p:Array Nat}(S:Strict N lt)(hp:PermN N p)(h1:1<=N):OkT N lt (kas_count N p) (znz N lt):=by
 refine OkT.bind (OkT.mono (λn hn=>?_) (ziC S hp (N -1) 1 (ζt _) (by omega) (λi j hij hj=>by omega)))
 obtain⟨n1,n2,hs,hl⟩:=hn
 by_cases hN:(n==N)=true
 ·rw[if_pos hN]
  exact⟨hp,hs,n1,by omega⟩
 ·have hne:n≠N:=by simpa using hN
  rw[if_neg hN]
  by_cases h2:n>1
  ·rw[if_pos h2]
   refine⟨hp.bd (by omega),hp.bd (by omega),?_⟩
   show OkT N lt (if lt (gd p 0) (gd p (n -1))=true then _ else _) _
   rw[if_pos (hs 0 (n -1) (by omega) (by omega))]
   exact⟨hp,hs,n1,by omega⟩
  ·rw[if_neg h2]
   have e1:n=1:=by omega
   subst e1
   have hd:Des lt p 2:=λi j hij hj=>by
    have ei:i=0:=by omega
    have ej:j=1:=by omega
    subst ei ej
    exact hl (by omega)
   refine OkT.bind (OkT.mono (λr hr=>?_) (zkg S hp (N -(1+1)) (1+1) (by omega) (by omega) hd))
   obtain⟨e1,r1,r2,r3,r4⟩:=hr
   rw[if_neg (by omega),e1]
   exact zny S hp (by omega) (by omega) r3
theorem zfG{p:Array Nat}{k:Nat}(S:Strict N lt)(hp:PermN N p)(hs:Sor lt p k)(hk:k<N):∀f l r,l<=r->r<=k->r -l<=f->(∀i,i<l->lt (gd p i) (gd p k)=true)->(∀i,r<=i->i<k->lt (gd p k) (gd p i)=true)->
 OkT N lt (kas_place p k f l r) (λm=>m<=k/\(∀i,i<m->lt (gd p i) (gd p k)=true)/\∀i,m<=i->i<k->lt (gd p k) (gd p i)=true)
 |0,l,r,h1,h2,h3,ha,hb=>⟨by omega,ha,λi hi=>hb i (by omega)⟩
 |f+1,l,r,h1,h2,h3,ha,hb=>by
  by_cases hlr:l≥r
  ·show OkT N lt (if l≥r then _ else _) _
   rw[if_pos hlr]
   exact⟨by omega,ha,λi hi=>hb i (by omega)⟩
  ·show OkT N lt (if l≥r then _ else _) _
   rw[if_neg hlr]
   refine⟨hp.bd hk,hp.bd (by omega),?_⟩
   cases hc:lt (gd p k) (gd p ((l+r)/2))with
   |true=>
    show OkT N lt (if true=true then _ else _) _
    rw[if_pos rfl]
    refine zfG S hp hs hk f l ((l+r)/2) (by omega) (by omega) (by omega) ha λi hi hik=>?_
    by_cases e:i=(l+r)/2
    ·subst e;exact hc
    ·exact S.tr _ _ _ (hp.bd hk) (hp.bd (by omega)) (hp.bd (by omega)) hc (hs ((l+r)/2) i (by omega) hik)
   |false=>
    show OkT N lt (if false=true then _ else _) _
    rw[if_neg (by decide)]
    have hm:lt (gd p ((l+r)/2)) (gd p k)=true:=S.tot _ _ (hp.bd hk) (hp.bd (by omega)) (hp.inj hk (by omega) (by omega)) hc
    refine zfG S hp hs hk f ((l+r)/2+1) r (by omega) h2 (by omega) (λi hi=>?_) hb
    by_cases e:i=(l+r)/2
    ·subst e;exact hm
    ·exact S.tr _ _ _ (hp.bd (by omega)) (hp.bd (by omega)) (hp.bd hk) (hs i ((l+r)/2) (by omega) (by omega)) hm
theorem ziJ{p:Array Nat}{k l:Nat}(hp:PermN N p)(hk:k<N)(hl:l<=k)(hs:Sor lt p k)(ha:∀i,i<l->lt (gd p i) (gd p k)=true)(hb:∀i,l<=i->i<k->lt (gd p k) (gd p i)=true):Sor lt (bubble p k (k -l)) (k+1):=by
 have hz:=hp.size
 have g:∀i,(bubble p k (k -l))[i]?=if i=l then p[k]? else if l<i/\i<=k then p[i -1]? else p[i]?:=λi=>by
  rw[getElem?_bubble (by omega) (k -l) (by omega),show k -(k -l)=l by omega]
 have g1:gd (bubble p k (k -l)) l=gd p k:=zhz (by rw[g,if_pos rfl])
 have g2:∀i,l<i->i<=k->gd (bubble p k (k -l)) i=gd p (i -1):=λi h1 h2=>zhz (by rw[g,if_neg (by omega),if_pos ⟨h1,h2⟩])
 have g3:∀i,i<l->gd (bubble p k (k -l)) i=gd p i:=λi h1=>zhz (by rw[g,if_neg (by omega),if_neg (by omega)])
 intro i j hij hj
 rcases Nat.lt_trichotomy i l with hi|hi|hi
 ·rw[g3 i hi]
  rcases Nat.lt_trichotomy j l with h|h|h
  ·rw[g3 j h];exact hs i j hij (by omega)
  ·subst h;rw[g1];exact ha i hi
  ·rw[g2 j h (by omega)];exact hs i (j -1) (by omega) (by omega)
 ·subst hi
  rw[g1,g2 j hij (by omega)]
  exact hb (j -1) (by omega) (by omega)
 ·rw[g2 i hi (by omega),g2 j (by omega) (by omega)]
  exact hs (i -1) (j -1) (by omega) (by omega)
theorem znu(S:Strict N lt):∀f (p:Array Nat) k,PermN N p->Sor lt p k->k+f=N->OkT N lt (kas_bin f p k) (λp'=>PermN N p'/\Sor lt p' N)
 |0,p,k,hp,hs,hk=>⟨hp,by have:k=N:=by omega
                         rw[←this];exact hs⟩
 |f+1,p,k,hp,hs,hk=>by
  refine OkT.bind (OkT.mono (λl hl=>?_) (zfG S hp hs (by omega) k 0 k (ξi _) (ζt _) (by omega) (λi hi=>by omega) (λi hi hik=>by omega)))
  exact znu S f _ (k+1) ((Array.perm_iff_toList_perm.mp (bubble_perm p k _)).trans hp) (ziJ hp (by omega) hl.1 hs hl.2.1 hl.2.2) (by omega)
theorem zn3(S:Strict N lt)(h1:1<=N):OkT N lt (kas_sort N) (λp=>PermN N p/\Sor lt p N):=by
 have h0:PermN N (List.toArray (List.range N)):=by show(List.range N).Perm _;exact List.Perm.refl _
 refine OkT.bind (OkT.mono (λr hr=>?_) (znF S h0 h1))
 obtain⟨c1,c2,c3,c4⟩:=hr
 by_cases h:r.1<N
 ·rw[if_pos h]
  have e:max r.1 1=r.1:=by omega
  rw[e]
  exact znu S _ _ _ c1 c2 (by omega)
 ·rw[if_neg h]
  have e:r.1=N:=by omega
  rw[e] at c2
  exact⟨c1,c2⟩
end
end RW
namespace L2
open PySem PySem.W PySem.Spec PyProof.Rows
section
variable{prog:Program}{w:World}{A:Around}{E:Value->Shared->Prop}{s:Shared}{it d:Addr}{i ep:Nat}{ks:List Value}
end
section
variable{prog:Program}{w:World}{A:Around}{E:Value->Shared->Prop}{s:Shared}
def Kp(a:Addr)(s s1:Shared):Prop:=s1={s with heap:=s1.heap}/\∀b o,b≠a->s.heap.get? b=some o->s1.heap.get? b=some o
theorem zkU{a:Addr}{vs:List Value}{n:Nat}{R:PySem.Fin->Shared->Prop}{G:Array Nat->Prop}{κ:SortKind}(ho:s.heap.get? a=some (seqObj "list" vs.toArray n))(h64:vs.length<64)
 (hk:2<=vs.length->∀s1:Shared,Kp a s s1->(∀C:SortKind->Shared->Prop,C κ s1->wpAny (model prog w) A (keyKind' vs.toArray) C E s1)/\(kas_sort vs.length).kasWp (kas_ask prog w A κ vs) (λp s'=>s'=s1/\G p) s1)
 (q:∀(out:List Value) (h':Heap) (c:Nat),(vs.length<2/\out=vs\/∃p:Array Nat,p.size=vs.length/\G p/\out=p.toList.map λi=>vs.getD i Value.none)->(∀b o,b≠a->s.heap.get? b=some o->h'.get? b=some o)->
   h'.get? a=some (seqObj "list" out.toArray c)->R (.done (.ret .none)) {s with heap:=h'}):wpAny (model prog w) A (Builtin.«list.sort» ⟨[.ref a],[]⟩) R E s:=by
 have la:a<s.heap.objs.size:=ζm ho
 have lz:vs.toArray.size=vs.length:=ζu ..
 have u1:=Heap.SameBut.update s.heap a (Obj.mapSeq λ_=>(#[]:Array Value))
 obtain⟨e1,g1⟩:∃e1,(s.heap.update a (Obj.mapSeq λ_=>(#[]:Array Value))).get? a=some (seqObj "list" #[] e1):=⟨_,get?_update_seq ho λ_=> #[]⟩
 rw[list_sort_plain]
 refine ζb (listItems_at ho rfl (ζb (listUpdate_at ho rfl (ζb (seqEpoch_at g1 rfl (ζb (wpAny_newTuple (ζb (wpAny_newList (ψd ?_) (ξi _))) (by show vs.length<=_;rw[sizeLine_eq];omega))))) (by rw[lz,sizeLine_eq];omega) (ξi _))))
 generalize hs1:({s with heap:=((s.heap.update a (Obj.mapSeq λ_=>(#[]:Array Value))).push (seqObj "tuple" vs.toArray 0)).push (seqObj "list" #[] 0)}:Shared)=s1
 have kp:∀b o,(s.heap.update a (Obj.mapSeq λ_=>(#[]:Array Value))).get? b=some o->s1.heap.get? b=some o:=λb o e=>by rw[←hs1];exact ζc _ (ζc _ e)
 have k1:Kp a s s1:=⟨by rw[←hs1],λb o nb e=>kp b o ((u1.2 b nb).trans e)⟩
 have g2:s1.heap.get? a=some (seqObj "list" #[] e1):=kp a _ g1
 dsimp only
 have fin:∀(st:SortSt) (out:List Value),(arrOf st).map (·.2)=out.toArray->failedOf st=none->out.length<64->(vs.length<2/\out=vs\/∃p:Array Nat,p.size=vs.length/\G p/\out=p.toList.map λi=>vs.getD i Value.none)->
  wpAny (model prog w) A (do
   let touched:=(←seqEpoch a) !=e1
   Builtin.List.listUpdate (.ref a) λ_=>(arrOf st).map (·.2)
   if let some e:=failedOf st then rule "list.sort.comparison-raised";throw e
   if touched then rule "list.sort.modified";raiseError "ValueError" "list modified during sort"
   ret .none) R E s1:=by
  intro st out ho hf hl hc
  rw[ho]
  have u2:=Heap.SameBut.update s1.heap a (Obj.mapSeq λ_=>out.toArray)
  obtain⟨c2,g3⟩:∃c2,(s1.heap.update a (Obj.mapSeq λ_=>out.toArray)).get? a=some (seqObj "list" out.toArray c2):=⟨_,get?_update_seq g2 λ_=>out.toArray⟩
  refine ζb (seqEpoch_at g2 rfl (ζb (listUpdate_at g2 rfl ?_ (ξi _) (by show out.toArray.size<=_;rw[ζu,sizeLine_eq];omega))))
  rw[hf]
  simp only[bne_self_eq_false,Bool.false_eq_true,if_false]
  have:=q out _ c2 hc (λb o nb e=>(u2.2 b nb).trans (k1.2 b o nb e)) g3
  rw[k1.1]
  exact ζr this
 by_cases h2:vs.toArray.size<2
 ·rw[if_pos h2,if_pos h2]
  refine ζb (ζr ?_)
  rw[StateT.run_pure]
  refine ζb (ζr ?_)
  refine fin _ vs ?_ rfl h64 (.inl ⟨by omega,rfl⟩)
  apply Array.toList_inj.mp
  show((vs.toArray.zip vs.toArray).map (·.2)).toList=_
  rw[Array.toList_map,Array.toList_zip]
  exact List.map_snd_zip (ζt _)
 ·rw[if_neg h2,if_neg h2]
  obtain⟨hkk,hw⟩:=hk (by omega) s1 k1
  refine ζb (hkk _ ?_)
  refine ζb (ψc (kat_run (E:=E) (Q:=λst' s'=>s'=s1/\∃p:Array Nat,p.size=vs.length/\arrOf st'=p.map (kas_item (vs.toArray.zip vs.toArray))/\failedOf st'=none/\G p) rfl (by omega) h64 (λp st' s' x1 x2 x3 x4=>⟨x4.1,p,x1,x2,x3,x4.2⟩) hw) ?_ λ_ _ e=>e)
  rintro⟨⟨⟩,st'⟩ s' ⟨rfl,p,hp,har,hf,hG⟩
  refine fin st' (p.toList.map λi=>vs.getD i Value.none) (kat_snds rfl har) hf (by rw[ζa,ξq,hp];exact h64) (.inr ⟨p,hp,hG,rfl⟩)
end
noncomputable abbrev ltS(x y:Str):Bool:=decide (x.cps.toList<y.cps.toList)
noncomputable def ltP(p q:Str×Str):Bool:=if p.1=q.1 then(if p.2=q.2 then false else ltS p.2 q.2)else ltS p.1 q.1
theorem zjX:∀(a b:List Nat),a≠b->¬a<b->b<a
 |[],[],h,_=>absurd rfl h
 |[],b::bs,_,h=>absurd (List.nil_lt_cons b bs) h
 |a::as,[],_,_=>List.nil_lt_cons a as
 |a::as,b::bs,h,hn=>by
  rw[List.cons_lt_cons_iff] at hn⊢
  rcases Nat.lt_trichotomy a b with q|q|q
  ·exact absurd (.inl q) hn
  ·subst q
   exact .inr ⟨rfl,zjX as bs (λz=>h (by rw[z])) (λz=>hn (.inr ⟨rfl,z⟩))⟩
  ·exact .inl q
theorem zjn:∀{a b c:List Nat},a<b->b<c->a<c
 |_,[],_,h,_=>absurd h (by simp)
 |_,_::_,[],_,h=>absurd h (by simp)
 |[],_::_,c::cs,_,_=>List.nil_lt_cons c cs
 |a::as,b::bs,c::cs,h1,h2=>by
  rw[List.cons_lt_cons_iff] at h1 h2⊢
  rcases h1 with h1|⟨rfl,h1⟩
  ·rcases h2 with h2|⟨rfl,h2⟩
   ·exact .inl (by omega)
   ·exact .inl h1
  ·rcases h2 with h2|⟨rfl,h2⟩
   ·exact .inl h2
   ·exact .inr ⟨rfl,zjn h1 h2⟩
theorem zg0:∀(a:List Nat),¬a<a
 |[],h=>absurd h (by simp)
 |a::as,h=>by
  rw[List.cons_lt_cons_iff] at h
  rcases h with h|⟨_,h⟩
  ·omega
  ·exact zg0 as h
theorem zor{x y:Str}(h:x.cps.toList=y.cps.toList):x=y:=by
 cases x;cases y
 simp only[Str.mk.injEq]
 exact Array.toList_inj.mp h
theorem zd5{x y:Str}(h:x≠y)(e:ltS x y=false):ltS y x=true:=ζf (zjX _ _ (λz=>h (zor z)) (of_decide_eq_false e))
theorem zex{x y z:Str}(h1:ltS x y=true)(h2:ltS y z=true):ltS x z=true:=ζf (zjn (ζh h1) (ζh h2))
theorem zcd(x:Str):ltS x x=false:=ζn (zg0 _)
theorem zdV{x y:Str}(h:ltS x y=true):ltS y x=false:=ζn λz=>zg0 _ (zjn (ζh h) z)
theorem zgP{x y:Str}(h:ltS x y=true):x≠y:=λz=>by rw[z,zcd] at h;cases h
theorem zqy{p q r:Str×Str}(h1:ltP p q=true)(h2:ltP q r=true):ltP p r=true:=by
 unfold ltP at h1 h2⊢
 by_cases e1:p.1=q.1
 ·rw[if_pos e1] at h1
  by_cases e2:q.1=r.1
  ·rw[if_pos e2] at h2
   rw[if_pos (e1.trans e2)]
   by_cases f1:p.2=q.2
   ·rw[if_pos f1] at h1;cases h1
   ·by_cases f2:q.2=r.2
    ·rw[if_pos f2] at h2;cases h2
    ·rw[if_neg f1] at h1
     rw[if_neg f2] at h2
     have:=zex h1 h2
     rw[if_neg (zgP this)];exact this
  ·rw[if_neg e2] at h2
   rw[if_neg (by rw[e1];exact e2),e1];exact h2
 ·rw[if_neg e1] at h1
  by_cases e2:q.1=r.1
  ·rw[if_neg (by rw[←e2];exact e1),←e2];exact h1
  ·rw[if_neg e2] at h2
   have:=zex h1 h2
   rw[if_neg (zgP this)];exact this
theorem zcx(p:Str×Str):ltP p p=false:=by unfold ltP;rw[if_pos rfl,if_pos rfl]
theorem znP{p q:Str×Str}(h:ltP p q=true):ltP q p=false:=by
 cases e:ltP q p with
 |false=>rfl
 |true=>have:=zqy h e;rw[zcx] at this;cases this
theorem ze8:∀(l:List Str),sortedS l=true->l.Nodup->l.Pairwise (λa b=>ltS a b=true)
 |[],_,_=> .nil
 |[x],_,_=>by simp
 |x::y::r,h,hn=>by
  have h':(!ltCps y.cps.toList x.cps.toList&&risingS y r)=true:=h
  rw[ζs] at h'
  have hr:sortedS (y::r)=true:=h'.2
  have ih:=ze8 (y::r) hr (List.nodup_cons.mp hn).2
  have hxy:ltS x y=true:=by
   have h1:ltS y x=false:=by
    have:=h'.1
    rw[ltCps_eq] at this
    simpa using this
   exact zd5 (λz=>(List.nodup_cons.mp hn).1 (by rw[z];exact ζo)) h1
  refine List.pairwise_cons.mpr ⟨λz hz=>?_,ih⟩
  rcases List.mem_cons.mp hz with rfl|hz
  ·exact hxy
  ·exact zex hxy ((List.pairwise_cons.mp ih).1 z hz)
section
variable{X:Cx}
theorem zhp:CallR X (.builtin "sorted") (λxs H Q=>∃(p:Addr) (ss:List Str),xs=[.ref p]/\SqL X.K H p (ss.map V.str)/\ss.length<64/\ss.Nodup/\∀(ss':List Str) l,ss'.Perm ss->ss'.Pairwise (λa b=>ltS a b=true)->H l=none->Q (.ref l) (upd H l (.lst (ss'.map V.str)))):=by
 intro pins s σ H xs us Q I r h
 obtain⟨p,ss,rfl,hq,h64,hnd,q⟩:=h
 obtain⟨u,rfl,ru⟩:=zbG r
 cases ru
 obtain⟨its,rv,pl,hz⟩:=I.list hq
 have hS:=zbj rv
 have hl:=rv.length
 rw[ζa] at hl
 refine sorted_strs pl.isList hS (by omega) λout ss' a1 a2 a3=>?_
 have nl:H (s.heap.objs.size+1)=none:=I.hok.fresh (Nat.le_succ _)
 obtain⟨e,he⟩:=sortedAll_at s.heap its out
 have hn':ss'.Nodup:=a2.nodup_iff.mpr hnd
 refine⟨.ref _,_,I.laid (a:=s.heap.objs.size+1) (o:= .lst (ss'.map V.str)) (t':=s.toks) (λb o hb=>sortedAll_old hb) (Nat.le_succ _) ⟨?_,out.toList,e,?_,?_⟩,rfl,q ss' _ a2 (ze8 ss' a3 hn') nl⟩
 ·rw[ζa,a2.length_eq];exact ξg (zj (by omega))
 ·have mk:∀{vs:List Value} {zs:List Str},StrsAre vs zs->Vals (zs.map V.str) vs:=by
   intro vs zs h
   induction h with
   |nil=>exact .nil
   |cons x t _ ih=>exact .cons ⟨t,rfl⟩ ih
  exact mk a1
 ·rw[Array.toArray_toList];exact he
end
section
variable{prog:Program}{w:World}{A:Around}{E:Value->Shared->Prop}{s:Shared}
end
section
variable{X:Cx}
end
section
open PySem.SeqAt
open PySem.AutoSeq1 (wpAny_loadPart')
open PySem.MeetsSeq PySem.MeetsSeq2 PySem.MeetsSeq3
end
section
variable{X:Cx}{K:ξk}
noncomputable def znm(K:ξk):R2:=λx y H Q=>∃a b xs ys,x= .ref a/\y= .ref b/\SqT K H a xs/\SqT K H b ys/\xs.length+ys.length<=sizeLine/\
 (xs=[]->Q (.ref b) H)/\(xs≠ []->ys=[]->Q (.ref a) H)/\(xs≠ []->ys≠ []->∀p,H p=none->Q (.ref p) (upd H p (.tup (xs ++ys))))
theorem zg9:OpR X (binaryOp .Add) (znm X.K):=by
 intro pins s σ H x y v u Q I rx ry h
 obtain⟨a,b,xs,ys,rfl,rfl,ha,hb,hz,q0,q1,q2⟩:=h
 by_cases hx:xs=[]
 ·cases rx
  cases ry
  obtain⟨its,r1,p1,_⟩:=I.tuple ha
  obtain⟨its2,r2,p2,_⟩:=I.tuple hb
  have e1:its=[]:=r1.nil_iff.mpr hx
  obtain⟨⟨cls,dd,data,sl⟩,ho,hc,n,hd⟩:=id p1
  obtain⟨⟨cls2,dd2,data2,sl2⟩,ho2,hc2,n2,hd2⟩:=id p2
  simp only at hc hd hc2 hd2
  subst hc hd hc2 hd2
  exact concat_meets ⟨_,ho,rfl⟩ ⟨_,ho2,rfl⟩ noFill_tuple_add seq_tuple_add PySem.F.slot_tuple_add PySem.F.entry_tuple_add (PySem.F.args_tuple_add_2 _ _) (tuple_addW0 a b its.toArray its2.toArray n n2 dd dd2 sl sl2 (by simp[e1])) ⟨ho,ho2,⟨.ref b,H,I,rfl,q0 hx⟩⟩
 ·exact zob pins s σ H _ _ v u Q I rx ry ⟨a,b,xs,ys,rfl,rfl,ha,hb,hx,hz,q1 hx,q2 hx⟩
theorem zmr(h:X.K=K):OpR X (binaryOp .Add) (znm K):=by subst h;exact zg9
end
section
open PySem.AutoSeq1 (wpAny_loadPart')
end
section
variable{X:Cx}{K:ξk}
theorem hu1{k:Nat}{A:Around}(r:Room k A):A.units+1<cLine:=by have:=r.units;omega
end
section
variable{X:Cx}{a b o i value:Expr}{x y:Str}{px py pt pt2 pos pos':Pos}{kt k2:Nat}{ta:TA}{td ty tv:TE}
theorem zpR(m n:Nat)(hN:X.N.Nodup)(ha:QA X [a,b] ta)(hc:X.calm=true:=by rfl)(hi:X.N[m]?=some x:=by rfl)(hj:X.N[n]?=some y:=by rfl)(hij:m≠n:=by decide)
 (hx:X.env.scope.names.lookup x=some .local:=by rfl) (hy:X.env.scope.names.lookup y=some .local:=by rfl)
 (hw:swappedStores [.Tuple [.Name x px, .Name y py] kt pt] (.Tuple [a,b] k2 pt2) X.env=pure (some [x,y]):=by rfl)
 (hs:swapsWithSole [.Tuple [.Name x px, .Name y py] kt pt] (.Tuple [a,b] k2 pt2) pos.line X.env=pure false:=by rfl):
 QS X (.Assign [.Tuple [.Name x px, .Name y py] kt pt] (.Tuple [a,b] k2 pt2) pos) (zrN m n ta):=⟨zqR hc hN hi hj hij hx hy ha.o hw hs⟩
theorem znf(hu:X.A.units+1<cLine)(ho:QE X o td)(hi:QE X i ty)(hv:QE X value tv)(hs:swapsWith value (some (.Subscript o i pos')) pos.line X.env=pure false:=by rfl):
 QS X (.Assign [.Subscript o i pos'] value pos) (zpz td ty tv):=⟨zoX hu ho.o hi.o hv.o hs⟩
theorem zoV:QE X (.Dict [] [] pos) znt:=⟨zmX⟩
end
end L2
namespace RW
open PySem PySem.Spec PyProof.Rows L2
noncomputable def ltD:D->D->Bool
 | .str x, .str y=>ltS x y
 | .tup [.str a, .str b], .tup [.str c, .str d]=>ltP (a,b) (c,d)
 |_,_=>false
noncomputable def zpg(ds:List D):Bool:=(List.range (ds.length -1)).all λk=>ltD (ds.getD k .non) (ds.getD (k+1) .non)
noncomputable def areHousesB:D->Bool| .tup ds=>decide (1<=ds.length)&&decide (ds.length<=10)&&ds.all zdo&&zpg ds|_=>false
noncomputable def zb8:D->Bool| .tup ds=>decide (ds.length<=90)&&ds.all zW|_=>false
noncomputable def zcp:D->Bool| .tup ds=>decide (ds.length<=90)&&ds.all zbR|_=>false
theorem zk6(z:Str)(n:Nat):(zfl z n).cps.toList=(List.replicate n z.cps.toList).flatten:=by
 unfold zfl
 have key:∀(k:Nat) (acc:Array Nat),((List.replicate k z.cps).foldl (·++·) acc).toList=acc.toList ++(List.replicate k z.cps.toList).flatten:=by
  intro k
  induction k with
  |zero=>intro acc;simp
  |succ k ih=>intro acc;rw[List.replicate_succ,List.foldl_cons,ih,List.replicate_succ,List.flatten_cons,ξn,ξp]
 have:=key n #[]
 simpa using this
theorem zcf(c n:Nat):(zfl (one c) n).cps.toList=List.replicate n c:=by
 rw[zk6]
 show(List.replicate n [c]).flatten=_
 induction n with
 |zero=>rfl
 |succ n ih=>rw[List.replicate_succ,List.flatten_cons,ih,List.replicate_succ];rfl
noncomputable def zjJ(x:Str):Bool:=x.cps.toList.all λc=>some c==x.cps.toList.head?
theorem zic(c n:Nat):zjJ (zfl (one c) n)=true:=by
 unfold zjJ
 rw[zcf]
 cases n with
 |zero=>rfl
 |succ n=>
  rw[List.all_eq_true]
  intro d hd
  rw[List.eq_of_mem_replicate hd]
  simp[List.replicate_succ]
noncomputable def keptL:List Str:=["goal","to","by","houses","tie","like","hand","keep","put","mark","long","from","strike"]
theorem zoB:∀x∈keptL,zh x=true:=by decide +kernel
theorem zkT:∀x∈keptL,zjJ x=false:=by decide +kernel
theorem zoF:∀c∈lettersS.cps.toList,∀k∈List.range 8,zh (zfl (one c) (k+1))=true:=by decide +kernel
theorem zin:lettersS.length=26:=by decide +kernel
theorem zfM:∀k∈List.range 26,lettersS.cps.toList[k]?=some (97+k):=by decide +kernel
theorem zka(c:Nat):(one c).length=1:=rfl
noncomputable def zmc:List Nat:=[1,3,5,7,9,11]
theorem zmf:∀f∈List.range 26,∀st∈zmc,((List.range 13).map λk=>(f+st*k)%26).Nodup:=by decide +kernel
noncomputable def nmS(f st k:Nat):Str:=zfl (one (97+(f+st*k)%26)) (1+(k*k+f)%8)
noncomputable def kwS(sp k:Nat):Str:=keptL.getD ((sp+3*k)%13) ""
noncomputable def zbd(f st sp j k:Nat):Str:=if k<j then kwS sp k else nmS f st k
theorem zqm:∀sp∈List.range 13,((List.range 4).map λk=>kwS sp k).Nodup:=by decide +kernel
theorem ziL(sp k:Nat):kwS sp k∈keptL:=by
 unfold kwS
 have h:(sp+3*k)%13<keptL.length:=Nat.mod_lt _ (by decide)
 simp[List.getD,h]
theorem zpN{α:Type}{l:List α}(h:l.Nodup){i j:Nat}(hi:i<l.length)(hj:j<l.length)(hij:i≠j):l[i]≠l[j]:=λz=>hij ((List.getElem_inj h).mp z)
theorem zhU{f st sp j m:Nat}(hf:f<26)(hst:st∈zmc)(hsp:sp<13)(hj:j<=4)(hm:m<=13):((List.range m).map (zbd f st sp j)).Nodup:=by
 have key:∀a b,a<b->b<13->zbd f st sp j a≠zbd f st sp j b:=by
  intro a b hab hb
  unfold zbd
  by_cases h1:a<j
  ·rw[if_pos h1]
   by_cases h2:b<j
   ·rw[if_pos h2]
    have:=zpN (zqm sp (List.mem_range.mpr hsp)) (i:=a) (j:=b) (by simp;omega) (by simp;omega) (by omega)
    simpa using this
   ·rw[if_neg h2]
    intro z
    have e1:=zkT _ (ziL sp a)
    rw[z] at e1
    unfold nmS at e1
    rw[zic] at e1
    cases e1
  ·rw[if_neg h1,if_neg (by omega)]
   intro z
   have hh:(nmS f st a).cps.toList.head?=(nmS f st b).cps.toList.head?:=by rw[z]
   unfold nmS at hh
   rw[zcf,zcf,Nat.add_comm 1,Nat.add_comm 1,List.replicate_succ,List.replicate_succ] at hh
   simp only[List.head?_cons,Option.some.injEq] at hh
   have:=zpN (zmf f (List.mem_range.mpr hf) st hst) (i:=a) (j:=b) (by simp;omega) (by simp;omega) (by omega)
   simp at this
   omega
 rw[List.nodup_iff_pairwise_ne,List.pairwise_map]
 refine List.Pairwise.imp_of_mem (λ{a b} ha hb hab=>?_) (List.pairwise_lt_range (n:=m))
 exact key a b hab (by have:=List.mem_range.mp hb;omega)
theorem zr7(f st k:Nat):zh (nmS f st k)=true:=by
 unfold nmS
 rw[Nat.add_comm 1]
 have hr:(f+st*k)%26<26:=Nat.mod_lt _ (by decide)
 exact zoF _ (ζk (zfM _ (List.mem_range.mpr hr))) _ (List.mem_range.mpr (Nat.mod_lt _ (by decide)))
theorem zoc(f st sp j k:Nat):zh (zbd f st sp j k)=true:=by
 unfold zbd
 split
 ·exact zoB _ (ziL sp k)
 ·exact zr7 f st k
theorem zm1{f st sp j m:Nat}(hj:j<m):((List.range m).map (zbd f st sp j)).set j (kwS sp j)=(List.range m).map (zbd f st sp (j+1)):=by
 apply List.ext_getElem?
 intro i
 rw[List.getElem?_set]
 by_cases e:j=i
 ·subst e
  rw[if_pos rfl,if_pos (by simp;exact hj)]
  simp[hj,zbd]
 ·rw[if_neg e]
  rcases ζw i m with h|h
  ·rw[ζp,ζp,List.getElem?_range h]
   show some _=some _
   congr 1
   unfold zbd
   by_cases h1:i<j
   ·rw[if_pos h1,if_pos (by omega)]
   ·rw[if_neg h1,if_neg (by omega)]
  ·rw[ζi (by simpa using h),ζi (by simpa using h)]
theorem zoS{sp k:Nat}:keptL[(sp+3*k)%13]?=some (kwS sp k):=by
 unfold kwS
 have h:(sp+3*k)%13<keptL.length:=Nat.mod_lt _ (by decide)
 simp[List.getD,h]
theorem zfm{xs:List V}{m:Nat}:zbB xs (some (m:Int)) none=xs.drop m:=by
 unfold zbB
 have e1:HT.sIx xs.length xs.length none=xs.length:=rfl
 have e2:HT.sIx xs.length 0 (some (m:Int))=min m xs.length:=by
  unfold HT.sIx
  have h:¬(m:Int)<0:=by omega
  simp only[if_neg h,Int.toNat_natCast]
 rw[e1,e2]
 rcases ζw m xs.length with h|h
 ·rw[Nat.min_eq_left (by omega),List.take_of_length_le (by rw[ζq];omega)]
 ·rw[Nat.min_eq_right h,List.drop_of_length_le (ζt _),List.drop_of_length_le h];simp
noncomputable def pairD(p:Str×Str):D:= .tup [.str p.1, .str p.2]
structure TownOk(g:Str)(hs:List Str)(ps:List (Str×Str))(lks hds:List D):Prop where
 rise:hs.Pairwise (λa b=>ltS a b=true)
 one:1<=hs.length
 ten:hs.length<=10
 names:∀x∈hs,zh x=true
 goal:g∈hs
 riseP:ps.Pairwise (λa b=>ltP a b=true)
 ties:∀p∈ps,p.1∈hs/\p.2∈hs/\ltS p.1 p.2=true
 ll:lks.length=hs.length
 lh:hds.length=hs.length
 likes:∀d∈lks,zb8 d=true
 hands:∀d∈hds,zcp d=true
noncomputable def zaT(g:Str)(hs:List Str)(ps:List (Str×Str))(lks hds:List D):D:= .tup [.str g, .tup (hs.map D.str), .tup (ps.map pairD), .tup lks, .tup hds]
section
variable{te tf:TE}{ta:TA}{tb:TS}{De:Ends}{σ:L2.St}{H:Hp}{d:D}{ds es:List D}{K:ξk}{k:Nat}
end
section
variable{te tf:TE}{σ:L2.St}{H:Hp}{d:D}{ds es:List D}{K:ξk}
theorem zjW{J:It}{vs:List V}{f:D->D}{g:D->Bool}{ok:Hp->Prop}{tc:TT}{src:List (Option Nat)}{σr:L2.St}{Q:VK}(wk:Wk J vs.length (λi x=>vs[i]?=some x) ok)(hok:∀H',Same H H'->ok H')(r:RepL H vs ds)(hl:ds.length<=900)(e:zeI src σ=none::σr)
 (hc:∀(x:V) (d:D) (H1:Hp) (Q1:Bool->Hp->Prop),Same H H1->Rep H1 x d->d∈ds->(∀H2,Same H1 H2->Q1 (g d) H2)->tc (some x::σr) H1 Q1)
 (he:∀(x:V) (d:D) (H1:Hp),Same H H1->Rep H1 x d->d∈ds->Dsp te (some x::σr) H1 (f d))
 (q:∀l us H',Same H H'->H l=none->H' l=some (.lst us)->RepL H' us ((ds.filter g).map f)->Q (.ref l) H'):zfh (zcW 0) tc te src σ Q J H:=by
 refine zaR wk (λl i ys σ' H'=>(∃o,σ'=o::σr)/\RepL H' ys (((ds.take i).filter g).map f)/\Same H H') ?_ ?_ ?_ ?_
 ·exact λl h'=>⟨⟨none,e⟩,RepL.nil,Same.new h'⟩
 ·exact λl i ys σ' H' _ p=>hok H' p.2.2
 ·rintro l i y ys σ' H1 h' hi hy ⟨⟨o,rfl⟩,ry,s1⟩ hl'
  obtain⟨d,hd,rd⟩:=r.get hy
  refine hc y d H1 _ s1 (rd.same s1) (ζk hd) λH2 s2=>?_
  have tk:((ds.take (i+1)).filter g).map f=((ds.take i).filter g).map f ++([d].filter g).map f:=by
   rw[ξs,hd,List.filter_append,ξb];rfl
  rw[tk]
  cases hg:g d with
  |false=>
   have e0:([d].filter g).map f=[]:=by simp[hg]
   rw[e0,ξw]
   exact⟨s2 _ _ hl',⟨_,rfl⟩,ry.mono (.of s2),s1.trans s2⟩
  |true=>
   have e0:([d].filter g).map f=[f d]:=by simp[hg]
   rw[e0]
   refine he y d H2 (s1.trans s2) ((rd.same s1).same s2) (ζk hd) H2 _ (Same.refl _) λv H3 s3 rv=>?_
   refine⟨s3 _ _ (s2 _ _ hl'),?_,⟨_,rfl⟩,?_,?_⟩
   ·have h1:=ry.1
    have h2:=List.length_filter_le g (ds.take i)
    rw[ζa] at h1
    rw[ζl] at h2
    exact zj (by omega)
   ·exact ((ry.mono (.of (s2.trans s3))).append (.cons rv .nil)).mono (.lset (s3 _ _ (s2 _ _ hl')))
   ·exact λc o e=>by
     rw[zi (ze e h')]
     exact s3 _ _ (s2 _ _ (s1 _ _ e))
 ·rintro l ys σ' H1 h' ⟨⟨o,rfl⟩,ry,s1⟩ hl'
  rw[r.1,ξv] at ry
  exact q l ys H1 s1 h' hl' ry
end
theorem zdQ{H:Hp}{hs:List Str}(h:∀x∈hs,x.length<=1000):RepL H (hs.map V.str) (hs.map D.str):=by
 refine⟨by rw[ζa,ζa],λi v d hv hd=>?_⟩
 rw[ζp] at hv hd
 cases e:hs[i]? with
 |none=>rw[e] at hv;cases hv
 |some x=>
  rw[e] at hv hd
  cases hv
  cases hd
  exact .str x (h x (ζk e))
theorem zhQ{α β:Type}{F:α->List β}{m:Nat}(hF:∀a,(F a).length<=m):∀l:List α,(l.flatMap F).length<=l.length*m
 |[]=>ξi _
 |a::l=>by
  rw[List.flatMap_cons,ζe,ζv,Nat.succ_mul]
  have:=zhQ hF l
  have:=hF a
  omega
inductive Tr(H:Hp):V->PyData->Prop
 |non:Tr H .non .none
 |bl (b:Bool):Tr H (.bl b) (.bool b)
 |int (i:Int):Tr H (.int i) (.int i)
 |str (x:Str) (h:PyData.strOk x=true):Tr H (.str x) (.str x)
 |tup {p:Addr} {vs:List V} {ds:List PyData} (e:H p=some (.tup vs)) (hl:vs.length=ds.length) (h:∀(i:Nat) (v:V) (d:PyData),vs[i]?=some v->ds[i]?=some d->Tr H v d):Tr H (.ref p) (.tuple ds)
 |lst {p:Addr} {vs:List V} {ds:List PyData} (e:H p=some (.lst vs)) (hl:vs.length=ds.length) (h:∀(i:Nat) (v:V) (d:PyData),vs[i]?=some v->ds[i]?=some d->Tr H v d):Tr H (.ref p) (.list ds)
theorem zc4{h:Heap}:∀{vs:List V} {us:List Value} {ds:List PyData},Vals vs us->vs.length=ds.length->(∀(i:Nat) (v:V) (d:PyData),vs[i]?=some v->ds[i]?=some d->∀u,RelV v u->∃as,Reads h u d as)->∃bs,ReadsAll h us ds bs
 |_,_,[], .nil,_,_=>⟨_, .nil⟩
 |v::vs,u::us,d::ds, .cons r t,hl,hh=>by
  obtain⟨as,ha⟩:=hh 0 v d rfl rfl u r
  obtain⟨bs,hb⟩:=zc4 t (by simpa using hl) λi v' d' h1 h2=>hh (i+1) v' d' h1 h2
  exact⟨_, .cons ha hb⟩
 |[],_,d::ds, .nil,hl,_=>by simp at hl
 |v::vs,u::us,[], .cons r t,hl,_=>by simp at hl
theorem Tr.reads{X:Cx}{pins:List (Addr×Obj)}{σ:L2.St}{H:Hp}{s:Shared}(I:Inv X pins σ H s){x:V}{d:PyData}(t:Tr H x d):∀v,RelV x v->∃as,Reads s.heap v d as:=by
 induction t with
 |non=>intro v r;cases r;exact⟨_, .none⟩
 |bl b=>intro v r;cases r;exact⟨_, .bool b⟩
 |int i=>intro v r;obtain⟨t,rfl⟩:=r;exact⟨_, .int i t⟩
 |str x h=>intro v r;obtain⟨t,rfl⟩:=r;exact⟨_, .str x t⟩
 |tup e hl h ih=>
  intro v r
  cases r
  obtain⟨its,rv,⟨o,ho,hc,n,hd⟩,_⟩:=I.tuple (SqT.of e)
  obtain⟨bs,hb⟩:=zc4 (h:=s.heap) rv hl ih
  exact⟨_, .tuple ho hc hd (by simpa using hb)⟩
 |lst e hl h ih=>
  intro v r
  cases r
  obtain⟨its,n,rv,ho,_⟩:=I.lst e
  obtain⟨bs,hb⟩:=zc4 (h:=s.heap) rv hl ih
  exact⟨_, .list ho rfl rfl (by simpa using hb)⟩
theorem zel:∀{vs:List V} {ds:List PyData},vs.length=ds.length->(∀(i:Nat) (v:V) (d:PyData),vs[i]?=some v->ds[i]?=some d->d.canLay0=true)->PyData.canLayAll0 ds=true
 |_,[],_,_=>rfl
 |v::vs,d::ds,hl,hh=>by
  rw[PyData.canLayAll0,hh 0 v d rfl rfl,zel (vs:=vs) (ds:=ds) (by simpa using hl) λi v' d' h1 h2=>hh (i+1) v' d' h1 h2];rfl
 |[],d::ds,hl,_=>by simp at hl
theorem Tr.can{H:Hp}{x:V}{d:PyData}(t:Tr H x d):d.canLay0=true:=by
 induction t with
 |non=>rfl
 |bl b=>rfl
 |int i=>rfl
 |str x h=>simp only[PyData.canLay0];exact h
 |tup e hl h ih=>rw[PyData.canLay0];exact zel hl ih
 |lst e hl h ih=>rw[PyData.canLay0];exact zel hl ih
section
variable{X:Cx}
noncomputable def zss:R2:=λx y H Q=>∃d e,Tr H x d/\Tr H y e/\min d.depth e.depth<=60/\Q (.bl (d.eqv e)) H
theorem zrj(hu:X.A.units+64<cLine):OpR X (compareOp .Eq) zss:=by
 intro pins s σ H x y v u Q I rx ry h
 obtain⟨d,e,t1,t2,hd,q⟩:=h
 obtain⟨as,r1⟩:=t1.reads I v rx
 obtain⟨bs,r2⟩:=t2.reads I u ry
 exact SeqAt.compareEq_reads r1 r2 t1.can t2.can (by omega) ⟨.bl _,H,I,rfl,q⟩
theorem znn{k:Nat}{A:Around}(r:Room k A):A.units+64<cLine:=by have:=r.un;omega
end
end RW
namespace HT
open PySem PySem.Spec PyProof.Rows
section
variable{prog:Program}{w:World}{A:Around}{E:Value->Shared->Prop}{s:Shared}
end
end HT
namespace L2
open PySem PySem.Spec PyProof.Rows
section
variable{X:Cx}{e:Expr}{te:TE}{p1 p2 p3 pos:Pos}{tk:Tok}
end
end L2
namespace HT
open PySem PySem.Spec PyProof.Rows
section
variable{prog:Program}{w:World}{A:Around}{E:Value->Shared->Prop}{s:Shared}
theorem getItem_tuple_whole{t sl:Addr}{items:Array Value}{vl vu:Value}{lo hi:Option Int}{Q:Value->Shared->Prop}(ht:IsTup s.heap t items)(hs:s.heap.IsSliceOf sl vl vu .none)(pl:IsPart vl lo)(pu:IsPart vu hi)
 (h1:sIx items.size 0 lo=0) (h2:sIx items.size items.size hi=items.size)
 (h:Q (.ref t) s):wpAny (model prog w) A (getItem (.ref t) (.ref sl)) Q E s:=by
 obtain⟨os,hos,hcs,hds⟩:=id hs
 have hTs:s.TypeIs (.ref sl) "slice":=⟨os,hos,hcs⟩
 unfold getItem
 try with_reducible refine ψd ?_
 first|refine ζb (ζr ?_)|skip
 refine ζb (wpAny_sequenceKey ht.typeIs (by decide) ?_)
 refine ζb (wpAny_callSpecial?_slot (name:=Str.ofString "__getitem__") ht.typeIs PyProof.Rows.slot_tuple_getitem
  (wpAny_call_entry PyProof.Rows.slot_tuple_getitem ht.typeIs entry_tuple_getitem ?_ (args_tuple_getitem _ _)))
 show wpAny _ _ (Builtin.Tuple.tupleItemsOf (.ref t)>>=_) _ _ s
 refine ζb (tupleItemsOf_ ht ?_)
 refine ζb (wpAny_typeOf hTs ?_)
 rw[if_pos (by decide)]
 refine ζb (zcq hs pl pu ?_)
 rw[h1,h2]
 show wpAny _ _ (if(((0:Nat):Int)==0&&(1:Int)==1&&(items.size -0)==items.size)=true then _ else _) _ _ s
 rw[if_pos (by simp)]
 unfold Builtin.Tuple.tupleIsExact
 refine ζb (ζb (wpAny_typeOf ht.typeIs (ζr ?_)))
 rw[if_pos (by decide)]
 refine ζb (wpAny_rule ?_)
 exact ζr ⟨_,rfl,ζr h⟩
end
end HT
namespace L2
open PySem PySem.Spec PyProof.Rows
section
variable{X:Cx}{K:ξk}
def zrF(K:ξk):V->Option Int->Option Int->Hp->VK->Prop:=λx lo hi H Q=>∃a xs,x= .ref a/\SqT K H a xs/\
 (zbB xs lo hi=xs->Q (.ref a) H)/\∀p,H p=none->Q (.ref p) (upd H p (.tup (zbB xs lo hi)))
theorem zfg:SlR X (zrF X.K):=by
 intro pins s σ H x v vl vu lo hi sl Q I rx hs pl pu h
 obtain⟨a,xs,rfl,hx,q1,q2⟩:=h
 by_cases hw:HT.sIx xs.length 0 lo=0/\HT.sIx xs.length xs.length hi=xs.length
 ·have rx':v= .ref a:=rx
  subst rx'
  obtain⟨its,r,ht,hz⟩:=I.tuple hx
  have hlen:its.toArray.size=xs.length:=by rw[ζu];exact r.length.symm
  refine⟨"tuple",_,PyProof.Rows.slot_tuple_getitem.lookup,ht.typeIs,?_⟩
  refine HT.getItem_tuple_whole ht hs pl pu (by rw[hlen];exact hw.1) (by rw[hlen];exact hw.2) ⟨.ref a,H,I,rfl,q1 ?_⟩
  unfold zbB
  rw[hw.1,hw.2];simp
 ·exact zqe pins s σ H (.ref a) v vl vu lo hi sl Q I rx hs pl pu ⟨a,xs,rfl,hx,hw,q2⟩
end
end L2
namespace RW
open PySem PySem.Spec PyProof.Rows L2
section
variable{te tf:TE}{ta:TA}{σ:L2.St}{H:Hp}{d:D}{ds es:List D}{K:ξk}
end
theorem zlC:∀x∈keptL,x≠"nowhere":=by decide +kernel
theorem zk9:zjJ "nowhere"=false:=by decide +kernel
theorem zlk(f st sp j k:Nat):zbd f st sp j k≠"nowhere":=by
 unfold zbd
 split
 ·exact zlC _ (ziL sp k)
 ·intro z
  have e:=zk9
  rw[←z] at e
  unfold nmS at e
  rw[zic] at e
  cases e
section
variable{te:TE}{ta:TA}{tb:TS}{De:Ends}{σ:L2.St}{H:Hp}{d:D}{ds es:List D}{K:ξk}{k j:Nat}{g:D->Bool}{l lf:Addr}{m:Nat}
end
section
variable{x h t l a:D}
end
section
variable{te tf:TE}{ta:TA}{tb:TS}{De:Ends}{σ:L2.St}{H:Hp}{d:D}{ds es:List D}{K:ξk}{k j:Nat}{g:D->Bool}{m:Nat}
theorem zg6{H H':Hp}{p:Addr}(s:Same H H')(h:H' p=none):H p=none:=by
 cases e:H p with
 |none=>rfl
 |some o=>have:=s _ _ e;rw[h] at this;cases this
end
theorem zaZ{x:Str}(h:zh x=true):PyData.strOk x=true:=by
 unfold zh at h
 simp only[ζs] at h
 have h2:=h.1.2
 unfold PyData.strOk
 rw[Array.all_eq_true']
 intro c hc
 have:=List.all_eq_true.mp h2 c (by simpa using hc)
 unfold zkG at this
 simp only[ζs,decide_eq_true_eq] at this
 exact ζf (by omega)
theorem zbT{α:Type}[DecidableEq α]:∀{l m:List α},l.Nodup->(∀x∈l,x∈m)->l.length<=m.length
 |[],m,_,_=>ξi _
 |a::l,m,hn,hs=>by
  have ha:=hs a ζo
  have:=zbT (l:=l) (m:=m.erase a) (List.nodup_cons.mp hn).2 λx hx=>(List.mem_erase_of_ne (λz:x=a=>(List.nodup_cons.mp hn).1 (by rw[←z];exact hx))).mpr (hs x (ξc _ hx))
  rw[List.length_erase_of_mem ha] at this
  have:1<=m.length:=List.length_pos_of_mem ha
  rw[ζv]
  omega
theorem TownOk.lp{g:Str}{hs:List Str}{ps:List (Str×Str)}{lks hds:List D}(T:TownOk g hs ps lks hds):ps.length<=100:=by
 have nd:ps.Nodup:=T.riseP.imp λ{a b} h z=>by rw[z,zcx] at h;cases h
 have:=zbT (m:=hs.flatMap λa=>hs.map λb=>(a,b)) nd λp hp=>by
  obtain⟨h1,h2,_⟩:=T.ties p hp
  exact List.mem_flatMap.mpr ⟨p.1,h1,List.mem_map.mpr ⟨p.2,h2,rfl⟩⟩
 have h2:=zhQ (F:=λa=>hs.map λb=>(a,b)) (m:=10) (λa=>by rw[ζa];exact T.ten) hs
 have:=T.ten
 omega
end RW
namespace RW
theorem zbP{b:Bool}{X Y:Prop}(h:b=true)(x:X):if b=true then X else Y:=by rw[if_pos h];exact x
theorem zbq{b:Bool}{X Y:Prop}(h:b=false)(y:Y):if b=true then X else Y:=by rw[if_neg (by rw[h];decide)];exact y
end RW
namespace L2
open PySem PySem.W PySem.Spec PyProof.Rows
section
variable{prog:Program}{w:World}{A:Around}{E:Value->Shared->Prop}{s:Shared}
theorem zcX{r:Addr}{T:String}{o:Obj}{vs:List Value}{n:Nat}{R:List Value->Shared->Prop}(hT:T="list"\/T="tuple")(ho:s.heap.get? r=some o)(hc:o.cls= .type T)(hd:o.data= .seq vs.toArray n)(hz:vs.length<=sizeLine)
 (q:∀(h':Heap),(∀b o,s.heap.get? b=some o->h'.get? b=some o)->s.heap.objs.size<h'.objs.size->R vs {s with heap:=h'}):wpAny (model prog w) A (collect (.ref r)) R E s:=by
 have lt:=ζm ho
 have hne:r≠s.heap.objs.size:=ξj lt
 have g0:(s.heap.push {cls:= .type "list",data:= .seq ([]:List Value).toArray}).get? s.heap.objs.size=some (seqObj "list" #[] 0):=ζj _ rfl
 have gr:(s.heap.push {cls:= .type "list",data:= .seq ([]:List Value).toArray}).get? r=some o:=ζc _ ho
 obtain⟨e1,g1⟩:∃e1,((s.heap.push {cls:= .type "list",data:= .seq ([]:List Value).toArray}).update s.heap.objs.size (Obj.mapSeq λx=>x ++vs.toArray)).get? s.heap.objs.size=some (seqObj "list" ((#[]:Array Value)++vs.toArray) e1):=⟨_,get?_update_seq g0 λx=>x ++vs.toArray⟩
 have u1:=Heap.SameBut.update (s.heap.push {cls:= .type "list",data:= .seq ([]:List Value).toArray}) s.heap.objs.size (Obj.mapSeq λx=>x ++vs.toArray)
 unfold collect
 refine ζb (wpAny_runValue (codeAny_builtin entry_proto_collect' (by
  rw[Around.under_plainId PySem.F.plain_proto_collect _]
  show wpAny _ A.in1 (newList []>>=λl=>again (.builtin "list.__iadd__" ⟨[l, .ref r],[]⟩)) _ _ s
  refine ζb (wpAny_newObj_type (ζr ⟨plainId_quiet PySem.F.plain_list_iadd _,codeAny_builtin entry_list_iadd' (by
   rw[Around.under_plainId PySem.F.plain_list_iadd _]
   show wpAny _ A.in1 (Builtin.List.listExtendWith (.ref s.heap.objs.size) (.ref r) (.ref s.heap.objs.size)) _ _ _
   unfold Builtin.List.listExtendWith
   have hty:({s with heap:=s.heap.push {cls:= .type "list",data:= .seq ([]:List Value).toArray}}:Shared).TypeIs (.ref r) T:=⟨o,gr,hc⟩
   refine ζb (wpAny_typeOf hty ?_)
   rw[if_pos (by rcases hT with rfl|rfl<;>simp)]
   refine ζb (listItems_at gr hd (ζb (listItems_at g0 rfl ?_)))
   rw[if_neg (by simp)]
   refine ζb (listUpdate_at g0 rfl ?_ (ξi _) (by show((#[]:Array Value)++vs.toArray).size<=_;simp;omega))
   refine ζr ?_
   show wpAny _ A (load s.heap.objs.size>>=_) _ _ _
   refine ζb (wpAny_load g1 (ζr ?_))
   have ev:((#[]:Array Value)++vs.toArray).toList=vs:=by simp
   show R ((#[]:Array Value)++vs.toArray).toList _
   rw[ev]
   exact q _ (λb o e=>(u1.2 b (ξj (ζm e))).trans (ζc _ e)) (ζm g1))⟩)))))
theorem ze5{l:Addr}{T:String}{o:Obj}{vs:List Value}{n:Nat}{ss:List Str}{Q:Value->Shared->Prop}(hT:T="list"\/T="tuple")(ho:s.heap.get? l=some o)(hc:o.cls= .type T)(hd:o.data= .seq vs.toArray n)(hS:StrsAre vs ss)(h64:vs.length<64)
 (q:∀(D:Addr) (out:Array Value) (ss':List Str) (h':Heap) (e:Nat),StrsAre out.toList ss'->ss'.Perm ss->sortedS ss'=true->(∀b o,s.heap.get? b=some o->h'.get? b=some o)->s.heap.objs.size<=D->h'.get? D=some (seqObj "list" out e)->Q (.ref D) {s with heap:=h'}):
 wpAny (model prog w) A (call (.builtin "sorted") [.ref l]) Q E s:=by
 refine Calls.call_function_entry kind_sorted plain_sorted entry_sorted (args_sorted1 _) ?_
 unfold Builtin.«sorted»
 refine ζb (m:=checkCount "sorted" 1 1 _) (ζr (ζb (zcX hT ho hc hd (by rw[sizeLine_eq];omega) λh1 kp gr0=>?_)))
 refine ζb (wpAny_newList ?_ (by show vs.length<=_;rw[sizeLine_eq];omega))
 have hD:(h1.push (seqObj "list" vs.toArray 0)).get? h1.objs.size=some (seqObj "list" vs.toArray 0):=ζj _ rfl
 have k2:∀b o,s.heap.get? b=some o->(h1.push (seqObj "list" vs.toArray 0)).get? b=some o:=λb o e=>ζc _ (kp b o e)
 have gr:s.heap.objs.size<=h1.objs.size:=ξg gr0
 show wpAny _ _ _ _ _ {s with heap:=h1.push (seqObj "list" vs.toArray 0)}
 refine ζb (ψd (wpAny_call_entry slot_list_sort ⟨_,hD,rfl⟩ entry_list_sort (list_sort_treeK strKind_oneLt (s:={s with heap:=h1.push (seqObj "list" vs.toArray 0)}) hD hS.keysOf (λv1 v2 rest e=>?_) h64 λst' hp hs=>?_) (args_list_sort _)))
 ·subst e
  exact keyKind_strs hS
 ·obtain ⟨ss',a1,a2,a3⟩:=sorted_out_str hS hp hs
  obtain⟨e,he⟩:=sortedHeap_at (h:=h1.push (seqObj "list" vs.toArray 0)) (vs:=vs) (out:=Array.map (λx=>x.snd) (arrOf st')) hD
  refine⟨_,rfl,ζr ⟨_,rfl,q h1.objs.size _ ss' _ e a1 a2 a3 (λb o hb=>?_) gr he⟩⟩
  have lb:=ζm hb
  rw[sortedHeap_old (ξj (ξf lb gr)) (ζm (k2 b o hb))]
  exact k2 b o hb
end
section
variable{X:Cx}{K:ξk}
def zoU(K:ξk):List V->Hp->VK->Prop:=λxs H Q=>∃(p:Addr) (ss:List Str),xs=[.ref p]/\(SqL K H p (ss.map V.str)\/SqT K H p (ss.map V.str))/\ss.length<64/\∀(ss':List Str) l,ss'.Perm ss->sortedS ss'=true->H l=none->Q (.ref l) (upd H l (.lst (ss'.map V.str)))
theorem zcJ:CallR X (.builtin "sorted") (zoU X.K):=by
 intro pins s σ H xs us Q I r h
 obtain⟨p,ss,rfl,hq,h64,q⟩:=h
 obtain⟨u,rfl,ru⟩:=zbG r
 cases ru
 have key:∀{its:List Value} {T:String} {o:Obj} {n:Nat},T="list"\/T="tuple"->s.heap.get? p=some o->o.cls= .type T->o.data= .seq its.toArray n->Vals (ss.map V.str) its->wpAny (model X.prog X.w) X.A (call (.builtin "sorted") [.ref p]) (EP X pins σ Q) X.xe s:=by
  intro its T o n hT ho hc hd rv
  have hS:=zbj rv
  have hl:=rv.length
  rw[ζa] at hl
  refine ze5 hT ho hc hd hS (by omega) λD out ss' h' e a1 a2 a3 kp hD he=>?_
  refine⟨.ref D,_,I.laid (a:=D) (o:= .lst (ss'.map V.str)) (t':=s.toks) kp hD ⟨?_,out.toList,e,?_,?_⟩,rfl,q ss' D a2 a3 (I.hok.fresh hD)⟩
  ·rw[ζa,a2.length_eq];exact ξg (zj (by omega))
  ·have mk:∀{vs:List Value} {zs:List Str},StrsAre vs zs->Vals (zs.map V.str) vs:=by
    intro vs zs h
    induction h with
    |nil=>exact .nil
    |cons x t _ ih=>exact .cons ⟨t,rfl⟩ ih
   exact mk a1
  ·rw[Array.toArray_toList];exact he
 rcases hq with hq|hq
 ·obtain ⟨its,rv,pl,hz⟩:=I.list hq
  obtain⟨o,ho,hc,n,hd⟩:=pl.isList
  exact key (.inl rfl) ho hc hd rv
 ·obtain ⟨its,rv,pl,hz⟩:=I.tuple hq
  obtain⟨o,ho,hc,n,hd⟩:=pl
  exact key (.inr rfl) ho hc hd rv
end
end L2
namespace RW
open PySem PySem.Spec PyProof.Rows L2
theorem zeg{hs:List Str}{x:Str}:inV (.str x) (hs.map V.str)=hs.any λy=>decide (y=x):=by
 unfold inV
 rw[List.any_map]
 congr 1
theorem zck{hs:List Str}:(hs.map V.str).all zei=true:=by
 rw[List.all_map,List.all_eq_true]
 exact λ_ _=>rfl
theorem zc0{H:Hp}{v:V}{xs:List Str}(h:Rep H v (.tup (xs.map D.str))):∃p,v= .ref p/\H p=some (.tup (xs.map V.str)):=by
 obtain⟨p,vs,rfl,hp,r,_⟩:=h.ofT
 refine⟨p,rfl,?_⟩
 have e:vs=xs.map V.str:=by
  apply List.ext_getElem?
  intro i
  rcases ζw i xs.length with hi|hi
  ·have hv:i<vs.length:=by rw[r.1,ζa];exact hi
   have:=r.2 i vs[i] (.str xs[i]) (by simp[hv]) (by simp[hi])
   rw[ζd hv,ζp,ζd hi]
   generalize vs[i]=z at this
   cases this
   rfl
  ·rw[ζi (by rw[r.1,ζa];exact hi),ζi (by rw[ζa];exact hi)]
 rw[←e];exact hp
theorem zsi{H:Hp}{v:V}{d1 d2 d3 d4 d5:D}(h:Rep H v (.tup [d1,d2,d3,d4,d5])):∃p x1 x2 x3 x4 x5,v= .ref p/\H p=some (.tup [x1,x2,x3,x4,x5])/\Rep H x1 d1/\Rep H x2 d2/\Rep H x3 d3/\Rep H x4 d4/\Rep H x5 d5:=by
 obtain⟨p,vs,rfl,hp,r,_⟩:=h.ofT
 match vs,r with
 |[x1,x2,x3,x4,x5],r=>exact ⟨p,x1,x2,x3,x4,x5,rfl,hp,r.head.1,r.head.2.head.1,r.head.2.head.2.head.1,r.head.2.head.2.head.2.head.1,r.head.2.head.2.head.2.head.2.head.1⟩
 |[],r=>exact absurd r.1 (by simp)
 |[_],r=>exact absurd r.1 (by simp)
 |[_,_],r=>exact absurd r.1 (by simp)
 |[_,_,_],r=>exact absurd r.1 (by simp)
 |[_,_,_,_],r=>exact absurd r.1 (by simp)
 |_::_::_::_::_::_::_,r=>exact absurd r.1 (by simp)
def zqj(H:Hp)(v:V)(g:Str)(hs:List Str)(ps:List (Str×Str))(lks hds:List D):Prop:=∃p pr pt pl pa vt vl va,v= .ref p/\H p=some (.tup [.str g, .ref pr, .ref pt, .ref pl, .ref pa])/\H pr=some (.tup (hs.map V.str))/\H pt=some (.tup vt)/\RepL H vt (ps.map RW.pairD)/\H pl=some (.tup vl)/\RepL H vl lks/\H pa=some (.tup va)/\RepL H va hds
theorem zbx{H:Hp}{v:V}{g:Str}{hs:List Str}{ps:List (Str×Str)}{lks hds:List D}(h:Rep H v (zaT g hs ps lks hds)):zqj H v g hs ps lks hds:=by
 obtain⟨p,x1,x2,x3,x4,x5,rfl,hp,r1,r2,r3,r4,r5⟩:=zsi h
 cases r1 with|str _ _=>
 obtain⟨pr,rfl,hpr⟩:=zc0 r2
 obtain⟨pt,vt,rfl,hpt,rt,_⟩:=r3.ofT
 obtain⟨pl,vl,rfl,hpl,rl,_⟩:=r4.ofT
 obtain⟨pa,va,rfl,hpa,ra,_⟩:=r5.ofT
 exact⟨p,pr,pt,pl,pa,vt,vl,va,rfl,hp,hpr,hpt,rt,hpl,rl,hpa,ra⟩
noncomputable def ze2(ps:List (Str×Str))(x:Str):List Str:=(ps.filter λp=>decide (p.2=x)).map (·.1)++(ps.filter λp=>decide (p.1=x)).map (·.2)
theorem mem_nbrs{ps:List (Str×Str)}{x y:Str}:y∈ze2 ps x↔(y,x)∈ps\/(x,y)∈ps:=by
 unfold ze2
 rw[List.mem_append,List.mem_map,List.mem_map]
 constructor
 ·rintro (⟨⟨a,b⟩,h,rfl⟩|⟨⟨a,b⟩,h,rfl⟩)
  ·obtain ⟨h1,h2⟩:=List.mem_filter.mp h
   have h2:b=x:=ζh h2
   subst h2
   exact .inl h1
  ·obtain ⟨h1,h2⟩:=List.mem_filter.mp h
   have h2:a=x:=ζh h2
   subst h2
   exact .inr h1
 ·rintro (h|h)
  ·exact .inl ⟨(y,x),List.mem_filter.mpr ⟨h,ζf rfl⟩,rfl⟩
  ·exact .inr ⟨(x,y),List.mem_filter.mpr ⟨h,ζf rfl⟩,rfl⟩
theorem TownOk.ps_nd{g:Str}{hs:List Str}{ps:List (Str×Str)}{lks hds:List D}(T:TownOk g hs ps lks hds):ps.Nodup:=T.riseP.imp λ{a b} h z=>by rw[z,zcx] at h;cases h
theorem TownOk.hs_nd{g:Str}{hs:List Str}{ps:List (Str×Str)}{lks hds:List D}(T:TownOk g hs ps lks hds):hs.Nodup:=T.rise.imp λ{a b} h z=>by rw[z,zcd] at h;cases h
theorem zj0{g:Str}{hs:List Str}{ps:List (Str×Str)}{lks hds:List D}(T:TownOk g hs ps lks hds)(x:Str):(ze2 ps x).Nodup:=by
 have nd:=T.ps_nd
 unfold ze2
 rw[List.nodup_append]
 refine⟨?_,?_,?_⟩
 ·rw[List.nodup_iff_pairwise_ne,List.pairwise_map]
  refine List.Pairwise.imp_of_mem (λ{a b} ha hb hab z=>?_) (nd.filter _)
  have h1:a.2=x:=ζh (List.mem_filter.mp ha).2
  have h2:b.2=x:=ζh (List.mem_filter.mp hb).2
  exact hab (Prod.ext z (h1.trans h2.symm))
 ·rw[List.nodup_iff_pairwise_ne,List.pairwise_map]
  refine List.Pairwise.imp_of_mem (λ{a b} ha hb hab z=>?_) (nd.filter _)
  have h1:a.1=x:=ζh (List.mem_filter.mp ha).2
  have h2:b.1=x:=ζh (List.mem_filter.mp hb).2
  exact hab (Prod.ext (h1.trans h2.symm) z)
 ·intro y hy z hz e
  subst e
  obtain⟨a,ha,rfl⟩:=List.mem_map.mp hy
  obtain⟨b,hb,eb⟩:=List.mem_map.mp hz
  obtain⟨ha1,ha2⟩:=List.mem_filter.mp ha
  obtain⟨hb1,hb2⟩:=List.mem_filter.mp hb
  have h1:a.2=x:=ζh ha2
  have h2:b.1=x:=ζh hb2
  have l1:=(T.ties a ha1).2.2
  have l2:=(T.ties b hb1).2.2
  rw[h1] at l1
  rw[h2,eb] at l2
  have:=zdV l1
  rw[l2] at this
  cases this
theorem zoj{g:Str}{hs:List Str}{ps:List (Str×Str)}{lks hds:List D}(T:TownOk g hs ps lks hds){x y:Str}(h:y∈ze2 ps x):y∈hs:=by
 rcases mem_nbrs.mp h with h|h
 ·exact (T.ties _ h).1
 ·exact (T.ties _ h).2.1
theorem zm3{g:Str}{hs:List Str}{ps:List (Str×Str)}{lks hds:List D}(T:TownOk g hs ps lks hds)(x:Str):(ze2 ps x).length<=10:=ξa (zbT (zj0 T x) λy hy=>zoj T hy) T.ten
structure WayOk(g:Str)(hs:List Str)(ps:List (Str×Str))(ws:List Str):Prop where
 nd:ws.Nodup
 mem:∀x∈ws,x∈hs
 last:∃w0,ws=w0 ++ [g]
 tied:∀(i:Nat) (a b:Str),ws[i]?=some a->ws[i+1]?=some b->b∈ze2 ps a
theorem zh8{J:It}{vs:List V}{ps:List (Str×Str)}{sel:Str×Str->Bool}{f:Str×Str->Str}{ok:Hp->Prop}{g:TG}{tc:TT}{te:TE}{H:Hp}{src:List (Option Nat)}{σ:L2.St}{Q:VK}(Iv:L2.St->Prop)(wk:Wk J vs.length (λi x=>vs[i]?=some x) ok)(hok:∀H',Same H H'->ok H')(r:RepL H vs (ps.map RW.pairD))(hl:ps.length<=900)(h0:Iv (zeI src σ))
 (hs:∀(q:Addr) (p:Str×Str) (σ':L2.St) (H1:Hp) (A:V->Hp->L2.St->Prop) (B:L2.St->Hp->Prop),Iv σ'->Same H H1->H1 q=some (.tup [.str p.1, .str p.2])->p∈ps->(∀σ2,Iv σ2->if sel p=true then A (.str (f p)) H1 σ2 else B σ2 H1)->g (.ref q) σ' H1 λσ2 H3=>tc σ2 H3 λb H4=>if b=true then te σ2 H4 (λy H5=>A y H5 σ2)else B σ2 H4)
 (q:∀l H',Same H H'->H l=none->H' l=some (.lst (((ps.filter sel).map f).map V.str))->Q (.ref l) H'):zfh g tc te src σ Q J H:=by
 refine zaR wk (λl i ys σ' H'=>Iv σ'/\ys=(((ps.take i).filter sel).map f).map V.str/\Same H H') ?_ ?_ ?_ ?_
 ·exact λl h'=>⟨h0,rfl,Same.new h'⟩
 ·exact λl i ys σ' H' _ p=>hok H' p.2.2
 ·rintro l i y ys σ' H1 h' hi hy ⟨iv,rfl,s1⟩ hl'
  obtain⟨d,hd,rd⟩:=r.get hy
  rw[ζp] at hd
  cases hp:ps[i]? with
  |none=>rw[hp] at hd;cases hd
  |some p=>
   rw[hp] at hd
   cases hd
   obtain⟨q,x,y,rfl,hq,r1,r2⟩:=(rd.same s1).of2
   cases r1 with|str _ _=>
   cases r2 with|str _ _=>
   refine hs q p σ' H1 (λy H5 σ2=>H5 l=some (.lst ((((ps.take i).filter sel).map f).map V.str))/\((((ps.take i).filter sel).map f).map V.str).length<sizeLine/\Iv σ2/\(((ps.take i).filter sel).map f).map V.str ++ [y]=(((ps.take (i+1)).filter sel).map f).map V.str/\Same H (upd H5 l (.lst ((((ps.take i).filter sel).map f).map V.str ++ [y])))) (λσ2 H4=>H4 l=some (.lst ((((ps.take i).filter sel).map f).map V.str))/\Iv σ2/\(((ps.take i).filter sel).map f).map V.str=(((ps.take (i+1)).filter sel).map f).map V.str/\Same H H4) iv s1 hq (ζk hp) λσ2 iv2=>?_
   have tk:((ps.take (i+1)).filter sel)=((ps.take i).filter sel)++ [p].filter sel:=by rw[ξs,hp,List.filter_append];rfl
   cases hsel:sel p with
   |false=>
    refine zbq rfl ⟨hl',iv2,?_,s1⟩
    rw[tk]
    simp[hsel]
   |true=>
    refine zbP rfl ⟨hl',?_,iv2,?_,?_⟩
    ·rw[ζa,ζa]
     have h2:=List.length_filter_le sel (ps.take i)
     rw[ζl] at h2
     exact zj (by omega)
    ·rw[tk]
     simp[hsel]
    ·exact λc o e=>by
      rw[zi (ze e h')]
      exact s1 _ _ e
 ·rintro l ys σ' H1 h' ⟨iv,rfl,s1⟩ hl'
  have e:ps.length=vs.length:=by rw[r.1,ζa]
  rw[←e,ξv] at hl'
  exact q l H1 s1 h' hl'
theorem zgG{H:Hp}{us:List V}{xs:List Str}(r:RepL H us (xs.map D.str)):us=xs.map V.str:=by
 apply List.ext_getElem?
 intro i
 rcases ζw i xs.length with hi|hi
 ·have hv:i<us.length:=by rw[r.1,ζa];exact hi
  have:=r.2 i us[i] (.str xs[i]) (by simp[hv]) (by simp[hi])
  rw[ζd hv,ζp,ζd hi]
  generalize us[i]=z at this
  cases this
  rfl
 ·rw[ζi (by rw[r.1,ζa];exact hi),ζi (by rw[ζa];exact hi)]
noncomputable def zak(xs:List Str):List PyData:=xs.map PyData.str
section
variable{X:Cx}{K:ξk}
end
section
variable{te tf:TE}{ta:TA}{σ:L2.St}{H:Hp}{d:D}{ds es:List D}{K:ξk}
end
section
variable{te tf:TE}{ta:TA}{tb:TS}{De:Ends}{σ:L2.St}{H:Hp}{d:D}{ds es:List D}{K:ξk}{k:Nat}
end
theorem zcA:∀{l m:List Str},l.Pairwise (λa b=>ltS a b=true)->m.Pairwise (λa b=>ltS a b=true)->(∀x,x∈l↔x∈m)->l=m
 |[],[],_,_,_=>rfl
 |[],b::m,_,_,h=>absurd ((h b).mpr ζo) ψb
 |a::l,[],_,_,h=>absurd ((h a).mp ζo) ψb
 |a::l,b::m,p,q,h=>by
  obtain⟨p1,p2⟩:=List.pairwise_cons.mp p
  obtain⟨q1,q2⟩:=List.pairwise_cons.mp q
  have e:a=b:=by
   rcases List.mem_cons.mp ((h a).mp ζo)with z|z
   ·exact z
   rcases List.mem_cons.mp ((h b).mpr ζo)with y|y
   ·exact y.symm
   have:=zdV (q1 a z)
   rw[p1 b y] at this;cases this
  subst e
  rw[zcA p2 q2 λx=>⟨λhx=>?_,λhx=>?_⟩]
  ·rcases List.mem_cons.mp ((h x).mp (ξc _ hx))with rfl|z
   ·have:=p1 x hx;rw[zcd] at this;cases this
   ·exact z
  ·rcases List.mem_cons.mp ((h x).mpr (ξc _ hx))with rfl|z
   ·have:=q1 x hx;rw[zcd] at this;cases this
   ·exact z
noncomputable def dueB(ps:List (Str×Str))(x:Str):D->Bool| .str y=>decide ((x,y)∈ps)||decide ((y,x)∈ps)|_=>false
noncomputable def due(hs:List Str)(ps:List (Str×Str))(x:Str):List Str:=hs.filter λy=>decide ((x,y)∈ps)||decide ((y,x)∈ps)
theorem zqX{g:Str}{hs:List Str}{ps:List (Str×Str)}{lks hds:List D}(T:TownOk g hs ps lks hds){x:Str}{ts:List Str}(hp:ts.Perm (ze2 ps x))(h:sortedS ts=true):ts=due hs ps x:=by
 refine zcA (ze8 ts h (hp.nodup_iff.mpr (zj0 T x))) (T.rise.filter _) λy=>?_
 rw[hp.mem_iff,mem_nbrs]
 unfold due
 rw[List.mem_filter,Bool.or_eq_true,ζg,ζg]
 constructor
 ·rintro (z|z)
  ·exact ⟨(T.ties _ z).1, .inr z⟩
  ·exact ⟨(T.ties _ z).2.1, .inl z⟩
 ·rintro ⟨_,z|z⟩
  ·exact .inr z
  ·exact .inl z
theorem zeM:∀{xs ys:List Str},PyData.eqvAll (zak xs) (zak ys)=decide (xs=ys)
 |[],[]=>by unfold zak;rw[List.map_nil,PyData.eqvAll];rfl
 |[],y::ys=>by unfold zak;rw[List.map_nil,ξt,PyData.eqvAll];rfl
 |x::xs,[]=>by unfold zak;rw[List.map_nil,ξt,PyData.eqvAll];rfl
 |x::xs,y::ys=>by
  have ih:=zeM (xs:=xs) (ys:=ys)
  unfold zak at ih⊢
  rw[ξt,ξt,PyData.eqvAll,PyData.eqv,ih,ξd,ζg,List.cons.injEq]
  simp
theorem zdz:∀{xs:List Str},PyData.depthAll (zak xs)<=1
 |[]=>by unfold zak;rw[List.map_nil,PyData.depthAll];decide
 |x::xs=>by
  have ih:=zdz (xs:=xs)
  unfold zak at ih⊢
  rw[ξt,PyData.depthAll,PyData.depth]
  omega
end RW
namespace L2
open PySem PySem.Spec PyProof.Rows
structure FunD(K:ξk)(x qual:Str)(st:Stmt)(f:Addr)(fd:FuncData):Prop where
 ex:∃(oc:Value) (od:Option Addr) (dt:Addr) (kV doc pm:Value) (an:Option Addr) (cdv ct:Value) (osl:Array (Option Value)) (od2:Option Addr) (n2:Nat) (sl2:Array (Option Value)),
  fd=PySem.W.fnOf x qual (zp st) (zo st) (zc st) (.ref dt) kV doc pm an cdv ct/\K.lookup f=some ⟨oc,od, .func fd,osl⟩/\PySem.W.codeIn K cdv qual=true/\K.lookup dt=some ⟨.type "tuple",od2, .seq #[.none] n2,sl2⟩
 kp:PySem.W.keepIn K (.ref f)=true
section
variable{P:Program}{w:World}{K:ξk}{mg:Str->Option Value}{base:Heap}
theorem FunD.okQ{x qual:Str}{st:Stmt}{f:Addr}{fd:FuncData}{N ps:List Str}{k:Nat}{sp:Sp}(F:FunD K x qual st f fd)(S:FnScope N ps (zc st))(len:∀vs H Q E,sp vs H Q E->vs.length=ps.length)
 (hbody:∀(cdv:Value) (A:Around) (outer:List Env) (s:Shared) (H:Hp) (vs:List V) (Q:VK) (E:XK),Room k (A.deeper (envOfC qual (zc st) s.heap.objs.size f cdv))->sp vs H Q E->
   ∃t,QB (zhO CX0 P w K mg base N qual (zc st) f cdv A outer s H E).nox (zo st) t/\t {nx:=λ_ H'=>Q .non H',rt:=Q} (zdw N vs) H):FnOk P w K mg base CX0 (k+1) f fd ps sp:=by
 obtain⟨oc,od,dt,kV,doc,pm,an,cdv,ct,osl,od2,n2,sl2,rfl,lk,hcd,ld⟩:=F.ex
 refine zpL lk hcd S len λA outer s H vs Q E hr hsp=>?_
 obtain⟨t,h,q⟩:=hbody cdv A outer s H vs Q E hr hsp
 exact⟨t,h.o.nox,q⟩
theorem zjR{x qual:Str}{st:Stmt}{f dt:Addr}{oc:Value}{od an od2:Option Addr}{osl sl2:Array (Option Value)}{n2:Nat}{kV doc pm cdv ct:Value}(l:K.lookup f=some ⟨oc,od, .func (PySem.W.fnOf x qual (zp st) (zo st) (zc st) (.ref dt) kV doc pm an cdv ct),osl⟩)
 (ld:K.lookup dt=some ⟨.type "tuple",od2, .seq #[.none] n2,sl2⟩) (c:PySem.W.codeIn K cdv qual=true) (k:PySem.W.keepIn K (.ref f)=true):FunD K x qual st f (PySem.W.fnOf x qual (zp st) (zo st) (zc st) (.ref dt) kV doc pm an cdv ct):=⟨⟨oc,od,dt,kV,doc,pm,an,cdv,ct,osl,od2,n2,sl2,rfl,l,c,ld⟩,k⟩
theorem FunD.binds{x qual:Str}{st:Stmt}{f:Addr}{fd:FuncData}{ps:List Str}{ds:List Value}(F:FunD K x qual st f fd)(m:Nat)(hm:ps.length=m+ds.length)
 (h:∀(dt:Addr) (kV doc pm:Value) (an:Option Addr) (cdv ct:Value) (us:List Value),us.length=m->∃k:Option (Array Value)->Sem (List (Str×Value)),bindArgs (PySem.W.fnOf x qual (zp st) (zo st) (zc st) (.ref dt) kV doc pm an cdv ct) ⟨us,[]⟩=seqItems? (.ref dt)>>=k/\k (some #[.none])=pure (ps.zip (us ++ds))):Binds K fd ps ds:=by
 obtain⟨oc,od,dt,kV,doc,pm,an,cdv,ct,osl,od2,n2,sl2,rfl,lk,hcd,ld⟩:=F.ex
 intro s us kin hl
 obtain⟨k,e1,e2⟩:=h dt kV doc pm an cdv ct us (by rw[ζe] at hl;omega)
 exact BindsTo.of_defaults (T:=dt) rfl (kin _ _ ld) rfl e1 e2
end
end L2
namespace RW
open PySem PySem.Spec PyProof.Rows L2
structure AtD(K:ξk)(mg:Str->Option Value)(x:Str)(st:Stmt)(ps:List Str)(f:Addr)(fd:FuncData):Prop where
 fn:FunD K x x st f fd
 b:Binds K fd ps []
 bd:Binds K fd ps [.none]
 mg:mg x=some (.ref f)
 kp:PySem.W.keepIn K (.ref f)=true
noncomputable def z3(O:List Str):D->Bool| .tup [_, .str x]=>decide (x∈O)|_=>true
noncomputable def zaV(O:List Str):D->Bool| .tup [.str w,e]=>if w="not"then z3 O e else z3 O (.tup [.str w,e])|_=>true
noncomputable def zpb(O:List Str):D->Bool| .tup ds=>ds.all (zaV O)|_=>true
noncomputable def zfC(O:List Str):D->Bool| .tup [c,t]=>zpb O c&&z3 O t|_=>true
noncomputable def zcz(O:List Str):D->Bool| .tup ds=>ds.all (zfC O)|_=>true
structure Pool(hs:List Str)(lks hds:List D)(O:List Str):Prop where
 few:O.length<=14
 nm:∀x∈O,zh x=true
 hs:∀x∈hs,x∈O
 lk:∀d∈lks,zcz O d=true
 hd:∀d∈hds,zcz O d=true
noncomputable def zg1(O:List Str)(d:D):Bool:=zW d&&zfC O d
noncomputable def zeG(O:List Str)(d:D):Bool:=zbR d&&zfC O d
theorem zaF{O:List Str}{y:D}{x:Str}(h:x∈O):z3 O (.tup [y, .str x])=true:=ζf h
theorem zgS{O:List Str}{w:Str}{e:D}(h:zB (.tup [.str w,e])=true)(hp:z3 O (.tup [.str w,e])=true):zaV O (.tup [.str w,e])=true:=by
 show(if w="not"then _ else _)=true
 by_cases z:w="not"
 ·subst z;rw[zci] at h;cases h
 ·rw[if_neg z];exact hp
theorem zet{O:List Str}{d:D}(h:zB d=true)(hp:z3 O d=true):zaV O d=true:=by
 obtain⟨x,e,rfl⟩:=zbu d h
 exact zgS h hp
theorem zfW{O:List Str}{d:D}(hp:z3 O d=true):zaV O (.tup [.str "not",d])=true:=by
 show(if("not":Str)="not"then z3 O d else z3 O (.tup [.str "not",d]))=true
 rw[if_pos rfl];exact hp
theorem zdm{O:List Str}{ds:List D}{t:D}(h:∀d∈ds,zaV O d=true)(ht:z3 O t=true):zfC O (.tup [.tup ds,t])=true:=by
 show(ds.all (zaV O)&&z3 O t)=true
 rw[List.all_eq_true.mpr h,ht];rfl
end RW
namespace L2
open PySem PySem.Spec PyProof.Rows
section
variable{X:Cx}{pos:Pos}{pins:List (Addr×Obj)}{σ:St}{H:Hp}{s:Shared}
end
end L2
namespace RW
open PySem PySem.Spec PyProof.Rows L2
noncomputable def phB(ws ms:List Str)(to:Option Str)(w:Str)(x:D):Bool:=
 if w="by"then (match x with| .str y=>ws.any λz=>decide (z=y)|_=>false)
 else if w="from"then (match x with| .str y=>decide (ws[1]?=some y)|_=>false)
 else if w="to"then (match x with| .str y=>decide (to=some y)|_=>false)
 else if w="mark"then (match x with| .str y=>ms.any λz=>decide (z=y)|_=>false)
 else(match x with| .int i=>decide (i<(ws.length:Int))|_=>false)
noncomputable def zb3(ws ms:List Str)(to:Option Str):D->Bool| .tup [.str w,x]=>phB ws ms to w x|_=>false
noncomputable def za2(ws ms:List Str)(to:Option Str):D->Bool| .tup [.str w,x]=>if w="not"then !zb3 ws ms to x else phB ws ms to w x|_=>false
def TO(v:V)(to:Option Str):Prop:=(v= .non/\to=none)\/∃x,v= .str x/\to=some x/\zh x=true
theorem zZ{x:Str}{e:D}(h:zB (.tup [.str x,e])=true):(x="long"/\∃i:Int,e= .int i/\0<=i/\i<=99)\/(x∈namingL/\∃y,e= .str y/\zh y=true):=by
 rw[zd1] at h
 by_cases z:x="long"
 ·rw[if_pos z] at h
  cases e with
  |int i=>
   have h:(decide (0<=i)&&decide (i<=99))=true:=h
   rw[ζs,ζg,ζg] at h
   exact .inl ⟨z,i,rfl,h.1,h.2⟩
  |_=>cases h
 ·rw[if_neg z,ζs] at h
  obtain⟨h1,h2⟩:=h
  obtain⟨y,hy,ey⟩:=List.any_eq_true.mp h1
  have ey:y=x:=ζh ey
  subst ey
  cases e with
  |str y'=>exact .inr ⟨hy,y',rfl,h2⟩
  |_=>cases h2
theorem zcM{x:Str}(h:x∈namingL):x="by"\/x="from"\/x="to"\/x="mark":=by
 unfold namingL at h
 simpa using h
theorem zpV{ws ms:List Str}{to:Option Str}{y:Str}:phB ws ms to "by" (.str y)=ws.any λz=>decide (z=y):=by
 unfold phB;rw[if_pos rfl]
theorem zjI{ws ms:List Str}{to:Option Str}{y:Str}:phB ws ms to "from" (.str y)=decide (ws[1]?=some y):=by
 unfold phB;rw[if_neg (by decide +kernel),if_pos rfl]
theorem zpP{ws ms:List Str}{to:Option Str}{y:Str}:phB ws ms to "to" (.str y)=decide (to=some y):=by
 unfold phB;rw[if_neg (by decide +kernel),if_neg (by decide +kernel),if_pos rfl]
theorem zke{ws ms:List Str}{to:Option Str}{y:Str}:phB ws ms to "mark" (.str y)=ms.any λz=>decide (z=y):=by
 unfold phB;rw[if_neg (by decide +kernel),if_neg (by decide +kernel),if_neg (by decide +kernel),if_pos rfl]
theorem zjV{ws ms:List Str}{to:Option Str}{i:Int}:phB ws ms to "long" (.int i)=decide (i<(ws.length:Int)):=by
 unfold phB;rw[if_neg (by decide +kernel),if_neg (by decide +kernel),if_neg (by decide +kernel),if_neg (by decide +kernel)]
theorem TO.eq{v:V}{to:Option Str}{y:Str}(h:TO v to):zqt v (.str y)=true/\decide (v= .str y)=decide (to=some y):=by
 rcases h with⟨rfl,rfl⟩|⟨x,rfl,rfl,_⟩
 ·exact ⟨rfl,rfl⟩
 ·refine ⟨rfl,?_⟩
  rw[zbI,ξd,ζg,ζg,Option.some.injEq]
theorem zeH{H:Hp}{p:Addr}{xs:List Str}(e:H p=some (.tup (xs.map V.str)))(h:∀x∈xs,PyData.strOk x=true):Tr H (.ref p) (.tuple (zak xs)):=by
 refine .tup e (by unfold zak;rw[ζa,ζa]) λi v d e1 e2=>?_
 unfold zak at e2
 rw[ζp] at e1 e2
 cases e3:xs[i]? with
 |none=>rw[e3] at e1;cases e1
 |some x=>
  rw[e3] at e1 e2
  cases e1
  cases e2
  exact .str x (h x (ζk e3))
theorem strs_eqvT{xs ys:List Str}:(PyData.tuple (zak xs)).eqv (.tuple (zak ys))=decide (xs=ys):=by
 rw[PyData.eqv,zeM]
theorem zde{xs:List Str}:(PyData.tuple (zak xs)).depth<=60:=by
 have:=zdz (xs:=xs)
 rw[PyData.depth]
 omega
theorem zlU{xs:List V}(h:1<=xs.length):zbB xs (some 1) (some 2)=(xs.drop 1).take 1:=by
 unfold zbB HT.sIx
 simp only[show¬((1:Int)<0) by omega,show¬((2:Int)<0) by omega,if_false]
 rcases ζw 1 xs.length with z|z
 ·rw[show min (Int.toNat 1) xs.length=1 by omega,show min (Int.toNat 2) xs.length=2 by omega]
 ·match xs,h,z with
  |[a],_,_=>rfl
  |[],h,_=>exact absurd h (by simp)
  |_::_::_,_,z=>exact absurd z (by simp)
theorem zld{ws:List Str}{y:Str}:decide ((ws.drop 1).take 1=[y])=decide (ws[1]?=some y):=by
 rw[ξd,ζg,ζg]
 match ws with
 |[]=>simp
 |[a]=>simp
 |a::b::r=>simp
noncomputable def zdP(c:D->Bool)(g:List Str->List Str->Option Str->D->Bool):Sp:=λvs H Q _=>∃(v:V) (d:D) (pw pm:Addr) (vt:V) (ws ms:List Str) (to:Option Str),vs=[v, .ref pw, .ref pm,vt]/\Rep H v d/\c d=true/\H pw=some (.tup (ws.map V.str))/\H pm=some (.tup (ms.map V.str))/\TO vt to/\(∀x∈ws,zh x=true)/\(∀x∈ms,zh x=true)/\1<=ws.length/\ws.length<=100/\ms.length<=100/\∀H',Same H H'->Q (.bl (g ws ms to d)) H'
theorem zfO{c:D}(h:zaA c=true):∃cs,c= .tup cs/\cs.length<=4/\∀d∈cs,zw d=true:=by
 cases c with
 |tup cs=>
  rw[zh6,ζs] at h
  exact⟨cs,rfl,ζh h.1,List.all_eq_true.mp h.2⟩
 |_=>cases h
theorem ziI{d:D}{f:D->D->Bool}(h:(match d with| .tup [c,x]=>f c x|_=>false)=true):∃c x,d= .tup [c,x]/\f c x=true:=by
 split at h
 ·exact ⟨_,_,rfl,h⟩
 ·cases h
theorem zgA{d:D}(h:zW d=true):∃cs x,d= .tup [.tup cs,x]/\cs.length<=4/\(∀c∈cs,zw c=true)/\(x= .non\/∃i,x= .int i):=by
 unfold zW at h
 obtain⟨c,x,rfl,h⟩:=ziI (f:=λc x=>zaA c&&zbA x&&!zdR c) h
 rw[ζs,ζs] at h
 obtain⟨cs,rfl,h4,hc⟩:=zfO h.1.1
 refine⟨cs,x,rfl,h4,hc,?_⟩
 have hx:=h.1.2
 cases x with
 |non=>exact .inl rfl
 |int i=>exact .inr ⟨i,rfl⟩
 |_=>cases hx
theorem zmm{x:D}(h:zbX x=true):(x= .tup [.str "keep"])\/∃w y,x= .tup [.str w, .str y]/\(w="put"\/w="strike")/\zh y=true:=by
 unfold zbX at h
 split at h
 ·rename_i w
  exact .inl (by rw[ζh h])
 ·rename_i w y
  rw[ζs,Bool.or_eq_true] at h
  have h2:=h.2
  cases y with
  |str y=>exact .inr ⟨w,y,rfl,h.1.imp ζh ζh,h2⟩
  |_=>cases h2
 ·cases h
theorem zks{d:D}(h:zbR d=true):∃cs x,d= .tup [.tup cs,x]/\cs.length<=4/\(∀c∈cs,zw c=true)/\zbX x=true:=by
 unfold zbR at h
 obtain⟨c,x,rfl,h⟩:=ziI (f:=λc x=>zaA c&&zbX x) h
 rw[ζs] at h
 obtain⟨cs,rfl,h4,hc⟩:=zfO h.1
 exact⟨cs,x,rfl,h4,hc,h.2⟩
theorem zlt{O:List Str}{cs:List D}{t:D}(h:zfC O (.tup [.tup cs,t])=true):(∀c∈cs,zaV O c=true)/\z3 O t=true:=by
 have h:(cs.all (zaV O)&&z3 O t)=true:=h
 rw[ζs] at h
 exact⟨List.all_eq_true.mp h.1,h.2⟩
section
variable{te tf:TE}{ta:TA}{tb:TS}{De:Ends}{σ:L2.St}{H:Hp}{d:D}{ds es:List D}{K:ξk}{k:Nat}
end
end RW
namespace HT
open PySem PySem.Spec PyProof.Rows
section
variable{prog:Program}{w:World}{A:Around}{E:Value->Shared->Prop}{s:Shared}
theorem zeL:∀{vs:List Value} {ys:List Str},StrsAre vs ys->vs.length=ys.length/\∀(i:Nat) (y:Str),ys[i]?=some y->∃t,vs[i]?=some (.str y t)
 |_,_, .nil=>⟨rfl,λi y h=>by simp at h⟩
 |_,_, .cons y t r=>by
  obtain⟨h1,h2⟩:=zeL r
  refine⟨by simp[h1],λi z h=>?_⟩
  cases i with
  |zero=>cases h;exact⟨t,rfl⟩
  |succ i=>exact h2 i z h
theorem index_tup{t:Addr}{items:Array Value}{ys:List Str}{x:Str}{tk:Tok}{j:Nat}{Q:Value->Shared->Prop}(ht:IsTup s.heap t items)(hS:StrsAre items.toList ys)(hj:ys[j]?=some x)(hb:∀i<j,ys[i]?≠some x)
 (h:∀(t':Tok) (k:Nat),Q (.int j t') {s with toks:=k}):wpAny (model prog w) A (call (.builtin "tuple.index") [.ref t, .str x tk]) Q E s:=by
 refine wpAny_call_entry PySem.F.slot_tuple_index ht.typeIs PySem.F.entry_tuple_index ?_ (PySem.F.args_tuple_index_2 _ _)
 unfold Builtin.«tuple.index»
 refine ζb (m:=selfAndSome "tuple.index" "index" 1 3 _) (ζr ?_)
 dsimp only
 refine ζb (tupleItemsOf_ ht ?_)
 refine ζb (ζr ?_)
 refine ζb (ζr ?_)
 obtain⟨hl,hg⟩:=zeL hS
 have hjn:j<items.size:=by
  rw[←ξq,hl]
  rcases ζw j ys.length with z|z
  ·exact z
  ·rw[ζi z] at hj;cases hj
 rw[Std.Legacy.Range.forIn_eq_forIn_range']
 refine ζb (wpAny_forIn_list _ (λl b s'=>∃i,l=List.range' i (items.size -i) 1/\i<=j/\b=(none,())/\s'=s) _ ?_ ?_ _ _ ?_)
 ·rintro a rest b s' ⟨i,el,hij,rfl,rfl⟩
  obtain⟨m,em⟩:∃m,items.size -i=m+1:=⟨items.size -i -1,by omega⟩
  rw[em,List.range'_succ] at el
  have ea:=(List.cons.inj el).1
  have er:=(List.cons.inj el).2
  subst er
  rw[ea]
  have hiy:i<ys.length:=by rw[←hl,ξq];omega
  obtain⟨t1,e1⟩:=hg i ys[i] (by simp[hiy])
  have e2:items[i]?=some (.str ys[i] t1):=by rw[←ξo];exact e1
  rw[e2]
  dsimp only
  refine ζb (wpAny_eqBool_str ?_)
  rcases ζw i j with z|z
  ·have ne:¬ys[i]=x:=λy=>hb i z (by rw[←y];simp[hiy])
   rw[ζn ne]
   exact ζr ⟨i+1,by rw[show items.size -(i+1)=m by omega],by omega,rfl,rfl⟩
  ·have ei:i=j:=by omega
   subst ei
   have ey:ys[i]=x:=by
    have:ys[i]?=some ys[i]:=by simp[hiy]
    rw[this] at hj;exact ξh hj
   rw[ζf ey]
   refine ζb (m:=retInt _) (ζb (wpAny_mkInt (ζr (ζr ?_))))
   exact ζr ⟨_,rfl,h _ _⟩
 ·rintro b s' ⟨i,el,hij,rfl,rfl⟩
  have:=congrArg List.length el
  rw[List.length_range',List.length_nil] at this
  omega
 ·exact ⟨0,by simp[Std.Legacy.Range.size],ξi _,rfl,rfl⟩
end
section
variable{prog:Program}{w:World}{A:Around}{E:Value->Shared->Prop}{s:Shared}
end
section
variable{prog:Program}{w:World}{A:Around}{E:Value->Shared->Prop}{s:Shared}
end
end HT
namespace L2
open PySem PySem.Spec PyProof.Rows
section
variable{X:Cx}{K:ξk}
def zov(K:ξk):V->List V->Hp->VK->Prop:=λx vs H Q=>∃(p:Addr) (ys:List Str) (y:Str) (j:Nat),x= .ref p/\vs=[.str y]/\SqT K H p (ys.map V.str)/\ys[j]?=some y/\(∀i<j,ys[i]?≠some y)/\Q (.int (j:Int)) H
theorem zen:MtR X "tuple.index" (zov X.K):=by
 intro pins s σ H x xs v us Q I rx rs h
 obtain⟨p,ys,y,j,rfl,rfl,hq,hj,hb,q⟩:=h
 cases rx
 obtain⟨u,rfl,ru⟩:=zbG rs
 obtain⟨t,rfl⟩:=ru
 obtain⟨its,rv,pl,hz⟩:=I.tuple hq
 exact HT.index_tup pl (by simpa using zbj rv) hj hb λt' k=>⟨.int _,H,I.tok _,⟨_,rfl⟩,q⟩
end
end L2
namespace RW
open PySem PySem.Spec PyProof.Rows L2
theorem zl9{hs:List Str}(nd:hs.Nodup){x:Str}{i j:Nat}(h1:hs[i]?=some x)(h2:hs[j]?=some x):i=j:=by
 have lt:∀{k:Nat},hs[k]?=some x->k<hs.length:=λ{k} z=>by
  rcases ζw k hs.length with y|y
  ·exact y
  ·rw[ζi y] at z;cases z
 have l1:=lt h1
 have l2:=lt h2
 rw[ζd l1] at h1
 rw[ζd l2] at h2
 have e:hs[i]=hs[j]:=(ξh h1).trans (ξh h2).symm
 have pw:=List.pairwise_iff_getElem.mp nd
 rcases Nat.lt_trichotomy i j with z|z|z
 ·exact absurd e (pw i j l1 l2 z)
 ·exact z
 ·exact absurd e.symm (pw j i l2 l1 z)
theorem zfT{hs:List Str}(nd:hs.Nodup){x:Str}{j:Nat}(h:hs[j]?=some x):∀i<j,hs[i]?≠some x:=λi hi z=>by
 have:=zl9 nd z h
 omega
noncomputable def zew(ws ms:List Str)(to:Option Str)(cs:List D):Bool:=cs.all (za2 ws ms to)
noncomputable def zgy:D->List D| .tup [.tup cs,_]=>cs|_=> []
noncomputable def zkt:D->D| .tup [_,t]=>t|_=> .non
noncomputable def z4(ws ms:List Str):List D->D
 |[]=> .int 0
 |r::rs=>if zew ws ms none (zgy r)=true then zkt r else z4 ws ms rs
noncomputable def zjt:Sp:=λvs H Q _=>∃(v:V) (cs:List D) (pw pm:Addr) (vt:V) (ws ms:List Str) (to:Option Str),vs=[v, .ref pw, .ref pm,vt]/\Rep H v (.tup cs)/\(∀c∈cs,zw c=true)/\H pw=some (.tup (ws.map V.str))/\H pm=some (.tup (ms.map V.str))/\TO vt to/\(∀x∈ws,zh x=true)/\(∀x∈ms,zh x=true)/\1<=ws.length/\ws.length<=100/\ms.length<=100/\∀H',Same H H'->Q (.bl (zew ws ms to cs)) H'
noncomputable def zrJ:Sp:=λvs H Q _=>∃(v:V) (x:Str) (g:Str) (hs:List Str) (ps:List (Str×Str)) (lks hds:List D) (j:Nat),vs=[v, .str x]/\Rep H v (zaT g hs ps lks hds)/\TownOk g hs ps lks hds/\hs[j]?=some x/\∀(vr:V) (d:D),lks[j]?=some d->Rep H vr d->Q vr H
noncomputable def zhk:Sp:=λvs H Q _=>∃(v:V) (pw pm:Addr) (x:Str) (ws ms:List Str) (g:Str) (hs:List Str) (ps:List (Str×Str)) (lks hds:List D) (j:Nat) (rs:List D),vs=[v, .ref pw, .ref pm]/\Rep H v (zaT g hs ps lks hds)/\TownOk g hs ps lks hds/\hs[j]?=some x/\lks[j]?=some (.tup rs)/\H pw=some (.tup ((x::ws).map V.str))/\H pm=some (.tup (ms.map V.str))/\(∀y∈x::ws,zh y=true)/\(∀y∈ms,zh y=true)/\ws.length<=90/\ms.length<=100/\∀(u:V) (H':Hp),Rep H' u (z4 (x::ws) ms rs)->Same H H'->Q u H'
theorem zqV{g:Str}{hs:List Str}{ps:List (Str×Str)}{lks hds:List D}(T:TownOk g hs ps lks hds){x:Str}(h:x∈hs):∃(j:Nat) (rs:List D),hs[j]?=some x/\lks[j]?=some (.tup rs)/\rs.length<=90/\∀r∈rs,zW r=true:=by
 obtain⟨j,hj,e⟩:=List.getElem_of_mem h
 have hl:j<lks.length:=by rw[T.ll];exact hj
 have hlk:=T.likes lks[j] (List.getElem_mem hl)
 cases hd:lks[j] with
 |tup rs=>
  rw[hd] at hlk
  have h:(decide (rs.length<=90)&&rs.all zW)=true:=hlk
  rw[ζs] at h
  exact⟨j,rs,by rw[ζd hj,e],by rw[ζd hl,hd],ζh h.1,List.all_eq_true.mp h.2⟩
 |_=>rw[hd] at hlk;cases hlk
theorem zhj{α:Type}{rs:List α}{i:Nat}{d:α}(h:rs[i]?=some d):rs.drop i=d::rs.drop (i+1):=by
 have hi:i<rs.length:=by
  rcases ζw i rs.length with y|y
  ·exact y
  ·rw[ζi y] at h;cases h
 rw[List.drop_eq_getElem_cons hi]
 rw[ζd hi] at h
 rw[ξh h]
mutual
noncomputable def okD:D->Bool
 | .str x=>PyData.strOk x
 | .tup ds=>okL ds
 | .oth=>false
 | .non=>true
 | .bl _=>true
 | .int _=>true
noncomputable def okL:List D->Bool
 |[]=>true
 |d::ds=>okD d&&okL ds
end
mutual
noncomputable def pyD:D->PyData
 | .non=> .none
 | .bl b=> .bool b
 | .int i=> .int i
 | .str x=> .str x
 | .tup ds=> .tuple (pyL ds)
 | .oth=> .none
noncomputable def pyL:List D->List PyData
 |[]=> []
 |d::ds=>pyD d::pyL ds
end
theorem zbS:∀{ds:List D},pyL ds=ds.map pyD
 |[]=>by rw[pyL];rfl
 |d::ds=>by rw[pyL,ξt,zbS]
theorem zgO:∀{ds:List D},okL ds=true->∀d∈ds,okD d=true
 |[],_,_,z=>nomatch z
 |d::ds,h,e,he=>by
  rw[okL,ζs] at h
  rcases List.mem_cons.mp he with rfl|he
  ·exact h.1
  ·exact zgO h.2 e he
theorem zmg:∀{ds:List D},(∀d∈ds,okD d=true)->okL ds=true
 |[],_=>by rw[okL]
 |d::ds,h=>by rw[okL,h d ζo,zmg λe he=>h e (ξc _ he)];rfl
theorem zpO{H:Hp}{v:V}{d:D}(r:Rep H v d):okD d=true->Tr H v (pyD d):=by
 induction r with
 |non=>intro _;rw[pyD];exact .non
 |bl b=>intro _;rw[pyD];exact .bl b
 |int i=>intro _;rw[pyD];exact .int i
 |str x _=>intro h;rw[okD] at h;rw[pyD];exact .str x h
 | @tup p vs ds hp l b r ih=>
   intro h
   rw[okD] at h
   rw[pyD,zbS]
   refine .tup hp (by rw[l,ζa]) λi v d e1 e2=>?_
   rw[ζp] at e2
   cases e:ds[i]? with
   |none=>rw[e] at e2;cases e2
   |some d'=>
    rw[e] at e2
    cases e2
    exact ih i v d' e1 e (zgO h d' (ζk e))
 |lst _=>intro h;rw[okD] at h;cases h
 |dK _=>intro h;rw[okD] at h;cases h
noncomputable def leS(a b:Str):Bool:=!ltS b a
noncomputable def srt(l:List Str):List Str:=l.mergeSort leS
theorem ziR(a b c:Str)(h1:leS a b=true)(h2:leS b c=true):leS a c=true:=by
 unfold leS at *
 rw[Bool.not_eq_true'] at *
 cases h:ltS c a with
 |false=>rfl
 |true=>
  by_cases e:a=b
  ·subst e;rw[h] at h2;cases h2
  ·have ab:ltS a b=true:=zd5 (λz=>e z.symm) h1
   have:=zex h ab
   rw[this] at h2;cases h2
theorem zky(a b:Str):(leS a b||leS b a)=true:=by
 unfold leS
 cases h:ltS b a with
 |false=>rfl
 |true=>rw[zdV h];rfl
theorem zcr(l:List Str):(srt l).Perm l:=List.mergeSort_perm l leS
theorem zfr{l:List Str}(nd:l.Nodup):(srt l).Pairwise (λa b=>ltS a b=true):=by
 have h1:(srt l).Pairwise (λa b=>leS a b=true):=List.pairwise_mergeSort ziR zky l
 have h2:(srt l).Nodup:=(zcr l).nodup_iff.mpr nd
 refine(h1.and h2).imp λ{a b} h=>?_
 obtain⟨ha,hn⟩:=h
 unfold leS at ha
 rw[Bool.not_eq_true'] at ha
 exact zd5 (λz=>hn z.symm) ha
theorem zrd{ts l:List Str}(hp:ts.Perm l)(hs:sortedS ts=true)(nd:l.Nodup):ts=srt l:=
 zcA (ze8 ts hs (hp.nodup_iff.mpr nd)) (zfr nd) λx=>by rw[hp.mem_iff,(zcr l).mem_iff]
noncomputable def zal(t:List Str)(w m:Str):List Str:=t.filter (λx=>!decide (x=m))++(if w="put"then [m] else [])
theorem zem{t:List Str}{w m:Str}(nd:t.Nodup):(zal t w m).Nodup:=by
 unfold zal
 rw[List.nodup_append]
 refine⟨nd.filter _,?_,?_⟩
 ·split<;>simp
 ·intro a ha b hb e
  split at hb
  ·rw[List.mem_singleton.mp hb] at e
   have:=(List.mem_filter.mp ha).2
   rw[e] at this
   simp at this
  ·cases hb
theorem zlF{t O:List Str}{w m:Str}(h:∀x∈t,x∈O)(hm:m∈O):∀x∈zal t w m,x∈O:=by
 unfold zal
 refine List.forall_mem_append.mpr ⟨λx hx=>h x (List.mem_filter.mp hx).1,λx hx=>?_⟩
 split at hx
 ·rw[List.mem_singleton.mp hx];exact hm
 ·cases hx
noncomputable def zd0(t:List Str)(w m:Str):List Str:=srt (zal t w m)
structure Mk(O t:List Str):Prop where
 nd:t.Nodup
 mem:∀x∈t,x∈O
theorem Mk.next{O t:List Str}{w m:Str}(h:Mk O t)(hm:m∈O):Mk O (zd0 t w m) where
 nd:=(zcr _).nodup_iff.mpr (zem h.nd)
 mem:=λx hx=>zlF h.mem hm x ((zcr _).mem_iff.mp hx)
theorem Mk.len{O t:List Str}(h:Mk O t)(hO:O.length<=14):t.length<=14:=ξa (zbT h.nd h.mem) hO
noncomputable def zv(ws:List Str)(to:Option Str):List D->List Str->Option (List Str)
 |[],t=>some t
 |r::rs,t=>if zew ws t to (zgy r)=true then(match zkt r with| .tup [.str w, .str m]=>zv ws to rs (zd0 t w m)|_=>none)else zv ws to rs t
def zcb(O:List Str)(rs:List D):Prop:=rs.length<=90/\∀r∈rs,∃cs x,r= .tup [.tup cs,x]/\(∀c∈cs,zw c=true)/\(x= .tup [.str "keep"]\/∃w m,x= .tup [.str w, .str m]/\(w="put"\/w="strike")/\m∈O)
theorem zkV{O:List Str}{d:D}(h:zcp d=true)(hi:zcz O d=true):∃rs,d= .tup rs/\zcb O rs:=by
 cases d with
 |tup rs=>
  have h:(decide (rs.length<=90)&&rs.all zbR)=true:=h
  rw[ζs] at h
  refine⟨rs,rfl,ζh h.1,λr hr=>?_⟩
  obtain⟨cs,x,rfl,h4,hc,hx⟩:=zks (List.all_eq_true.mp h.2 r hr)
  obtain⟨h1,h2⟩:=zlt (List.all_eq_true.mp hi _ hr)
  refine⟨cs,x,rfl,hc,?_⟩
  rcases zmm hx with rfl|⟨w,y,rfl,hw,_⟩
  ·exact .inl rfl
  ·exact .inr ⟨w,y,rfl,hw,ζh h2⟩
 |_=>cases h
def Told(H:Hp)(u:V):Option (List Str)->Prop
 |none=>u= .non
 |some t=>∃p,u= .ref p/\H p=some (.tup (t.map V.str))
theorem Told.same{H H':Hp}{u:V}{o:Option (List Str)}(h:Told H u o)(s:Same H H'):Told H' u o:=by
 cases o with
 |none=>exact h
 |some t=>obtain ⟨p,e,g⟩:=h;exact⟨p,e,s _ _ g⟩
noncomputable def zr4:Sp:=λvs H Q _=>∃(v:V) (x:Str) (g:Str) (hs:List Str) (ps:List (Str×Str)) (lks hds:List D) (j:Nat),vs=[v, .str x]/\Rep H v (zaT g hs ps lks hds)/\TownOk g hs ps lks hds/\hs[j]?=some x/\∀(vr:V) (d:D),hds[j]?=some d->Rep H vr d->Q vr H
noncomputable def zdO:Sp:=λvs H Q _=>∃(v:V) (pw pm:Addr) (vt:V) (x:Str) (ws ms:List Str) (to:Option Str) (g:Str) (hs:List Str) (ps:List (Str×Str)) (lks hds:List D) (j:Nat) (rs:List D) (O:List Str),vs=[v, .ref pw, .ref pm,vt]/\Rep H v (zaT g hs ps lks hds)/\TownOk g hs ps lks hds/\hs[j]?=some x/\hds[j]?=some (.tup rs)/\zcb O rs/\O.length<=14/\(∀y∈O,zh y=true)/\Mk O ms/\H pw=some (.tup ((x::ws).map V.str))/\H pm=some (.tup (ms.map V.str))/\TO vt to/\(∀y∈x::ws,zh y=true)/\ws.length<=90/\∀(u:V) (H':Hp),Told H' u (zv (x::ws) to rs ms)->Same H H'->Q u H'
theorem zqs{g:Str}{hs:List Str}{ps:List (Str×Str)}{lks hds:List D}(T:TownOk g hs ps lks hds){x:Str}(h:x∈hs):∃(j:Nat) (d:D),hs[j]?=some x/\hds[j]?=some d/\d∈hds:=by
 obtain⟨j,hj,e⟩:=List.getElem_of_mem h
 have hl:j<hds.length:=by rw[T.lh];exact hj
 exact⟨j,hds[j],by rw[ζd hj,e],ζd hl,List.getElem_mem hl⟩
noncomputable def neD(m:Str):D->Bool| .str z=>!decide (z=m)|_=>false
theorem zmG{t:List Str}{m:Str}:((t.map D.str).filter (neD m)).map (λd=>d)=(t.filter λx=>!decide (x=m)).map D.str:=by
 rw[List.map_id',List.filter_map];rfl
end RW
namespace L2
open PySem PySem.W PySem.Spec PyProof.Rows
section
open PySem.SeqAt
open PySem.AutoSeq1 (wpAny_loadPart')
open PySem.MeetsSeq PySem.MeetsSeq2 PySem.MeetsSeq3
theorem zea(l b:Addr)(n n2:Nat)(dd dd2:Option Addr)(sl sl2:Array (Option Value))(xs ys:List Value)(k:Nat)(res:Bool):
 Meets (Builtin.«tuple.__lt__» ⟨[.ref l, .ref b],[]⟩) (λA R s=>s.heap.get? l=some {cls:= .type "tuple",dict:=dd,data:= .seq xs.toArray n,slots:=sl}/\s.heap.get? b=some {cls:= .type "tuple",dict:=dd2,data:= .seq ys.toArray n2,slots:=sl2}/\
  (∀prog w i x y,i<k->xs[i]?=some x->ys[i]?=some y->∀(E:Value->Shared->Prop) (Q:Bool->Shared->Prop),Q true s->wpAny (model prog w) A.in1 (eqBool x y) Q E s)/\k<=xs.length/\k<=ys.length/\
  ((k=min xs.length ys.length/\res=decide (xs.length<ys.length))\/∃x y,xs[k]?=some x/\ys[k]?=some y/\(∀prog w (E:Value->Shared->Prop) (Q:Bool->Shared->Prop),Q false s->wpAny (model prog w) A.in1 (eqBool x y) Q E s)/\∀prog w (E:Value->Shared->Prop) (Q:Value->Shared->Prop),Q (.bool res) s->wpAny (model prog w) A.in1 (richCompare .Lt x y) Q E s)/\
  R (.ok (.ret (.bool res))) s):=
 .of_wp λprog w A R s h=>by
  obtain⟨hp,g,d,tk,os⟩:=s
  obtain⟨hl,hb,he,k1,k2,hk,h⟩:=h
  have f2:=AutoSeq1.sub_tuple_tuple
  wp_walk using wpAny_loadPart' hl,wpAny_loadPart' hb,wpAny_forIn_list _ (λrest b s'=>b.1=none/\s'=⟨hp,g,d,tk,os⟩/\∃i,i<=k/\rest=(xs.zip ys).drop i) _
  case turn=>
   rintro⟨p,q⟩ rest b s' ⟨hb',rfl,i,hi,hr⟩
   have hx:(xs.zip ys)[i]?=some (p,q):=by
    have:=congrArg (λl=>l[0]?) hr
    simpa[List.getElem?_drop] using this.symm
   rw[List.getElem?_zip_eq_some] at hx
   have hr2:rest=(xs.zip ys).drop (i+1):=by
    have:=congrArg List.tail hr
    simpa using this
   rcases ζw i k with z|z
   ·refine ζb (he prog w i p q z hx.1 hx.2 _ _ ?_)
    wp_walk
    exact⟨rfl,rfl,i+1,z,hr2⟩
   ·have ei:i=k:=by omega
    subst ei
    rcases hk with⟨hm,_⟩|⟨x,y,ex,ey,f1,f3⟩
    ·have h1:i<xs.length:=by
      rcases ζw i xs.length with y|y
      ·exact y
      ·rw[ζi y] at hx;cases hx.1
     have h2:i<ys.length:=by
      rcases ζw i ys.length with y|y
      ·exact y
      ·rw[ζi y] at hx;cases hx.2
     omega
    ·rw[hx.1] at ex
     rw[hx.2] at ey
     cases ex
     cases ey
     refine ζb (f1 prog w _ _ ?_)
     have c1:=f3 prog w
     wp_walk using c1
     exact⟨_,rfl,h⟩
  case fin=>
   rintro⟨b1,b2⟩ s' ⟨hb',rfl,i,hi,hr⟩
   simp only at hb'
   subst hb'
   have hlen:(xs.zip ys).length<=i:=by
    have:=congrArg List.length hr
    rw[List.length_nil,ζq] at this
    omega
   rw[List.length_zip] at hlen
   rcases hk with⟨hm,hres⟩|⟨x,y,ex,ey,_⟩
   ·wp_walk
    rw[hres] at h
    exact⟨_,rfl,h⟩
   ·have h1:k<xs.length:=by
     rcases ζw k xs.length with y|y
     ·exact y
     ·rw[ζi y] at ex;cases ex
    have h2:k<ys.length:=by
     rcases ζw k ys.length with z|z
     ·exact z
     ·rw[ζi z] at ey;cases ey
    omega
  case h=>
   exact⟨rfl,rfl,0,ξi _,by simp⟩
end
end L2
namespace L2
open PySem PySem.W PySem.Spec PyProof.Rows RW
noncomputable def ltL:List Str->List Str->Bool
 |[],[]=>false
 |[],_::_=>true
 |_::_,[]=>false
 |x::xs,y::ys=>if x=y then ltL xs ys else ltS x y
theorem zlL:∀(ps qs:List Str),∃k,k<=ps.length/\k<=qs.length/\(∀i<k,ps[i]?=qs[i]?)/\((k=min ps.length qs.length/\ltL ps qs=decide (ps.length<qs.length))\/∃x y,ps[k]?=some x/\qs[k]?=some y/\x≠y/\ltL ps qs=ltS x y)
 |[],[]=>⟨0,ζt _,ζt _,λi z=>absurd z (Nat.not_lt_zero _), .inl ⟨rfl,rfl⟩⟩
 |[],q::qs=>⟨0,ζt _,ξi _,λi z=>absurd z (Nat.not_lt_zero _), .inl ⟨by simp,by rw[ltL];simp⟩⟩
 |p::ps,[]=>⟨0,ξi _,ζt _,λi z=>absurd z (Nat.not_lt_zero _), .inl ⟨by simp,by rw[ltL];simp⟩⟩
 |p::ps,q::qs=>by
  by_cases e:p=q
  ·subst e
   obtain⟨k,k1,k2,he,hk⟩:=zlL ps qs
   refine⟨k+1,by simp;omega,by simp;omega,λi hi=>?_,?_⟩
   ·cases i with
    |zero=>rfl
    |succ i=>exact he i (by omega)
   ·rw[ltL,if_pos rfl]
    rcases hk with⟨h1,h2⟩|⟨x,y,h1,h2,h3,h4⟩
    ·exact .inl ⟨by simp;omega,by rw[h2];simp⟩
    ·exact .inr ⟨x,y,by simpa using h1,by simpa using h2,h3,h4⟩
  ·exact ⟨0,ξi _,ξi _,λi z=>absurd z (Nat.not_lt_zero _), .inr ⟨p,q,rfl,rfl,e,by rw[ltL,if_neg e]⟩⟩
section
variable{X:Cx}{K:ξk}
theorem zeh{ps:List Str}{its:List Value}(r:Vals (ps.map V.str) its){i:Nat}{v:Value}(h:its[i]?=some v):∃p t,ps[i]?=some p/\v= .str p t:=by
 have hi:i<its.length:=by
  rcases ζw i its.length with z|z
  ·exact z
  ·rw[ζi z] at h;cases h
 have hp:i<ps.length:=by have:=r.length;rw[ζa] at this;omega
 obtain⟨u,hu,ru⟩:=r.get (i:=i) (x:= .str ps[i]) (by rw[ζp,ζd hp];rfl)
 rw[hu] at h
 cases h
 obtain⟨t,rfl⟩:=ru
 exact⟨ps[i],t,ζd hp,rfl⟩
theorem zh0{ps:List Str}{its:List Value}(r:Vals (ps.map V.str) its):its.length=ps.length:=by have:=r.length;rw[ζa] at this;exact this.symm
theorem zmT{prog:Program}{w:World}{A:Around}{E:Value->Shared->Prop}{s:Shared}{Q:Value->Shared->Prop}{a b:Addr}{ps qs:List Str}{its its2:List Value}(ra:Vals (ps.map V.str) its)(rb:Vals (qs.map V.str) its2)(ha:IsTup s.heap a its.toArray)(hb:IsTup s.heap b its2.toArray)(hu:A.units<cLine)
 (q:Q (.bool (ltL ps qs)) s):wpAny (model prog w) A (richCompare .Lt (.ref a) (.ref b)) Q E s:=by
 obtain⟨⟨c1,d1,e1,f1⟩,ho,hc,n,hd⟩:=id ha
 obtain⟨⟨c2,d2,e2,f2⟩,ho2,hc2,n2,hd2⟩:=id hb
 simp only at hc hd hc2 hd2
 subst hc hd hc2 hd2
 obtain⟨k,k1,k2,he,hk⟩:=zlL ps qs
 have l1:=zh0 ra
 have l2:=zh0 rb
 refine richCompare_meets_room (op:= .Lt) ⟨_,ho,rfl⟩ ⟨_,ho2,rfl⟩ PySem.F.slot_tuple_lt PySem.F.entry_tuple_lt (PySem.F.args_tuple_lt_2 _ _) (zea a b n n2 d1 d2 f1 f2 its its2 k (ltL ps qs)) ⟨ho,ho2,?_,by omega,by omega,?_,?_⟩ hu
 ·intro prog w i x y hi hx hy E Q hq
  obtain⟨p,t,hp,rfl⟩:=zeh ra hx
  obtain⟨q',t',hp',rfl⟩:=zeh rb hy
  have e:p=q':=by
   have:=he i hi
   rw[hp,hp'] at this;exact ξh this
  refine wpAny_eqBool_str ?_
  rw[ζf e];exact hq
 ·rcases hk with⟨h1,h2⟩|⟨x,y,h1,h2,h3,h4⟩
  ·exact .inl ⟨by omega,by rw[h2,l1,l2]⟩
  ·have hx:k<its.length:=by
    rw[l1]
    rcases ζw k ps.length with z|z
    ·exact z
    ·rw[ζi z] at h1;cases h1
   have hy:k<its2.length:=by
    rw[l2]
    rcases ζw k qs.length with z|z
    ·exact z
    ·rw[ζi z] at h2;cases h2
   obtain⟨p,t,hp,e1⟩:=zeh ra (ζd hx)
   obtain⟨q',t',hp',e2⟩:=zeh rb (ζd hy)
   rw[h1] at hp
   rw[h2] at hp'
   cases hp
   cases hp'
   refine .inr ⟨_,_,ζd hx,ζd hy,λprog w E Q hq=>?_,λprog w E Q hq=>?_⟩
   ·rw[e1,e2]
    refine wpAny_eqBool_str ?_
    rw[ζn h3];exact hq
   ·rw[e1,e2]
    rw[h4] at hq
    exact(PyProof.Rows.lt_str hq:wpAny (model prog w) A.in1 (compareOp .Lt (.str x t) (.str y t')) Q E s)
 ·exact ⟨(λx=>nomatch x),q⟩
noncomputable def ltK(k1 k2:Int×Int×List Str):Bool:=if k1.1=k2.1 then(if k1.2.1=k2.2.1 then ltL k1.2.2 k2.2.2 else decide (k1.2.1<k2.2.1))else decide (k1.1<k2.1)
def zrH(H:Hp)(x:V)(k:Int×Int×List Str):Prop:=∃a p,x= .ref a/\H a=some (.tup [.int k.1, .int k.2.1, .ref p])/\H p=some (.tup (k.2.2.map V.str))/\∀y∈k.2.2,PyData.strOk y=true
theorem zg4:∀(ps:List Str),ltL ps ps=false
 |[]=>rfl
 |p::ps=>by rw[ltL,if_pos rfl];exact zg4 ps
theorem zq3{x y z:V}{us:List Value}(r:Vals [x,y,z] us):∃a b c,us=[a,b,c]/\RelV x a/\RelV y b/\RelV z c:=by
 cases r with
 |cons h1 r=>cases r with
  |cons h2 r=>cases r with
   |cons h3 r=>
    cases r
    exact⟨_,_,_,rfl,h1,h2,h3⟩
end
end L2
namespace RW
open PySem PySem.Spec PyProof.Rows L2
noncomputable def zpJ:Sp:=λvs H Q _=>∃(v:V) (pw pm:Addr) (x:Str) (ws ms:List Str) (g:Str) (hs:List Str) (ps:List (Str×Str)) (lks hds:List D) (j:Nat) (rs:List D) (i:Int),vs=[v, .ref pw, .ref pm]/\Rep H v (zaT g hs ps lks hds)/\TownOk g hs ps lks hds/\hs[j]?=some x/\lks[j]?=some (.tup rs)/\H pw=some (.tup ((x::ws).map V.str))/\H pm=some (.tup (ms.map V.str))/\(∀y∈x::ws,zh y=true)/\(∀y∈ms,zh y=true)/\ws.length<=90/\ms.length<=100/\z4 (x::ws) ms rs= .int i/\∀(u:V) (H':Hp),zrH H' u (-i,((x::ws).length:Int),x::ws)->Same H H'->Q u H'
end RW
namespace HT
open PySem PySem.Spec PyProof.Rows
section
variable{prog:Program}{w:World}{A:Around}{E:Value->Shared->Prop}{s:Shared}
end
end HT
namespace L2
open PySem PySem.Spec PyProof.Rows
section
variable{X:Cx}{e st:Expr}{te ts:TE}{p1 p2 p3 pos:Pos}{tk:Tok}
end
end L2
namespace RW
open PySem PySem.Spec PyProof.Rows L2
section
variable{te tf:TE}{ta:TA}{σ:L2.St}{H:Hp}{d:D}{ds es:List D}{K:ξk}
end
end RW
namespace L2
open PySem PySem.Spec PyProof.Rows
section
variable{X:Cx}{pos:Pos}{pins:List (Addr×Obj)}{σ:St}{H:Hp}{s:Shared}
end
section
variable{X:Cx}{K:ξk}
def zpi:V->List V->Hp->VK->Prop:=λx vs H Q=>∃(l:Addr) (i:Nat) (y:V) (xs:List V),x= .ref l/\vs=[.int (i:Int),y]/\H l=some (.lst xs)/\xs.length<1000/\i<=xs.length/\Q .non (upd H l (.lst (xs.take i ++ [y]++xs.drop i)))
noncomputable def zqi(x:Int)(y:Value)(xs:Array Value):Array Value:=(xs.extract 0 (if x<0 then(x+(xs.size:Int)).toNat else min x.toNat xs.size)).push y ++xs.extract (if x<0 then(x+(xs.size:Int)).toNat else min x.toNat xs.size)
theorem zot{its:List Value}{i:Nat}{y:Value}(hi:i<=its.length):zqi (i:Int) y its.toArray=(its.take i ++ [y]++its.drop i).toArray:=by
 unfold zqi
 have e1:(if(i:Int)<0 then((i:Int)+(its.toArray.size:Int)).toNat else min (i:Int).toNat its.toArray.size)=i:=by
  rw[if_neg (by omega),ζu];omega
 rw[e1]
 apply Array.toList_inj.mp
 simp
 exact List.take_of_length_le (by rw[ζq];exact ζt _)
theorem zmE{x:Int}(h0:0<=x)(h1:x<=1000):¬(!Builtin.List.listFitsIndex x)=true:=by
 have h1:x<2^63:=Int.lt_of_le_of_lt h1 (by decide)
 have h2: -(2^63:Int)<=x:=Int.le_trans (show(-(2^63:Int))<=0 by decide) h0
 unfold Builtin.List.listFitsIndex
 rw[ζf h1,ζf h2]
 decide
theorem zmJ{prog:Program}{w:World}{A:Around}{E:Value->Shared->Prop}{s:Shared}{Q:Value->Shared->Prop}(l:Addr)(items:Array Value)(n:Nat)(x:Int)(u:Tok)(y:Value)(fit:¬(!Builtin.List.listFitsIndex x)=true)(fs:items.size<=sizeLine)
 (e:s.heap.get? l=some {cls:= .type "list",data:= .seq items n}) (q:Q .none {s with heap:=s.heap.update l (Obj.mapSeq (zqi x y)),toks:=s.toks}):wpAny (model prog w) A (call (.builtin "list.insert") [.ref l, .int x u,y]) Q E s:=
 call_meets F.slot_list_insert ⟨_,e,rfl⟩ F.entry_list_insert (F.args_list_insert_3 _ _ _) (@AutoSeq1.list_insert_list_int_val_1 l items n x u y fit fs) ⟨e,q⟩
theorem zlm:MtM X "list.insert" zpi:=by
 intro pins s σ H x vs v us Q I rx rv h
 obtain⟨l,i,y,xs,rfl,rfl,hH,hz,hi,q⟩:=h
 cases rx
 obtain⟨u1,u2,rfl,r1,r2⟩:=rv.two
 obtain⟨t,rfl⟩:=r1
 obtain⟨z,its,n,r,hl,e⟩:=I.lstM hH
 have hlen:=r.length
 have hf:=zot (y:=u2) (show i<=its.length by omega)
 have h0:0<=(i:Int):=Int.natCast_nonneg i
 have h1:(i:Int)<=1000:=by omega
 generalize (i:Int)=x at *
 refine zmJ l its.toArray n x t u2 (zmE h0 h1) (by rw[ζu,sizeLine_eq];omega) e ?_
 refine⟨.non,_,I.lset (its':=its.take i ++ [u2]++its.drop i) (t':=s.toks) hH e hf ((Vals.take i r).append (.cons r2 .nil)|>.append (Vals.drop i r)) ?_,rfl,q⟩
 rw[ζe,ζe,ζl,List.length_singleton,ζq,sizeLine_eq];omega
end
section
variable{X:Cx}{pos:Pos}
end
end L2
namespace HT
open PySem PySem.Spec PyProof.Rows
end HT
namespace L2
open PySem PySem.Spec PyProof.Rows
section
variable{X:Cx}{e i o:Expr}{te td ty:TE}{p1 p2 p3 pos:Pos}{tk:Tok}
theorem zqE(hu:X.A.units+1<cLine)(ho:QE X o td)(hi:QE X i ty)(hs:zoi i:=by exact λ_ _=>rfl):QE X (.Subscript o i pos) (zpE td ty):=⟨zn0 hu ho.o hi.o hs⟩
end
end L2
namespace RW
open PySem PySem.Spec PyProof.Rows L2
theorem zlW:∀{ps qs rs:List Str},ltL ps qs=true->ltL qs rs=true->ltL ps rs=true
 |[],[],_,h,_=>by rw[ltL] at h;cases h
 |_::_,[],_,h,_=>by rw[ltL] at h;cases h
 |_,_::_,[],_,h=>by rw[ltL] at h;cases h
 |[],_::_,_::_,_,_=>by rw[ltL]
 |p::ps,q::qs,r::rs,h1,h2=>by
  rw[ltL] at h1 h2⊢
  by_cases z:p=q
  ·subst z
   rw[if_pos rfl] at h1
   by_cases y:p=r
   ·subst y
    rw[if_pos rfl] at h2⊢
    exact zlW h1 h2
   ·rw[if_neg y] at h2⊢
    exact h2
  ·rw[if_neg z] at h1
   by_cases y:q=r
   ·subst y
    rw[if_neg z];exact h1
   ·rw[if_neg y] at h2
    have h3:=zex h1 h2
    rw[if_neg (zgP h3)]
    exact h3
theorem znR(k:Int×Int×List Str):ltK k k=false:=by
 unfold ltK
 rw[if_pos rfl,if_pos rfl];exact zg4 _
theorem zi3{k1 k2 k3:Int×Int×List Str}(h1:ltK k1 k2=true)(h2:ltK k2 k3=true):ltK k1 k3=true:=by
 unfold ltK at *
 by_cases z:k1.1=k2.1
 ·rw[if_pos z] at h1
  by_cases z2:k2.1=k3.1
  ·rw[if_pos z2] at h2
   rw[if_pos (z.trans z2)]
   by_cases y:k1.2.1=k2.2.1
   ·rw[if_pos y] at h1
    by_cases y2:k2.2.1=k3.2.1
    ·rw[if_pos y2] at h2
     rw[if_pos (y.trans y2)]
     exact zlW h1 h2
    ·rw[if_neg y2] at h2
     rw[if_neg (by rw[y];exact y2)]
     have:=ζh h2
     exact ζf (by omega)
   ·rw[if_neg y] at h1
    have h1:=ζh h1
    by_cases y2:k2.2.1=k3.2.1
    ·rw[if_neg (by omega)]
     exact ζf (by omega)
    ·rw[if_neg y2] at h2
     have h2:=ζh h2
     rw[if_neg (by omega)]
     exact ζf (by omega)
  ·rw[if_neg z2] at h2
   have h2:=ζh h2
   rw[if_neg (by omega)]
   exact ζf (by omega)
 ·rw[if_neg z] at h1
  have h1:=ζh h1
  by_cases z2:k2.1=k3.1
  ·rw[if_neg (by omega)]
   exact ζf (by omega)
  ·rw[if_neg z2] at h2
   have h2:=ζh h2
   rw[if_neg (by omega)]
   exact ζf (by omega)
theorem zpq{k1 k2:Int×Int×List Str}(h:ltK k1 k2=true):ltK k2 k1=false:=by
 cases e:ltK k2 k1 with
 |false=>rfl
 |true=>have:=zi3 h e;rw[znR] at this;cases this
noncomputable abbrev WM:=List Str×List Str
noncomputable def wI(rs:List D)(e:WM):Int:=match z4 e.1 e.2 rs with| .int a=>a|_=>0
noncomputable def kE(rs:List D)(e:WM):Int×Int×List Str:=(-(wI rs e),(e.1.length:Int),e.1)
noncomputable def ltE(rs:List D)(a b:WM):Bool:=ltK (kE rs a) (kE rs b)
mutual
theorem zn9:∀d:D,(pyD d).eqv (pyD d)=true
 | .non=>by rw[pyD,PyData.eqv]
 | .bl b=>by rw[pyD,PyData.eqv];simp
 | .int i=>by rw[pyD,PyData.eqv];simp
 | .str x=>by rw[pyD,PyData.eqv];simp
 | .tup ds=>by rw[pyD,PyData.eqv];exact zjG ds
 | .oth=>by rw[pyD,PyData.eqv]
theorem zjG:∀ds:List D,PyData.eqvAll (pyL ds) (pyL ds)=true
 |[]=>by rw[pyL,PyData.eqvAll]
 |d::ds=>by rw[pyL,PyData.eqvAll,zn9 d,zjG ds];rfl
end
theorem zcY{n:Nat}:∀{xs:List PyData},(∀x∈xs,x.depth<=n)->PyData.depthAll xs<=n
 |[],_=>by rw[PyData.depthAll];exact ξi _
 |x::xs,h=>by
  rw[PyData.depthAll]
  have h1:=h x ζo
  have h2:=zcY (n:=n) λy hy=>h y (ξc _ hy)
  omega
end RW
namespace HT
open PySem PySem.Spec PyProof.Rows L2
section
variable{prog:Program}{w:World}{A:Around}{E:Value->Shared->Prop}{s:Shared}
def SqH(t:Bool)(h:Heap)(a:Addr)(items:Array Value):Prop:=if t then h.IsTuple a items else h.IsList a items
def ItH(t:Bool)(h:Heap)(it a:Addr)(i:Nat):Prop:=if t then h.IsTupleIter it a i else h.IsListIter it a i
end
end HT
namespace L2
open PySem PySem.Spec PyProof.Rows
section
variable{X:Cx}{K:ξk}
structure ZpA(z TI TO i1 i2:Addr):Prop where
 TIz:TI≠z
 TOz:TO≠z
 i1z:i1≠z
 i2z:i2≠z
 TITO:TI≠TO
 TIi1:TI≠i1
 TIi2:TI≠i2
 TOi1:TO≠i1
 TOi2:TO≠i2
 i12:i1≠i2
end
noncomputable abbrev lc2(elt t1 i1 t2 i2:Expr)(f1 f2:List Expr)(scope:Scope)(pos:Pos):Expr:= .ListComp elt [⟨t1,i1,f1,0⟩,⟨t2,i2,f2,0⟩] scope pos
theorem zfZ(elt t1 i1 t2 i2:Expr)(f1 f2:List Expr)(scope:Scope)(pos:Pos)(it acc:Value)(env:Env):
 compTurn (lc2 elt t1 i1 t2 i2 f1 f2 scope pos) 0 it acc env=(do
  standAt i1.pos
  match←pyNext it with
  |none=>pure (.done .next)
  |some v=>
   letOwnedTupleGo t1 it v
   assign t1 env v
   let mut ok:=true
   for c in f1 do
    if ok then ok ←isTrue c env (eval c env)
   if ok then
    let x ←eval i2 env
    standAt i2.pos
    let x ←foldedSetIterable i2 env x
    let _ ←runOwn (.compStart (lc2 elt t1 i1 t2 i2 f1 f2 scope pos) 1 (←holding [x] (pyIter x)) acc env) env
   again (.compLoop (lc2 elt t1 i1 t2 i2 f1 f2 scope pos) 0 it acc env)):=by rfl
theorem zgd(elt t1 i1 t2 i2:Expr)(f1 f2:List Expr)(scope:Scope)(pos:Pos)(it acc:Value)(env:Env):
 compTurn (lc2 elt t1 i1 t2 i2 f1 f2 scope pos) 1 it acc env=(do
  standAt i2.pos
  match←pyNext it with
  |none=>pure (.done .next)
  |some v=>
   letOwnedTupleGo t2 it v
   assign t2 env v
   let mut ok:=true
   for c in f2 do
    if ok then ok ←isTrue c env (eval c env)
   if ok then
    (do let _ ←call (.builtin "list.append") [acc,←eval elt env])
   again (.compLoop (lc2 elt t1 i1 t2 i2 f1 f2 scope pos) 1 it acc env)):=by rfl
section
variable{prog:Program}{w:World}{A:Around}{R:Result->Shared->Prop}{s:Shared}{elt t1 i1 t2 i2:Expr}{f1 f2:List Expr}{scope:Scope}{pos:Pos}{it acc:Value}{env:Env}
theorem zga(I:Nat->Shared->Prop)
 (turn:∀n s,I n s->wpAny (model prog w) A (pyNext it) (λr s1=>match r with
   |none=>R (.ok .next) s1
   |some v=>wpAny (model prog w) A (letOwnedTupleGo t2 it v) (λ_ s1'=>wpAny (model prog w) A (assign t2 env v) (λ_ s2=>wpAny (model prog w) A (zdT f2 env) (λok s3=>
     if ok=true then wpAny (model prog w) A (eval elt env) (λx s4=>wpAny (model prog w) A (call (.builtin "list.append") [acc,x]) (λ_ s5=>∃m,m<n/\I m s5) (λ_ _=>False) s4) (λ_ _=>False) s3
     else∃m,m<n/\I m s3) (λ_ _=>False) s2) (λ_ _=>False) s1') (λ_ _=>False) s1) (λ_ _=>False) s)
 (n:Nat) (h:I n s):codeAny (model prog w) A (.compLoop (lc2 elt t1 i1 t2 i2 f1 f2 scope pos) 1 it acc env) R s:=by
 have no:∀{E:Value->Shared->Prop} (e:Value) (s:Shared),(λ(_:Value) (_:Shared)=>False) e s->E e s:=λ_ _ z=>False.elim z
 refine codeAny_loop rfl I (λn s hI=>?_) n h
 show wpAny _ A ((compTurn (lc2 elt t1 i1 t2 i2 f1 f2 scope pos) 1 it acc env).onRaise (λx=>do noteFrame x env;theTreesLotGoes x)) _ _ s
 refine wpAny_noted ?_
 rw[zgd]
 refine ζb (wpAny_standAt (ζb (ψc (turn n s hI) (λr s₁ h₁=>?_) no)))
 cases r with
 |none=>exact ζr h₁
 |some v=>
  refine ζb (ψc h₁ (λ_ s1' h1'=>?_) no)
  refine ζb (ψc h1' (λ_ s₂ h₂=>ζb (ψc h₂ (λok s₃ h₃=>?_) no)) no)
  cases ok with
  |false=>exact ζr ⟨rfl,h₃⟩
  |true=>
   exact ζb (ζb (ψc h₃ (λx s₄ h₄=>ζb (ψc h₄ (λ_ s₅ h₅=>ζr (ζr ⟨rfl,h₅⟩)) no)) no))
theorem zf9(I:Nat->Shared->Prop)(hs2:∀x,foldedSetIterable i2 env x=pure x)
 (turn:∀n s,I n s->wpAny (model prog w) A (pyNext it) (λr s1=>match r with
   |none=>R (.ok .next) s1
   |some v=>wpAny (model prog w) A (letOwnedTupleGo t1 it v) (λ_ s1'=>wpAny (model prog w) A (assign t1 env v) (λ_ s2=>wpAny (model prog w) A (zdT f1 env) (λok s3=>
     if ok=true then wpAny (model prog w) A (eval i2 env) (λx s4=>wpAny (model prog w) A (pyIter x) (λit2 s5=>codeAny (model prog w) A (.compStart (lc2 elt t1 i1 t2 i2 f1 f2 scope pos) 1 it2 acc env) (λr s6=>match r with| .ok _=>∃m,m<n/\I m s6| .error _=>False) s5) (λ_ _=>False) s4) (λ_ _=>False) s3
     else∃m,m<n/\I m s3) (λ_ _=>False) s2) (λ_ _=>False) s1') (λ_ _=>False) s1) (λ_ _=>False) s)
 (n:Nat) (h:I n s):codeAny (model prog w) A (.compLoop (lc2 elt t1 i1 t2 i2 f1 f2 scope pos) 0 it acc env) R s:=by
 have no:∀{E:Value->Shared->Prop} (e:Value) (s:Shared),(λ(_:Value) (_:Shared)=>False) e s->E e s:=λ_ _ z=>False.elim z
 refine codeAny_loop rfl I (λn s hI=>?_) n h
 show wpAny _ A ((compTurn (lc2 elt t1 i1 t2 i2 f1 f2 scope pos) 0 it acc env).onRaise (λx=>do noteFrame x env;theTreesLotGoes x)) _ _ s
 refine wpAny_noted ?_
 rw[zfZ]
 refine ζb (wpAny_standAt (ζb (ψc (turn n s hI) (λr s₁ h₁=>?_) no)))
 cases r with
 |none=>exact ζr h₁
 |some v=>
  refine ζb (ψc h₁ (λ_ s1' h1'=>?_) no)
  refine ζb (ψc h1' (λ_ s₂ h₂=>ζb (ψc h₂ (λok s₃ h₃=>?_) no)) no)
  cases ok with
  |false=>exact ζr ⟨rfl,h₃⟩
  |true=>
   refine ζb (ψc h₃ (λx s₄ h₄=>ζb (wpAny_standAt (ζb (wpAny_of_eq (hs2 x) (ζb (ψd (ψc h₄ (λit2 s₅ h₅=>?_) no))))))) no)
   refine ζb (wpAny_runOwn (codeAny_mono h₅ λr s₆ h₆=>?_))
   cases r with
   |error e=>exact False.elim h₆
   |ok f=>exact ζr ⟨rfl,h₆⟩
theorem zfR
 (h0:codeAny (model prog w) A (.compLoop (lc2 elt t1 i1 t2 i2 f1 f2 scope pos) 1 it acc env) R s)
 (h:wpAny (model prog w) A (pyIter it) (λit' s'=>codeAny (model prog w) A (.compLoop (lc2 elt t1 i1 t2 i2 f1 f2 scope pos) 1 it' acc env) R s')
   (notedBy (model prog w) A env λx s'=>R (.error x) s') s):
 codeAny (model prog w) A (.compStart (lc2 elt t1 i1 t2 i2 f1 f2 scope pos) 1 it acc env) R s:=by
 refine codeAny_of_tree ?_
 show wpAny _ _ ((compStart (lc2 elt t1 i1 t2 i2 f1 f2 scope pos) 1 it acc env).onRaise (λx=>do noteFrame x env;standAt theWindowsPlace)) _ _ s
 refine wpAny_notedAt ?_
 unfold compStart
 show wpAny _ _ (ask>>=_) _ _ s
 refine ζb (wpAny_askSetting (wpAny_ite ?_))
 split
 ·first
   |exact ζb (ζr (ζr (And.intro rfl h0)))
   |exact ζr (And.intro rfl h0)
 ·refine ζb (wpAny_rule ?_)
  show wpAny _ _ (standAt i2.pos>>=_) _ _ s
  refine ζb (wpAny_standAt ?_)
  exact ζb (ψc h (λit' s' h'=>ζr (And.intro rfl h')) λ_ _ z=>z)
end
def zrk(g2:TG)(tc2:TT)(te:TE)(l:Addr)(ys:List V)(N:List V->St->Hp->Prop)(J2:It)(σ2:St)(H5:Hp):Prop:=∃W:Nat->Nat->List V->St->Hp->Prop,(∃m,W 0 m ys σ2 H5)/\∀i m ys σ' H',W i m ys σ' H'->H' l=some (.lst ys)->
 (J2.stop i H'/\N ys σ' H')\/(J2.go i H'/\∃N2:List V->St->Hp->Prop,(∀zs σ2 H2,N2 zs σ2 H2->∃m',m'<m/\W (i+1) m' zs σ2 H2)/\∀x H2,J2.yld i H' x H2->g2 x σ' H2 λσ2 H3=>tc2 σ2 H3 λb H4=>
   if b=true then te σ2 H4 λy H5=>H5 l=some (.lst ys)/\ys.length<sizeLine/\N2 (ys ++ [y]) σ2 (upd H5 l (.lst (ys ++ [y])))
   else H4 l=some (.lst ys)/\N2 ys σ2 H4)
def zjB(g:TG)(tc:TT)(wi2:TI)(g2:TG)(tc2:TT)(te:TE)(src:List (Option Nat))(σ:St)(Q:VK)(J:It)(H1:Hp):Prop:=∀l,H1 l=none->
 ∃W:Nat->Nat->List V->St->Hp->Prop,(∃m,W 0 m [] (zeI src σ) (upd H1 l (.lst [])))/\∀i m ys σ' H',W i m ys σ' H'->H' l=some (.lst ys)->
  (J.stop i H'/\Q (.ref l) H')\/(J.go i H'/\∃N:List V->St->Hp->Prop,(∀zs σ2 H2,N zs σ2 H2->∃m',m'<m/\W (i+1) m' zs σ2 H2)/\∀x H2,J.yld i H' x H2->g x σ' H2 λσ2 H3=>tc σ2 H3 λb H4=>
    if b=true then wi2 σ2 H4 λJ2 H5=>H5 l=some (.lst ys)/\zrk g2 tc2 te l ys N J2 σ2 H5
    else H4 l=some (.lst ys)/\N ys σ2 H4)
noncomputable def znB(wi:TI)(g:TG)(tc:TT)(wi2:TI)(g2:TG)(tc2:TT)(te:TE)(src:List (Option Nat)):TE:=λσ H Q=>wi σ H (zjB g tc wi2 g2 tc2 te src σ Q)
section
variable{X:Cx}{elt tg iter tg2 iter2:Expr}{ifs ifs2:List Expr}{scope osc:Scope}{pos:Pos}{N':List Str}{src:List (Option Nat)}{wi wi2:TI}{g g2:TG}{tc tc2:TT}{te:TE}
theorem zlY(ok:CompOk X.N osc N' src scope)(hsc:X.env.scope=osc)(hc:X.calm=true)(hi:PI X tg iter wi)
 (hg:∀cl C s₀ H₀ fp,PG (zk X N' scope cl C s₀ H₀ fp) tg g) (ht:∀cl C s₀ H₀ fp,PIf (zk X N' scope cl C s₀ H₀ fp) ifs tc)
 (hi2:∀cl C s₀ H₀ fp,PI (zk X N' scope cl C s₀ H₀ fp) tg2 iter2 wi2) (hg2:∀cl C s₀ H₀ fp,PG (zk X N' scope cl C s₀ H₀ fp) tg2 g2) (ht2:∀cl C s₀ H₀ fp,PIf (zk X N' scope cl C s₀ H₀ fp) ifs2 tc2)
 (he:∀cl C s₀ H₀ fp,PE (zk X N' scope cl C s₀ H₀ fp) elt te) (hxe:∀cl C s₀ H₀ fp e s,(zk X N' scope cl C s₀ H₀ fp).xe e s->False)
 (hs:∀x,foldedSetIterable iter X.env x=pure x:=by intro _;rfl) (hs2:∀env x,foldedSetIterable iter2 env x=pure x:=by intro _ _;rfl):PE X (lc2 elt tg iter tg2 iter2 ifs ifs2 scope pos) (znB wi g tc wi2 g2 tc2 te src):=by
 intro pins s σ H Q I h
 obtain⟨cl,hcl,c1,c2⟩:=zcD (scope:=scope) (env:=X.env) λy hy hyf=>I.ok.has y.1 (by
  have z:=ok.frees y hy hyf
  rw[←hsc] at z
  exact z)
 rw[eval_ListComp]
 refine wpAny_comprehension_free (use:=none) rfl hs hcl ok.kind ok.loc (thn (hi pins s σ H _ I h) λv s1 h1=>thn h1 λitv s2 h2=>?_)
 obtain⟨it,fp,tn,J,H2,e,I2,T,st2,f2,q2⟩:=h2
 subst e
 have hlt2:∀b∈fp,b<s2.heap.objs.size:=λb hb=>by
  obtain⟨o,e,_⟩:=T.obj _ _ st2 b hb
  exact ζm e
 refine wpAny_newObj_type ?_
 have hl:H2 s2.heap.objs.size=none:=I2.hok.fresh (ζt _)
 have I3:Inv X pins σ (upd H2 s2.heap.objs.size (.lst [])) {s2 with heap:=s2.heap.push {cls:= .type "list",dict:=none,data:= .seq ([]:List Value).toArray}}:=
  I2.laid (t':=s2.toks) (λb u e=>ζc _ e) (ζt _) ⟨ξi _,[],0, .nil,ζj _ rfl⟩
 obtain⟨W,⟨m0,w0⟩,turn⟩:=q2 _ hl
 generalize hl2:s2.heap.objs.size=l at *
 generalize hs3:({s2 with heap:=s2.heap.push {cls:= .type "list",dict:=none,data:= .seq ([]:List Value).toArray}}:Shared)=s3 at *
 have f3:∀b∈fp,zcT X pins (upd H2 l (.lst [])) b:=λb hb=>⟨by rw[zi (ξj (hlt2 b hb))];exact(f2 b hb).1,(f2 b hb).2⟩
 have k3:∀b o,s2.heap.get? b=some o->s3.heap.get? b=some o:=λb o e=>by rw[←hs3];exact ζc _ e
 have hlt3:∀b∈fp,b<s3.heap.objs.size:=λb hb=>by
  obtain⟨o,e,_⟩:=T.obj _ _ st2 b hb
  exact ζm (k3 b o e)
 refine wpAny_newFunctionEnv ok.nocell (by intro y hy;simp at hy) (λh₁ hns₁ hsb₁=>?_) ok.kind
 have k4:∀b o,s3.heap.get? b=some o->h₁.get? b=some o:=λb o e=>(hsb₁.2 b (ξj (ζm e))).trans (ζc _ e)
 have J0:=zcL (tk:=s3.toks+([]:List (Str×Value)).length) I3 f3 hlt3 ok hsc c1 c2 hns₁ k4
 have st4:tn 0 h₁:=T.keep _ _ _ st2 λb hb o e=>k4 b o (k3 b o e)
 generalize hC:s3.heap.objs.size=C at *
 have stat:∀{H':Hp},(∀b∈fp,H' b=none)->∀b∈fp,zcT (zk X N' scope cl C s3 (upd H2 l (.lst [])) fp) [] H' b:=λ{H'} hn b hb=>
  ⟨hn b hb,(J0.ok.exf b hb).1,J0.ok.exfs b hb, .inl hb,(J0.ok.exf b hb).2,λp hp=>absurd (show p∈([]:List (Addr×Obj))from hp) (by simp)⟩
 have no:∀{α:Type} {t:Sem α} {Q':α->Shared->Prop} {s':Shared},wpAny (model X.prog X.w) X.A t Q' (zk X N' scope cl C s3 (upd H2 l (.lst [])) fp).xe s'->wpAny (model X.prog X.w) X.A t Q' (λ_ _=>False) s':=λz=>ψc z (λ_ _ q=>q) λe s q=>hxe _ _ _ _ _ e s q
 have loop:codeAny (model X.prog X.w) X.A (.compLoop (lc2 elt tg iter tg2 iter2 ifs ifs2 scope pos) 0 (.ref it) (.ref l) (compEnvC scope cl C X.env))
  (compPost (model X.prog X.w) X.A X.xe none (EP X pins σ Q) (.ref l) C) {s3 with heap:=h₁,toks:=s3.toks+([]:List (Str×Value)).length}:=by
  refine zf9 (λn s'=>∃i ys σ' H',Inv (zk X N' scope cl C s3 (upd H2 l (.lst [])) fp) [] σ' H' s'/\tn i s'.heap/\(∀b∈fp,H' b=none)/\H' l=some (.lst ys)/\W i n ys σ' H') (hs2 _) ?_ m0
   ⟨0,[],_,_,J0,st4,λb hb=>(f3 b hb).1,zb,w0⟩
  rintro n s5 ⟨i,ys,σ5,H5,I5,st5,fr5,hl5,w5⟩
  rcases turn i n ys σ5 H5 w5 hl5 with⟨stop,qn⟩|⟨go,N,hN,step⟩
  ·refine thn (T.done (zk X N' scope cl C s3 (upd H2 l (.lst [])) fp) rfl rfl rfl hc i [] s5 σ5 H5 (λ_ _=>False) I5 (stat fr5) st5 stop) λr s6 ⟨hr,I6⟩=>?_
   subst hr
   obtain⟨m,hn,_⟩:=I6.loc
   exact⟨m,hn,λh' hsb=>⟨.ref l,H5,zcw I3 f3 (by rw[←hC];exact ζt _) I6 hsb,rfl,qn⟩⟩
  ·refine thn (T.item (zk X N' scope cl C s3 (upd H2 l (.lst [])) fp) rfl rfl rfl hc i [] s5 σ5 H5 (λ_ _=>False) I5 (stat fr5) st5 go) λr s6 ⟨u,hr,h6⟩=>?_
   subst hr
   refine thn h6 λ_ s7 ⟨x,H7,I7,r7,y7,st7,fr7⟩=>?_
   have I7':=I7.pinned (stat fr7) (T.obj _ _ st7)
   refine thn (hg cl C s3 _ fp _ s7 σ5 H7 x u _ I7' r7 (step x H7 y7)) λ_ s8 ⟨σ8,H8,I8,q8⟩=>?_
   refine thn (ht cl C s3 _ fp _ s8 σ8 H8 _ I8 q8) λb s9 ⟨H9,I9,q9⟩=>?_
   have back:∀{s':Shared} {H':Hp} {σ':St},Inv (zk X N' scope cl C s3 (upd H2 l (.lst [])) fp) ([]++zbM fp s7.heap) σ' H' s'->tn (i+1) s'.heap/\∀b∈fp,H' b=none:=λ{s' H' σ'} I'=>by
    refine⟨T.keep _ _ _ st7 λb hb o e=>(I'.pin (b,o) (ξl _ (ξl _ (zX hb e)))).1,λb hb=>?_⟩
    obtain⟨o,e,d⟩:=T.obj _ _ st7 b hb
    exact(I'.pin (b,o) (ξl _ (ξl _ (zX hb e)))).2.1
   cases b with
   |false=>
    obtain⟨hl9,n9⟩:=q9
    obtain⟨m',hm,w9⟩:=hN _ _ _ n9
    obtain⟨t9,fr9⟩:=back I9
    exact⟨m',hm,i+1,ys,σ8,H9,I9.unpinned,t9,fr9,hl9,w9⟩
   |true=>
    refine thn (no (hi2 cl C s3 _ fp _ s9 σ8 H9 _ I9 q9)) λxv s10 h10=>thn (no h10) λitv2 s11 h11=>?_
    obtain⟨it2,fp2,tn2,J2,H11,e2,I11,T2,st11,ff2,hl11,W2,⟨m2,w2⟩,turn2⟩:=h11
    subst e2
    have stat2:∀{H':Hp},(∀b∈fp2,H' b=none)->∀b∈fp2,zcT (zk X N' scope cl C s3 (upd H2 l (.lst [])) fp) ([]++zbM fp s7.heap) H' b:=λ{H'} hn b hb=>⟨hn b hb,(ff2 b hb).2⟩
    have inner:codeAny (model X.prog X.w) X.A (.compLoop (lc2 elt tg iter tg2 iter2 ifs ifs2 scope pos) 1 (.ref it2) (.ref l) (compEnvC scope cl C X.env)) (λr s6=>match r with| .ok _=>∃m,m<n/\∃i ys σ' H',Inv (zk X N' scope cl C s3 (upd H2 l (.lst [])) fp) [] σ' H' s6/\tn i s6.heap/\(∀b∈fp,H' b=none)/\H' l=some (.lst ys)/\W i m ys σ' H'| .error _=>False) s11:=by
     refine zga (λn s'=>∃j ys σ' H',Inv (zk X N' scope cl C s3 (upd H2 l (.lst [])) fp) ([]++zbM fp s7.heap) σ' H' s'/\tn2 j s'.heap/\(∀b∈fp2,H' b=none)/\H' l=some (.lst ys)/\W2 j n ys σ' H') ?_ m2
      ⟨0,ys,_,_,I11,st11,λb hb=>(ff2 b hb).1,hl11,w2⟩
     rintro n2 s12 ⟨j,zs,σ12,H12,I12,st12,fr12,hl12,w12⟩
     rcases turn2 j n2 zs σ12 H12 w12 hl12 with⟨stop,qn⟩|⟨go,N2,hN2,step2⟩
     ·refine thn (T2.done (zk X N' scope cl C s3 (upd H2 l (.lst [])) fp) rfl rfl rfl hc j _ s12 σ12 H12 (λ_ _=>False) I12 (stat2 fr12) st12 stop) λr s13 ⟨hr,I13⟩=>?_
      subst hr
      obtain⟨m',hm,w13⟩:=hN _ _ _ qn
      obtain⟨t13,fr13⟩:=back I13
      exact⟨m',hm,i+1,zs,σ12,H12,I13.unpinned,t13,fr13,hl12,w13⟩
     ·refine thn (T2.item (zk X N' scope cl C s3 (upd H2 l (.lst [])) fp) rfl rfl rfl hc j _ s12 σ12 H12 (λ_ _=>False) I12 (stat2 fr12) st12 go) λr s13 ⟨u2,hr,h13⟩=>?_
      subst hr
      refine thn h13 λ_ s14 ⟨x2,H14,I14,r14,y14,st14,fr14⟩=>?_
      have I14':=I14.pinned (stat2 fr14) (T2.obj _ _ st14)
      refine thn (hg2 cl C s3 _ fp _ s14 σ12 H14 x2 u2 _ I14' r14 (step2 x2 H14 y14)) λ_ s15 ⟨σ15,H15,I15,q15⟩=>?_
      refine thn (ht2 cl C s3 _ fp _ s15 σ15 H15 _ I15 q15) λb s16 ⟨H16,I16,q16⟩=>?_
      have back2:∀{s':Shared} {H':Hp} {σ':St},Inv (zk X N' scope cl C s3 (upd H2 l (.lst [])) fp) (([]++zbM fp s7.heap)++zbM fp2 s14.heap) σ' H' s'->tn2 (j+1) s'.heap/\∀b∈fp2,H' b=none:=λ{s' H' σ'} I'=>by
       refine⟨T2.keep _ _ _ st14 λb hb o e=>(I'.pin (b,o) (ξl _ (ξl _ (zX hb e)))).1,λb hb=>?_⟩
       obtain⟨o,e,d⟩:=T2.obj _ _ st14 b hb
       exact(I'.pin (b,o) (ξl _ (ξl _ (zX hb e)))).2.1
      cases b with
      |false=>
       obtain⟨hl16,n16⟩:=q16
       obtain⟨m',hm,w16⟩:=hN2 _ _ _ n16
       obtain⟨t16,fr16⟩:=back2 I16
       exact⟨m',hm,j+1,zs,σ15,H16,I16.unpinned,t16,fr16,hl16,w16⟩
      |true=>
       refine thn (he cl C s3 _ fp _ s16 σ15 H16 _ I16 q16) λxv2 s17 ⟨y,H17,I17,r17,hl17,hz,n17⟩=>?_
       obtain⟨m',hm,w17⟩:=hN2 _ _ _ n17
       refine thn (zan (X:=zk X N' scope cl C s3 (upd H2 l (.lst [])) fp) _ s17 σ15 H17 (.ref l) [y] (.ref l) [xv2] (λv H'=>H'=upd H17 l (.lst (zs ++ [y]))) I17 rfl (.cons r17 .nil) ⟨l,zs,y,rfl,rfl,hl17,hz,rfl⟩) λ_ s18 ⟨_,H18,I18,_,e18⟩=>?_
       subst e18
       obtain⟨t18,fr18⟩:=back2 I18
       exact⟨m',hm,j+1,zs ++ [y],σ15,_,I18.unpinned,t18,fr18,zb,w17⟩
    exact zfR inner (T2.self _ 0 _ _ _ st11 inner)
 exact codeAny_compStart_list loop (T.self _ 0 _ _ _ st4 loop)
theorem zn7(ok:CompOk X.N osc N' src scope)(hsc:X.env.scope=osc)(hc:X.calm=true)(hi:QI X tg iter wi)
 (hg:∀cl C s₀ H₀ fp,QG (zk X N' scope cl C s₀ H₀ fp) tg g) (ht:∀cl C s₀ H₀ fp,QF (zk X N' scope cl C s₀ H₀ fp) ifs tc)
 (hi2:∀cl C s₀ H₀ fp,QI (zk X N' scope cl C s₀ H₀ fp) tg2 iter2 wi2) (hg2:∀cl C s₀ H₀ fp,QG (zk X N' scope cl C s₀ H₀ fp) tg2 g2) (ht2:∀cl C s₀ H₀ fp,QF (zk X N' scope cl C s₀ H₀ fp) ifs2 tc2)
 (he:∀cl C s₀ H₀ fp,QE (zk X N' scope cl C s₀ H₀ fp) elt te) (hxe:∀cl C s₀ H₀ fp e s,(zk X N' scope cl C s₀ H₀ fp).xe e s->False:=by exact λ_ _ _ _ _ _ _ z=>z)
 (hs:∀x,foldedSetIterable iter X.env x=pure x:=by intro _;rfl) (hs2:∀env x,foldedSetIterable iter2 env x=pure x:=by intro _ _;rfl):QE X (.ListComp elt [⟨tg,iter,ifs,0⟩,⟨tg2,iter2,ifs2,0⟩] scope pos) (znB wi g tc wi2 g2 tc2 te src):=
 ⟨zlY ok hsc hc hi.o (λcl C s₀ H₀ fp=>(hg cl C s₀ H₀ fp).o) (λcl C s₀ H₀ fp=>(ht cl C s₀ H₀ fp).o) (λcl C s₀ H₀ fp=>(hi2 cl C s₀ H₀ fp).o) (λcl C s₀ H₀ fp=>(hg2 cl C s₀ H₀ fp).o) (λcl C s₀ H₀ fp=>(ht2 cl C s₀ H₀ fp).o) (λcl C s₀ H₀ fp=>(he cl C s₀ H₀ fp).o) hxe hs hs2⟩
end
def zrT(v:V)(y:Str):Prop:=v= .str y\/∃i:Int,v= .int i/\y=(toString i:String)/\i.natAbs.log2<1920
section
variable{X:Cx}{e:Expr}{te:TE}{pos:Pos}{es:List Expr}{ts:List TE}
structure QP1(X:Cx)(e:Expr)(te:TE):Prop where
 o:∀(pins:List (Addr×Obj)) (s:Shared) (σ:St) (H:Hp) (Q:Str->Hp->Prop),Inv X pins σ H s->(te σ H λv H1=>∃y,zrT v y/\y.length<=sizeLine/\Q y H1)->
  wpAny (model X.prog X.w) X.A (eval e X.env) (λu s1=>∃y t H1,u= .str y t/\Inv X pins σ H1 s1/\Q y H1) X.xe s
inductive QJ(X:Cx):List Expr->List TE->Prop
 |nil:QJ X [] []
 |cons {e:Expr} {t:TE} {es:List Expr} {ts:List TE} (h:QP1 X e t) (r:QJ X es ts):QJ X (e::es) (t::ts)
end
section
variable{prog:Program}{w:World}{A:Around}{E:Value->Shared->Prop}{s:Shared}
end
section
variable{X:Cx}
end
end L2
namespace RW
open PySem PySem.Spec PyProof.Rows L2
theorem zcI(x y:Str):(x ++y).length=x.length+y.length:=Array.size_append
noncomputable def zrU(i:Int):Str:=(toString i:String)
theorem zoK:∀n∈List.range 1999,(zrU ((n:Int) -999)).length<=4:=by decide +kernel
theorem znp{i:Int}(h1: -999<=i)(h2:i<=999):(zrU i).length<=4:=by
 have:=zoK (i+999).toNat (List.mem_range.mpr (by omega))
 rwa[show(((i+999).toNat:Nat):Int) -999=i by omega] at this
theorem zlp{i:Int}(h1: -999<=i)(h2:i<=999):i.natAbs.log2<1920:=by
 have h:i.natAbs<1000:=by omega
 rcases Nat.eq_zero_or_pos i.natAbs with z|z
 ·rw[z];decide
 ·exact Nat.lt_trans ((Nat.log2_lt (by omega)).mpr (show i.natAbs<2^10 by omega)) (by decide)
theorem zrx{sep x y:Str}{r:List Str}:Str.join sep (x::y::r)=x ++sep ++Str.join sep (y::r):=rfl
theorem zh1{sep:Str}{c m:Nat}(hs:sep.length<=m):∀{xs:List Str},(∀x∈xs,x.length<=c)->(Str.join sep xs).length<=xs.length*(c+m)
 |[],_=>by show(Str.empty).length<=_;exact ξi _
 |[x],h=>by show x.length<=1*(c+m);have:=h x (by simp);omega
 |x::y::r,h=>by
  rw[zrx,zcI,zcI]
  have h1:=h x (by simp)
  have h2:=zh1 hs (xs:=y::r) λz hz=>h z (ξc _ hz)
  rw[ζv,Nat.add_mul,Nat.one_mul]
  omega
end RW
namespace L2
open PySem PySem.Spec PyProof.Rows
section
variable{X:Cx}{K:ξk}
theorem zlw{J:It}{n:Nat}{g g2:TG}{tc tc2:TT}{wi2:TI}{te:TE}{src:List (Option Nat)}{σ:St}{H1:Hp}{Q:VK}(Pv:Addr->Nat->List V->St->Hp->Prop)
 (h0:∀l,H1 l=none->Pv l 0 [] (zeI src σ) (upd H1 l (.lst []))) (hgo:∀l i ys σ H,H1 l=none->i<n->Pv l i ys σ H->J.go i H) (hst:∀l ys σ H,H1 l=none->Pv l n ys σ H->J.stop n H)
 (hs:∀l i x ys σ H H2,H1 l=none->i<n->Pv l i ys σ H->H l=some (.lst ys)->J.yld i H x H2->g x σ H2 λσ2 H3=>tc σ2 H3 λb H4=>
   if b=true then wi2 σ2 H4 λJ2 H5=>H5 l=some (.lst ys)/\zrk g2 tc2 te l ys (Pv l (i+1)) J2 σ2 H5 else H4 l=some (.lst ys)/\Pv l (i+1) ys σ2 H4)
 (hd:∀l ys σ H,H1 l=none->Pv l n ys σ H->H l=some (.lst ys)->Q (.ref l) H):zjB g tc wi2 g2 tc2 te src σ Q J H1:=by
 intro l hl
 refine⟨λi m ys σ H=>m=n -i/\i<=n/\Pv l i ys σ H,⟨n,by simp,ξi _,h0 l hl⟩,?_⟩
 rintro i m ys σ' H' ⟨rfl,hi,p⟩ hl'
 by_cases hlt:i<n
 ·exact .inr ⟨hgo l i ys σ' H' hl hlt p,Pv l (i+1),λzs σ2 H2 q=>⟨n -(i+1),by omega,rfl,hlt,q⟩,λx H2 y=>hs l i x ys σ' H' H2 hl hlt p hl' y⟩
 ·have e:i=n:=by omega
  subst e
  exact .inl ⟨hst l ys σ' H' hl p,hd l ys σ' H' hl p hl'⟩
theorem zrI{J:It}{n:Nat}{P:Nat->V->Prop}{ok:Hp->Prop}{g2:TG}{tc2:TT}{te:TE}{l:Addr}{ys:List V}{N:List V->St->Hp->Prop}{σ:St}{H:Hp}(wk:Wk J n P ok)(Pv:Nat->List V->St->Hp->Prop)(h0:Pv 0 ys σ H)(hok:∀i ys σ H,Pv i ys σ H->ok H)
 (hs:∀i x ys σ H,i<n->P i x->Pv i ys σ H->H l=some (.lst ys)->g2 x σ H λσ2 H3=>tc2 σ2 H3 λb H4=>
   if b=true then te σ2 H4 λy H5=>H5 l=some (.lst ys)/\ys.length<sizeLine/\Pv (i+1) (ys ++ [y]) σ2 (upd H5 l (.lst (ys ++ [y])))else H4 l=some (.lst ys)/\Pv (i+1) ys σ2 H4)
 (hd:∀ys σ H,Pv n ys σ H->N ys σ H):zrk g2 tc2 te l ys N J σ H:=by
 refine⟨λi m ys σ H=>m=n -i/\i<=n/\Pv i ys σ H,⟨n,by simp,ξi _,h0⟩,?_⟩
 rintro i m ys σ H ⟨rfl,hi,p⟩ hl
 by_cases hlt:i<n
 ·refine .inr ⟨wk.go i H (hok i ys σ H p) hlt,Pv (i+1),λzs σ' H' q=>⟨n -(i+1),by omega,rfl,hlt,q⟩,λx H' y=>?_⟩
  obtain⟨rfl,px⟩:=wk.yld i H x H' (hok i ys σ H p) hlt y
  exact hs i x ys σ _ hlt px p hl
 ·have e:i=n:=by omega
  subst e
  exact .inl ⟨wk.stop i H (hok i ys σ H p) (ζt _),hd ys σ H p⟩
end
end L2
namespace RW
open PySem PySem.Spec PyProof.Rows L2
end RW
namespace HT
open PySem PySem.Spec PyProof.Rows L2
section
variable{prog:Program}{w:World}{A:Around}{E:Value->Shared->Prop}{s:Shared}
end
theorem zcc:entryFor table "dict.update.loop"=some Builtin.«dict.update.loop»:=entryFor_of_tree (by kernel_rfl)
theorem zaD:plainId "dict.update.loop"=true:=by decide +kernel
section
variable{prog:Program}{w:World}{A:Around}{E:Value->Shared->Prop}{s:Shared}{K:Type}[DecidableEq K]{knd:KeyKind prog w K}
noncomputable def dzAt(ks:Nat->K)(yv:Nat->Value)(i:Nat):List (K×Value):=(List.range i).map λk=>(ks k,yv k)
theorem zkI{ks:Nat->K}{yv:Nat->Value}{n i:Nat}(hi:i<n)(nd:((List.range n).map ks).Nodup):stored (dzAt ks yv i) (ks i) (yv i)=dzAt ks yv (i+1):=by
 have hany:¬((dzAt ks yv i).any λkv=>decide (kv.1=ks i))=true:=by
  rw[List.any_eq_true]
  rintro⟨kv,hkv,he⟩
  obtain⟨k,hk,rfl⟩:=List.mem_map.mp hkv
  have hk:=List.mem_range.mp hk
  have he:ks k=ks i:=ζh he
  have:=List.pairwise_iff_getElem.mp nd k i (by simp;omega) (by simp;omega) hk
  simp at this
  exact this he
 rw[stored,if_neg hany]
 unfold dzAt
 rw[List.range_succ,ξb];rfl
structure DzAt(h:Heap)(knd:KeyKind prog w K)(t1 t2:Bool)(z TI i1 i2 l1 l2 d:Addr)(xs ys:Array Value)(kvs:List (K×Value))(i:Nat):Prop where
 TI:IsPair h TI (.ref i1) (.ref i2)
 p1:ItH t1 h i1 l1 i
 p2:ItH t2 h i2 l2 i
 q1:SqH t1 h l1 xs
 q2:SqH t2 h l2 ys
 dd:h.DictOf knd d kvs
structure DzD(z TI TO i1 i2 l1 l2 d:Addr):Prop extends ZipApart z TI TO i1 i2 l1 l2 where
 dz:d≠z
 dTI:d≠TI
 di1:d≠i1
 di2:d≠i2
 dl1:d≠l1
 dl2:d≠l2
 TIl1:True
end
end HT
namespace L2
open PySem PySem.Spec PyProof.Rows
section
variable{X:Cx}
noncomputable def zce(hs:List Str)(ys:List V):List (Key×V):=(hs.zip ys).map λp=>(Sum.inr p.1,p.2)
theorem boot_dict:bootBuiltins "dict"=some (.type "dict"):=by kernel_rfl
theorem zqc{hs:List Str}{ys:List V}{its:List Value}(hl:ys.length=hs.length)(r:Vals ys its):KV (zce hs ys) (HT.dzAt (λk=>(Sum.inr (hs.getD k ""):Key)) (λk=>its.getD k .none) hs.length):=by
 induction hs generalizing ys its with
 |nil=>cases ys with
  |nil=>exact .nil
  |cons y ys=>simp at hl
 |cons h hs ih=>cases ys with
  |nil=>simp at hl
  |cons y ys=>cases r with
   | @cons _ u _ us r1 r2=>
     have:=ih (by simpa using hl) r2
     unfold HT.dzAt at this⊢
     rw[ζv,List.range_succ_eq_map,ξt,List.map_map]
     exact .cons ⟨rfl,r1⟩ this
theorem znK(hl:List Str):(List.range hl.length).map (λk=>(Sum.inr (hl.getD k ""):Key))=hl.map Sum.inr:=by
 apply List.ext_getElem?
 intro i
 rw[ζp,ζp]
 rcases ζw i hl.length with h|h
 ·rw[List.getElem?_range h,ζd h]
  simp[List.getD,h]
 ·rw[ζi h,ζi (by rw[List.length_range];exact h)];rfl
end
end L2
namespace RW
open PySem PySem.Spec PyProof.Rows L2
theorem Tr.noDict{H:Hp}{x:V}{d:PyData}(t:Tr H x d):d.hasDict=false:=PyData.hasDict_of_canLay d t.can
section
variable{X:Cx}
theorem zi5(hg:X.A.guards=some [])(hu:X.A.units+64<cLine):CallR X (.builtin "repr") (λxs H Q=>∃(a:Addr) (d:PyData),xs=[.ref a]/\Tr H (.ref a) d/\d.showable=true/\d.depth<=60/\d.shown.length<=sizeLine/\Q (.str d.shown) H):=by
 intro pins s σ H xs us Q I r h
 obtain⟨a,d,rfl,t,hs,hd,hl,q⟩:=h
 obtain⟨u,rfl,ru⟩:=zbG r
 cases ru
 obtain⟨as,rd⟩:=t.reads I (.ref a) rfl
 refine repr_of_reads' rd hs (PyData.noDict_hsm t.noDict) hg (by omega) (λb o e=>e) (λh' u tk hk=>?_) hl
 exact⟨.str _,H,I.kept (t':=tk) hk,⟨u,rfl⟩,q⟩
theorem ziU:CallR X (.builtin "repr") (λxs H Q=>xs=[.non]/\Q (.str "None") H):=by
 intro pins s σ H xs us Q I r h
 obtain⟨rfl,q⟩:=h
 obtain⟨u,rfl,ru⟩:=zbG r
 cases ru
 exact call_repr_gives (T:="NoneType") rfl PySem.F.slot_NoneType_repr PySem.F.entry_NoneType_repr (PySem.F.args_NoneType_repr_1 _) gives_none_repr ⟨.str _,H,I.tok _,⟨_,rfl⟩,q⟩ rfl (by rw[sizeLine_eq];decide)
end
def Shw(c k:Nat)(d:D):Prop:=okD d=true/\(pyD d).showable=true/\(pyD d).depth<=k/\(pyD d).shown.length<=c
theorem Shw.mono{c k c' k':Nat}{d:D}(h:Shw c k d)(h1:c<=c')(h2:k<=k'):Shw c' k' d:=⟨h.1,h.2.1,ξa h.2.2.1 h2,ξa h.2.2.2 h1⟩
theorem zki{x:Str}(h:PyData.strOk x=true)(hl:x.length<=8):Shw 82 1 (.str x):=by
 refine⟨by rw[okD];exact h,by rw[pyD,PyData.showable],by rw[pyD,PyData.depth];omega,?_⟩
 rw[pyD,PyData.shown]
 have hc:∀c∈x.cps.toList,c<16^8:=λc hc=>by
  unfold PyData.strOk at h
  rw[Array.all_eq_true'] at h
  have:=ζh (h c (Array.mem_toList_iff.mp hc))
  omega
 have:=StrLaws.reprText_len x hc
 omega
theorem zhe{i:Int}(h1: -999<=i)(h2:i<=999):Shw 82 1 (.int i):=by
 refine⟨by rw[okD],by rw[pyD,PyData.showable];exact ζf (zlp h1 h2),by rw[pyD,PyData.depth];omega,?_⟩
 rw[pyD,PyData.shown]
 exact ξa (znp h1 h2) (by decide)
theorem shw_non:Shw 82 1 .non:=by
 refine⟨by rw[okD],by rw[pyD,PyData.showable],by rw[pyD,PyData.depth];omega,?_⟩
 rw[pyD,PyData.shown];decide
theorem zb2:∀{xs:List PyData},(∀x∈xs,x.showable=true)->PyData.showableAll xs=true
 |[],_=>by rw[PyData.showableAll]
 |x::xs,h=>by rw[PyData.showableAll,h x ζo,zb2 λy hy=>h y (ξc _ hy)];rfl
theorem zcH:∀{xs:List PyData},PyData.shownAll xs=xs.map PyData.shown
 |[]=>by rw[PyData.shownAll];rfl
 |x::xs=>by rw[PyData.shownAll,ξt,zcH]
theorem zax{ds:List D}{c k:Nat}(m:Nat)(hm:ds.length<=m)(h:∀d∈ds,Shw c k d):Shw (m*(c+2)+3) (k+1) (.tup ds):=by
 refine⟨by rw[okD];exact zmg λd hd=>(h d hd).1,?_,?_,?_⟩
 ·rw[pyD,PyData.showable,zbS]
  exact zb2 λx hx=>by obtain⟨d,hd,rfl⟩:=List.mem_map.mp hx;exact(h d hd).2.1
 ·rw[pyD,PyData.depth,zbS]
  have:=zcY (n:=k) (xs:=ds.map pyD) λx hx=>by obtain⟨d,hd,rfl⟩:=List.mem_map.mp hx;exact(h d hd).2.2.1
  omega
 ·rw[pyD,PyData.shown,zbS,zcH,List.map_map]
  have hc:∀x∈ds.map (PyData.shown∘pyD),x.length<=c:=λx hx=>by obtain⟨d,hd,rfl⟩:=List.mem_map.mp hx;exact(h d hd).2.2.2
  have jl:=zh1 (sep:=", ") (m:=2) (by decide) hc
  rw[ζa] at jl
  unfold tupleText
  rw[zcI,zcI]
  have l1:("(":Str).length=1:=rfl
  have l2:(Str.ofString (if(ds.map (PyData.shown∘pyD)).length==1 then",)"else ")")).length<=2:=by split<;>decide
  have:ds.length*(c+2)<=m*(c+2):=Nat.mul_le_mul_right _ hm
  rw[l1]
  have l2':(Str.ofString (if(ds.map (PyData.shown∘pyD)).length==1 then",)"else ")":String)).length<=2:=l2
  omega
theorem zby{x:Str}(h:zh x=true):Shw 82 1 (.str x):=zki (zaZ h) (by
 unfold zh at h
 simp only[ζs,decide_eq_true_eq] at h
 omega)
theorem zcF{a b:D}{c k:Nat}(ha:Shw c k a)(hb:Shw c k b):Shw (2*(c+2)+3) (k+1) (.tup [a,b]):=zax 2 (ζt 2) λd hd=>by
 simp only[List.mem_cons,ψb,or_false] at hd
 rcases hd with rfl|rfl
 ·exact ha
 ·exact hb
theorem zc1{w:Str}(h:w∈(["by","from","to","mark","long","not","keep","put","strike"]:List Str)):Shw 82 1 (.str w):=by
 simp only[List.mem_cons,ψb,or_false] at h
 rcases h with rfl|rfl|rfl|rfl|rfl|rfl|rfl|rfl|rfl<;>exact zki (by decide +kernel) (by decide)
theorem zgv{d:D}(h:zB d=true):Shw 171 2 d:=by
 obtain⟨w,e,rfl⟩:=zbu d h
 rcases zZ h with⟨rfl,i,rfl,i0,i9⟩|⟨hn,y,rfl,hy⟩
 ·exact zcF (zc1 (by decide)) (zhe (by omega) (by omega))
 ·exact zcF (zc1 (by rcases zcM hn with rfl|rfl|rfl|rfl<;>decide)) (zby hy)
theorem zmI{d:D}(h:zw d=true):Shw 349 3 d:=by
 obtain⟨w,e,rfl⟩:=zek d h
 rw[zcy] at h
 by_cases z:w="not"
 ·subst z
  rw[if_pos rfl] at h
  exact zcF ((zc1 (by decide)).mono (by decide) (by decide)) (zgv h)
 ·rw[if_neg z] at h
  exact(zgv h).mono (by decide) (by decide)
theorem zgF{cs:List D}(hl:cs.length<=4)(h:∀c∈cs,zw c=true):Shw 1407 4 (.tup cs):=zax 4 hl λc hc=>zmI (h c hc)
theorem zkM{d:D}(h:zbA d=true):Shw 82 1 d:=by
 cases d with
 |non=>exact shw_non
 |int i=>
  have h:(decide ((-999:Int)<=i)&&decide (i<=999))=true:=h
  rw[ζs] at h
  exact zhe (ζh h.1) (ζh h.2)
 |_=>cases h
theorem zoZ{d:D}(h:zbX d=true):Shw 171 2 d:=by
 rcases zmm h with rfl|⟨w,y,rfl,hw,hy⟩
 ·exact (zax (ds:=[.str "keep"]) (c:=82) (k:=1) 1 (ζt 1) λd hd=>by rw[List.mem_singleton.mp hd];exact zc1 (by decide)).mono (by decide) (by decide)
 ·exact zcF (zc1 (by rcases hw with rfl|rfl<;>decide)) (zby hy)
theorem zio{d:D}(h:zb8 d=true):Shw 254073 6 d:=by
 cases d with
 |tup rs=>
  have h:(decide (rs.length<=90)&&rs.all zW)=true:=h
  rw[ζs] at h
  refine zax (c:=2821) (k:=5) 90 (ζh h.1) λr hr=>?_
  have hk:=List.all_eq_true.mp h.2 r hr
  unfold zW at hk
  obtain⟨c,x,rfl,hk⟩:=ziI (f:=λc x=>zaA c&&zbA x&&!zdR c) hk
  rw[ζs,ζs] at hk
  obtain⟨cs,rfl,h4,hc⟩:=zfO hk.1.1
  exact zcF (zgF h4 hc) ((zkM hk.1.2).mono (by decide) (by decide))
 |_=>cases h
theorem zlE{d:D}(h:zcp d=true):Shw 254073 6 d:=by
 cases d with
 |tup rs=>
  have h:(decide (rs.length<=90)&&rs.all zbR)=true:=h
  rw[ζs] at h
  refine zax (c:=2821) (k:=5) 90 (ζh h.1) λr hr=>?_
  obtain⟨cs,x,rfl,h4,hc,hx⟩:=zks (List.all_eq_true.mp h.2 r hr)
  exact zcF (zgF h4 hc) ((zoZ hx).mono (by decide) (by decide))
 |_=>cases h
theorem zfK{g:Str}{hs:List Str}{ps:List (Str×Str)}{lks hds:List D}(T:TownOk g hs ps lks hds)(hp:ps.length<=1000):Shw 12703778 8 (zaT g hs ps lks hds):=by
 have hn:∀x∈hs,Shw 82 1 (.str x):=λx hx=>zby (T.names x hx)
 refine zax (c:=2540753) (k:=7) 5 (ζt 5) λd hd=>?_
 simp only[List.mem_cons,ψb,or_false] at hd
 rcases hd with rfl|rfl|rfl|rfl|rfl
 ·exact (hn g T.goal).mono (by decide) (by decide)
 ·exact (zax 10 (by rw[ζa];exact T.ten) λd hd=>by obtain⟨x,hx,rfl⟩:=List.mem_map.mp hd;exact hn x hx).mono (by decide) (by decide)
 ·exact (zax 1000 (by rw[ζa];exact hp) λd hd=>by
   obtain⟨p,hp,rfl⟩:=List.mem_map.mp hd
   obtain⟨t1,t2,_⟩:=T.ties p hp
   exact zcF (hn _ t1) (hn _ t2)).mono (by decide) (by decide)
 ·exact zax 10 (by rw[T.ll];exact T.ten) λd hd=>zio (T.likes d hd)
 ·exact zax 10 (by rw[T.lh];exact T.ten) λd hd=>zlE (T.hands d hd)
end RW
namespace RW
open PySem PySem.W PyProof.Rows L2
section
variable{N:Nat}{lt:Nat->Nat->Bool}
theorem znc{p:Array Nat}(hp:PermN N p)(i n:Nat):PermN N (kas_rev p i n):=(Array.perm_iff_toList_perm.mp (mirror_perm p i n _)).trans hp
theorem zmY{p:Array Nat}(hp:PermN N p):∀f n,1<=n->n+f<=N->OkT N lt (kas_asc p f n) (λm=>n<=m/\m<=n+f)
 |0,n,_,_=>⟨ζt _,ζt _⟩
 |f+1,n,h1,hn=>by
  refine⟨hp.bd (by omega),hp.bd (by omega),?_⟩
  cases hc:lt (gd p n) (gd p (n -1))with
  |true=>
   show OkT N lt (if true=true then _ else _) _
   rw[if_pos rfl]
   exact⟨ζt _,by omega⟩
  |false=>
   show OkT N lt (if false=true then _ else _) _
   rw[if_neg (by decide)]
   exact OkT.mono (λm hm=>⟨by omega,by omega⟩) (zmY hp f (n+1) (by omega) (by omega))
theorem zhh:∀f (p:Array Nat) n q,PermN N p->1<=n->n+f<=N->OkT N lt (kas_desc f p n q) (λr=>PermN N r.1/\n<=r.2.1/\r.2.1<=n+f)
 |0,p,n,q,hp,_,_=>⟨hp,ζt _,ζt _⟩
 |f+1,p,n,q,hp,h1,hn=>by
  refine⟨hp.bd (by omega),hp.bd (by omega),?_⟩
  cases hc:lt (gd p n) (gd p (n -1))with
  |true=>
   show OkT N lt (if true=true then(if q>0 then _ else _)else _) _
   rw[if_pos rfl]
   split
   ·exact OkT.mono (λm hm=>⟨hm.1,by omega,by omega⟩) (zhh f _ (n+1) 0 (znc hp _ _) (by omega) (by omega))
   ·exact OkT.mono (λm hm=>⟨hm.1,by omega,by omega⟩) (zhh f _ (n+1) 0 hp (by omega) (by omega))
  |false=>
   show OkT N lt (if false=true then _ else _) _
   rw[if_neg (by decide)]
   refine⟨hp.bd (by omega),hp.bd (by omega),?_⟩
   cases hd:lt (gd p (n -1)) (gd p n)with
   |true=>
    show OkT N lt (if true=true then _ else _) _
    rw[if_pos rfl]
    exact⟨hp,ζt _,by show n<=n+(f+1);omega⟩
   |false=>
    show OkT N lt (if false=true then _ else _) _
    rw[if_neg (by decide)]
    exact OkT.mono (λm hm=>⟨hm.1,by omega,by omega⟩) (zhh f _ (n+1) _ hp (by omega) (by omega))
def zjq(N:Nat)(r:Nat×Array Nat):Prop:=PermN N r.2/\1<=r.1/\r.1<=N
theorem zjF{p:Array Nat}{n:Nat}(hp:PermN N p)(h1:1<=n)(hn:n<=N):OkT N lt (kas_tail3 n N p) (zjq N):=by
 refine OkT.bind (OkT.mono (λm hm=>?_) (zmY (znc hp 0 n) (N -n) n h1 (by omega)))
 exact⟨znc hp 0 n,by have:=hm.1;omega,by have:=hm.2;omega⟩
theorem zfs{p:Array Nat}{n:Nat}(hp:PermN N p)(h1:1<=n)(hn:n<N):OkT N lt (kas_descPart n N p) (zjq N):=by
 refine OkT.bind (OkT.mono (λr hr=>?_) (zhh (N -(n+1)) p (n+1) 0 hp (by omega) (by omega)))
 obtain⟨r1,r2,r3⟩:=hr
 split
 ·exact zjF (znc r1 _ _) (by omega) (by omega)
 ·exact zjF r1 (by omega) (by omega)
theorem zoI{p:Array Nat}(hp:PermN N p)(h1:1<=N):OkT N lt (kas_count N p) (zjq N):=by
 refine OkT.bind (OkT.mono (λn hn=>?_) (zmY hp (N -1) 1 (ζt _) (by omega)))
 obtain⟨n1,n2⟩:=hn
 by_cases hN:(n==N)=true
 ·rw[if_pos hN]
  exact⟨hp,n1,by show n<=N;omega⟩
 ·have hne:n≠N:=by simpa using hN
  rw[if_neg hN]
  by_cases h2:n>1
  ·rw[if_pos h2]
   refine⟨hp.bd (by omega),hp.bd (by omega),?_⟩
   cases hc:lt (gd p 0) (gd p (n -1))with
   |true=>
    show OkT N lt (if true=true then _ else _) _
    rw[if_pos rfl]
    exact⟨hp,n1,by show n<=N;omega⟩
   |false=>
    show OkT N lt (if false=true then _ else _) _
    rw[if_neg (by decide)]
    exact zfs (znc hp 0 n) n1 (by omega)
  ·rw[if_neg h2]
   exact zfs hp n1 (by omega)
theorem zhy{p:Array Nat}{k:Nat}(hp:PermN N p)(hk:k<N):∀f l r,l<=r->r<=k->OkT N lt (kas_place p k f l r) (λ_=>True)
 |0,l,r,_,_=>trivial
 |f+1,l,r,h1,h2=>by
  by_cases hlr:l≥r
  ·show OkT N lt (if l≥r then _ else _) _
   rw[if_pos hlr]
   trivial
  ·show OkT N lt (if l≥r then _ else _) _
   rw[if_neg hlr]
   refine⟨hp.bd hk,hp.bd (by omega),?_⟩
   cases hc:lt (gd p k) (gd p ((l+r)/2))with
   |true=>
    show OkT N lt (if true=true then _ else _) _
    rw[if_pos rfl]
    exact zhy hp hk f l ((l+r)/2) (by omega) (by omega)
   |false=>
    show OkT N lt (if false=true then _ else _) _
    rw[if_neg (by decide)]
    exact zhy hp hk f ((l+r)/2+1) r (by omega) h2
theorem zpA:∀f (p:Array Nat) k,PermN N p->k+f=N->OkT N lt (kas_bin f p k) (λp'=>PermN N p')
 |0,p,k,hp,hk=>hp
 |f+1,p,k,hp,hk=>by
  refine OkT.bind (OkT.mono (λl _=>?_) (zhy hp (by omega) k 0 k (ξi _) (ζt _)))
  exact zpA f _ (k+1) ((Array.perm_iff_toList_perm.mp (bubble_perm p k _)).trans hp) (by omega)
theorem zqu(h1:1<=N):OkT N lt (kas_sort N) (λp=>PermN N p):=by
 have h0:PermN N (List.toArray (List.range N)):=by show(List.range N).Perm _;exact List.Perm.refl _
 refine OkT.bind (OkT.mono (λr hr=>?_) (zoI h0 h1))
 obtain⟨c1,c3,c4⟩:=hr
 by_cases h:r.1<N
 ·rw[if_pos h]
  have e:max r.1 1=r.1:=by omega
  rw[e]
  exact zpA _ _ _ c1 (by omega)
 ·rw[if_neg h]
  exact c1
theorem sort_any(h1:1<=N):OkT N lt (kas_sort N) (λp=>PermN N p/\(Strict N lt->Sor lt p N)):=by
 by_cases S:Strict N lt
 ·exact OkT.mono (λp hp=>⟨hp.1,λ_=>hp.2⟩) (zn3 S h1)
 ·exact OkT.mono (λp hp=>⟨hp,λz=>absurd z S⟩) (zqu h1)
end
end RW
namespace L2
open PySem PySem.Spec PySem.W PyProof.Rows
theorem zis:∀{a b:List Str},ltL a b=true->ltL b a=false
 |[],[],h=>by cases h
 |[],_::_,_=>rfl
 |_::_,[],h=>by cases h
 |x::xs,y::ys,h=>by
  rw[ltL] at h⊢
  by_cases e:x=y
  ·rw[if_pos e] at h;rw[if_pos e.symm];exact zis h
  ·rw[if_neg e] at h;rw[if_neg (Ne.symm e)];exact zdV h
theorem zfI:∀{a b:List Str},a≠b->ltL a b=false->ltL b a=true
 |[],[],h,_=>absurd rfl h
 |[],_::_,_,e=>by cases e
 |_::_,[],_,_=>rfl
 |x::xs,y::ys,h,e=>by
  rw[ltL] at e⊢
  by_cases z:x=y
  ·rw[if_pos z] at e;rw[if_pos z.symm];exact zfI (λq=>h (by rw[z,q])) e
  ·rw[if_neg z] at e;rw[if_neg (Ne.symm z)];exact zd5 z e
theorem zkd:∀{a b c:List Str},ltL a b=true->ltL b c=true->ltL a c=true
 |[],[],_,h,_=>by cases h
 |[],_::_,[],_,h=>by cases h
 |[],_::_,_::_,_,_=>rfl
 |_::_,[],_,h,_=>by cases h
 |_::_,_::_,[],_,h=>by cases h
 |x::xs,y::ys,z::zs,h1,h2=>by
  rw[ltL] at h1 h2⊢
  by_cases e1:x=y
  ·rw[if_pos e1] at h1
   subst e1
   by_cases e2:x=z
   ·rw[if_pos e2] at h2⊢;exact zkd h1 h2
   ·rw[if_neg e2] at h2⊢;exact h2
  ·rw[if_neg e1] at h1
   by_cases e2:y=z
   ·rw[if_pos e2] at h2;subst e2;rw[if_neg e1];exact h1
   ·rw[if_neg e2] at h2
    have h3:=zex h1 h2
    rw[if_neg (zgP h3)];exact h3
def TupL(h:Heap)(u:Value)(p:List Str):Prop:=∃b o n its,u= .ref b/\h.get? b=some o/\o.cls= .type "tuple"/\o.data= .seq its n/\Vals (p.map V.str) its.toList
theorem TupL.keeps{h h':Heap}{u:Value}{p:List Str}(x:TupL h u p)(k:∀b o,h.get? b=some o->h'.get? b=some o):TupL h' u p:=let⟨b,o,n,its,e,g,r⟩:=x;⟨b,o,n,its,e,k _ _ g,r⟩
theorem zih{prog:Program}{w:World}{A:Around}{s:Shared}{C:Bool->Shared->Prop}{fin:Bool}:∀{p q:List Str} {its jts:List Value} (i:Nat),Vals (p.map V.str) its->Vals (q.map V.str) jts->(fin=decide (p.length+i<q.length+i))->C (ltL p q) s->KatLex prog w A true fin C (its.zip jts) i s
 |[],q,its,jts,i,r1,r2,hf,h=>by
  cases r1
  refine kat_nil ?_
  cases q with
  |nil=>simp at hf;subst hf;exact h
  |cons y ys=>simp at hf;subst hf;exact h
 |x::xs,[],its,jts,i,r1,r2,hf,h=>by
  cases r2
  rw[List.zip_nil_right]
  refine kat_nil ?_
  rw[ζn (by simp)] at hf;subst hf;exact h
 |x::xs,y::ys,its,jts,i,r1,r2,hf,h=>by
  cases r1 with
  |cons a1 r1=>
   cases r2 with
   |cons a2 r2=>
    obtain⟨t1,rfl⟩:=a1
    obtain⟨t2,rfl⟩:=a2
    rw[List.zip_cons_cons]
    refine kat_cons (wpAny_eqBool_str ?_)
    rw[ltL] at h
    by_cases e1:x=y
    ·rw[if_pos e1] at h
     rw[ζf e1]
     exact kat_yes (zih (i+1) r1 r2 (by rw[hf];simp only[ζv];congr 1;exact propext ⟨λh=>by omega,λh=>by omega⟩) h)
    ·rw[if_neg e1] at h
     rw[ζn e1]
     refine kat_no ?_
     cases i with
     |zero=>
      show wpAny (model prog w) A (oneLt' true (.str x t1) (.str y t2)) C _ s
      exact oneLt_str h
     |succ i=>
      show wpAny (model prog w) A (oneLt' false (.str x t1) (.str y t2)) C _ s
      exact kat_one _ _ (lt_str h)
theorem zik{prog:Program}{w:World}{A:Around}{E:Value->Shared->Prop}{s:Shared}{u v:Value}{p q:List Str}{C:Bool->Shared->Prop}(x:TupL s.heap u p)(y:TupL s.heap v q)(h:C (ltL p q) s):wpAny (model prog w) A (keyLt' (tuples' true) u v) C E s:=by
 obtain⟨b,o,n,its,rfl,g,_,d,r⟩:=x
 obtain⟨b',o',n',jts,rfl,g',_,d',r'⟩:=y
 refine kat_lt g d g' d' (zih 0 r r' ?_ h)
 have l1:=r.length
 have l2:=r'.length
 simp only[ζa,ξq] at l1 l2
 rw[Nat.add_zero,Nat.add_zero,l1,l2]
theorem zfL{h:Heap}:∀{us:List Value} {ps:List (List Str)},us.length=ps.length->(∀p∈ps,0<p.length)->(∀(i:Nat) (u:Value) (p:List Str),us[i]?=some u->ps[i]?=some p->TupL h u p)->∃fs,KatTups h us fs/\fs.length=us.length/\∀f∈fs,∃x t,f=Value.str x t
 |[],[],_,_,_=>⟨[],trivial,rfl,λ_ z=>nomatch z⟩
 |[],_::_,z,_,_=>by simp at z
 |_::_,[],z,_,_=>by simp at z
 |u::us,p::ps,hl,hp,hx=>by
  obtain⟨fs,h1,h2,h3⟩:=zfL (us:=us) (ps:=ps) (by simpa using hl) (λq hq=>hp q (ξc _ hq)) λi u p e1 e2=>hx (i+1) u p (by simpa using e1) (by simpa using e2)
  obtain⟨b,o,n,its,rfl,g,c,d,r⟩:=hx 0 u p rfl rfl
  obtain⟨x,xs,rfl⟩:∃x xs,p=x::xs:=by
   match p,hp p (ζo)with
   |x::xs,_=>exact ⟨x,xs,rfl⟩
  obtain⟨l⟩:=its
  cases r with
  |cons a r=>
   obtain⟨t,rfl⟩:=a
   refine⟨.str x t::fs,KatTups.cons g c d rfl h1,by simp[h2],λf hf=>?_⟩
   rcases List.mem_cons.mp hf with rfl|hf
   ·exact ⟨_,_,rfl⟩
   ·exact h3 f hf
noncomputable def lAt(ps:List (List Str))(i:Nat):List Str:=ps.getD i []
theorem zeS{ps:List (List Str)}(hn:ps.Nodup):RW.Strict ps.length (λi j=>ltL (lAt ps i) (lAt ps j)) where
 tot:=λi j hi hj hij e=>zfI (λz=>hij ((List.getElem_inj hn (h₀:=hi) (h₁:=hj)).mp (by unfold lAt at z;simpa[hi,hj] using z))) e
 tr:=λi j k _ _ _ h1 h2=>zkd h1 h2
 asy:=λi j _ _ h=>zis h
theorem zj4{ps:List (List Str)}:(List.range ps.length).map (lAt ps)=ps:=by
 apply List.ext_getElem?
 intro i
 rw[ζp]
 rcases ζw i ps.length with h|h
 ·rw[List.getElem?_range h]
  show some (lAt ps i)=_
  unfold lAt
  simp[h]
 ·rw[ζi (by simpa using h),ζi h];rfl
def zaq(H:Hp)(vs:List V)(ps:List (List Str)):Prop:=vs.length=ps.length/\∀(i:Nat) (v:V) (p:List Str),vs[i]?=some v->ps[i]?=some p->∃b,v= .ref b/\H b=some (.tup (p.map V.str))
section
variable{prog:Program}{w:World}{A:Around}{E:Value->Shared->Prop}{s:Shared}
theorem zhT{l:Addr}{T:String}{o:Obj}{n:Nat}{ks:List Value}{R:Value->Shared->Prop}{G:Array Nat->Prop}{κ:SortKind}(hT:T="list"\/T="tuple")(ho:s.heap.get? l=some o)(hc:o.cls= .type T)(hd:o.data= .seq ks.toArray n)(h64:ks.length<64)
 (hk:2<=ks.length->∀s1:Shared,(∀b o,s.heap.get? b=some o->s1.heap.get? b=some o)->(∀C:SortKind->Shared->Prop,C κ s1->wpAny (model prog w) A.in1.in1 (keyKind' ks.toArray) C (λ_ _=>False) s1)/\(kas_sort ks.length).kasWp (kas_ask prog w A.in1.in1 κ ks) (λp s'=>s'=s1/\G p) s1)
 (q:∀(D:Addr) (out:List Value) (h':Heap) (c:Nat),(ks.length<2/\out=ks\/∃p:Array Nat,p.size=ks.length/\G p/\out=p.toList.map λi=>ks.getD i Value.none)->(∀b o,s.heap.get? b=some o->h'.get? b=some o)->
   s.heap.objs.size<=D->h'.get? D=some (seqObj "list" out.toArray c)->R (.ref D) {s with heap:=h'}):wpAny (model prog w) A (call (.builtin "sorted") [.ref l]) R E s:=by
 refine Calls.call_function_entry kind_sorted plain_sorted entry_sorted (args_sorted1 _) ?_
 unfold Builtin.«sorted»
 refine ζb (m:=checkCount "sorted" 1 1 _) (ζr (ζb (zcX hT ho hc hd (by rw[sizeLine_eq];omega) λh1 kp gr0=>?_)))
 refine ζb (wpAny_newList ?_ (by rw[sizeLine_eq];omega))
 have hD:(h1.push (seqObj "list" ks.toArray 0)).get? h1.objs.size=some (seqObj "list" ks.toArray 0):=ζj _ rfl
 have k2:∀b o,s.heap.get? b=some o->(h1.push (seqObj "list" ks.toArray 0)).get? b=some o:=λb o e=>ζc _ (kp b o e)
 have gr:s.heap.objs.size<=h1.objs.size:=ξg gr0
 show wpAny _ _ _ _ _ {s with heap:=h1.push (seqObj "list" ks.toArray 0)}
 refine ζb (ψd (wpAny_call_entry slot_list_sort ⟨_,hD,rfl⟩ entry_list_sort (zkU (G:=G) (κ:=κ) (s:={s with heap:=h1.push (seqObj "list" ks.toArray 0)}) hD h64 (λh2 s1 k1=>?_) λout h' c hc hkp hg=>?_) (args_list_sort _)))
 ·obtain ⟨x1,x2⟩:=hk h2 s1 λb o e=>k1.2 b o (ξj (ξf (ζm e) gr)) (k2 b o e)
  exact⟨λC hC=>ψc (x1 C hC) (λ_ _ z=>z) λ_ _ z=>z.elim,x2⟩
 ·exact ⟨_,rfl,ζr ⟨_,rfl,q h1.objs.size out h' c hc (λb o e=>hkp b o (ξj (ξf (ζm e) gr)) (k2 b o e)) gr hg⟩⟩
end
section
variable{X:Cx}{K:ξk}
def znV(K:ξk):List V->Hp->VK->Prop:=λxs H Q=>∃(p:Addr) (vs:List V) (ps:List (List Str)),xs=[.ref p]/\(SqL K H p vs\/SqT K H p vs)/\zaq H vs ps/\(∀q∈ps,0<q.length)/\ps.length<64/\
 ∀(ps':List (List Str)) (vs':List V) l,ps'.Perm ps->(ps.Nodup->ps'.Pairwise (λa b=>ltL a b=true))->zaq H vs' ps'->H l=none->Q (.ref l) (upd H l (.lst vs'))
theorem zfB{vs:List V}{us:List Value}(hl:vs.length=us.length)(h:∀(i:Nat) (v:V) (u:Value),vs[i]?=some v->us[i]?=some u->RelV v u):Vals vs us:=by
 induction vs generalizing us with
 |nil=>match us,hl with|[],_=>exact .nil
 |cons v vs ih=>
  match us,hl with
  |u::us,hl=>exact .cons (h 0 v u rfl rfl) (ih (by simpa using hl) λi v u e1 e2=>h (i+1) v u (by simpa using e1) (by simpa using e2))
theorem zf0:CallR X (.builtin "sorted") (znV X.K):=by
 intro pins s σ H xs us Q I r h
 obtain⟨p,vs,ps,rfl,hq,ht,hp0,h64,q⟩:=h
 obtain⟨u,rfl,ru⟩:=zbG r
 cases ru
 have key:∀{its:List Value} {T:String} {o:Obj} {n:Nat},T="list"\/T="tuple"->s.heap.get? p=some o->o.cls= .type T->o.data= .seq its.toArray n->Vals vs its->wpAny (model X.prog X.w) X.A (call (.builtin "sorted") [.ref p]) (EP X pins σ Q) X.xe s:=by
  intro its T o n hT ho hc hd rv
  have hl:=rv.length
  have hlp:its.length=ps.length:=by rw[←hl];exact ht.1
  have keyA:∀(i:Nat) (u:Value) (q:List Str),its[i]?=some u->ps[i]?=some q->∃b,u= .ref b/\H b=some (.tup (q.map V.str)):=λi u q e1 e2=>by
   have hi:i<vs.length:=by
    rcases ζw i vs.length with z|z
    ·exact z
    ·rw[ζi (by omega)] at e1;cases e1
   obtain⟨b,e3,hb⟩:=ht.2 i vs[i] q (by simp[hi]) e2
   obtain⟨u',hu',ru'⟩:=rv.get (i:=i) (x:=vs[i]) (by simp[hi])
   rw[e1] at hu'
   cases hu'
   rw[e3] at ru'
   cases ru'
   exact⟨b,rfl,hb⟩
  have keyT:∀(i:Nat) (u:Value) (q:List Str),its[i]?=some u->ps[i]?=some q->TupL s.heap u q:=λi u q e1 e2=>by
   obtain⟨b,rfl,hb⟩:=keyA i u q e1 e2
   obtain⟨_,jts,rj,⟨o',g',c',n',d'⟩,_⟩:=(show ObjOk X.prog X.w H s.heap b (.tup (q.map V.str))from I.hok b _ hb)
   exact⟨b,o',n',_,rfl,g',c',d',by simpa using rj⟩
  refine zhT (A:=X.A) (G:=λp=>RW.PermN ps.length p/\(RW.Strict ps.length (λi j=>ltL (lAt ps i) (lAt ps j))->RW.Sor (λi j=>ltL (lAt ps i) (lAt ps j)) p ps.length)) (κ:=tuples' true) hT ho hc hd (by omega) (λh2 s1 k1=>?_) (λD out h' c ho' kp hD gD=>?_)
  ·have keyT1:∀(i:Nat) (u:Value) (q:List Str),its[i]?=some u->ps[i]?=some q->TupL s1.heap u q:=λi u p e1 e2=>(keyT i u p e1 e2).keeps k1
   obtain⟨fs,ft,fl,fa⟩:=zfL hlp hp0 keyT1
   refine⟨λC hC=>kat_kind (T:= .type "str") ft (by omega) (λf hf=>?_) rfl hC,?_⟩
   ·obtain ⟨x,t,rfl⟩:=fa f hf
    exact Looks.of_pure rfl
   ·rw[hlp]
    refine RW.OkT.wp (N:=ps.length) (lt:=λi j=>ltL (lAt ps i) (lAt ps j)) (I:=λs'=>s'=s1) (λi j C s' hi hj e hC=>?_) (λp s' hp e=>⟨e,hp⟩) rfl (RW.sort_any (by omega))
    subst e
    have gi:∀i,i<ps.length->TupL s'.heap (its.getD i Value.none) (lAt ps i):=λi hi=>by
     have hi':i<its.length:=by omega
     refine keyT1 i _ _ ?_ ?_
     ·simp[hi']
     ·unfold lAt;simp[hi]
    exact zik (gi i hi) (gi j hj) (hC s' rfl)
  ·have nD:H D=none:=I.hok.fresh hD
   obtain⟨ps',hperm,hpw,hlen,hout⟩:∃ps':List (List Str),ps'.Perm ps/\(ps.Nodup->ps'.Pairwise (λa b=>ltL a b=true))/\out.length=ps'.length/\∀(i:Nat) (u:Value) (q:List Str),out[i]?=some u->ps'[i]?=some q->∃b,u= .ref b/\H b=some (.tup (q.map V.str)):=by
    rcases ho' with⟨hlt,rfl⟩|⟨p,hp,⟨hP,hS⟩,rfl⟩
    ·refine ⟨ps, .refl _,λ_=>?_,hlp,keyA⟩
     match ps,(show ps.length<2 by omega)with
     |[],_=>exact .nil
     |[a],_=>exact List.pairwise_singleton _ _
    ·refine ⟨p.toList.map (lAt ps),?_,λnd=>?_,by simp,λi u q e1 e2=>?_⟩
     ·have h1:=hP.map (lAt ps)
      rwa[zj4] at h1
     ·have hs:=hS (zeS nd)
      have hz:=hP.size
      rw[List.pairwise_iff_getElem]
      intro i j hi hj hij
      have hi':i<p.size:=by simpa using hi
      have hj':j<p.size:=by simpa using hj
      have h:=hs i j hij (by omega)
      rw[RW.gd_get hi',RW.gd_get hj'] at h
      simpa using h
     ·rw[ζp] at e1 e2
      cases e3:p.toList[i]? with
      |none=>rw[e3] at e1;cases e1
      |some j=>
       rw[e3] at e1 e2
       have hj:j<ps.length:=by
        have:j∈p.toList:=ζk e3
        have:=(hP.mem_iff (a:=j)).mp this
        simpa using this
       have hj':j<its.length:=by omega
       refine keyA j u q ?_ ?_
       ·rw[←e1];simp[hj']
       ·rw[←e2];unfold lAt;simp[hj]
   let vs':List V:=out.map λu=>match u with| .ref b=>V.ref b|_=>V.non
   have hv:∀(i:Nat) (q:List Str),ps'[i]?=some q->∃b,out[i]?=some (.ref b)/\vs'[i]?=some (.ref b)/\H b=some (.tup (q.map V.str)):=λi q e=>by
    have hi:i<out.length:=by
     rcases ζw i ps'.length with z|z
     ·omega
     ·rw[ζi z] at e;cases e
    obtain⟨b,e1,hb⟩:=hout i out[i] q (by simp[hi]) e
    exact⟨b,by rw[ζd hi,e1],by show(out.map _)[i]?=_;rw[ζp,ζd hi,e1];rfl,hb⟩
   have hlv:vs'.length=out.length:=by show(out.map _).length=_;rw[ζa]
   have hpl:ps'.length<64:=by rw[hperm.length_eq];omega
   have T':zaq H vs' ps':=⟨by omega,λi v q e1 e2=>by
    obtain⟨b,_,e3,hb⟩:=hv i q e2
    rw[e1] at e3;cases e3
    exact⟨b,rfl,hb⟩⟩
   refine⟨.ref D,_,I.laid (a:=D) (o:= .lst vs') (t':=s.toks) kp hD ⟨?_,out,c,?_,gD⟩,rfl,q ps' vs' D hperm hpw T' nD⟩
   ·rw[hlv,hlen];exact ξg (zj (by omega))
   ·refine zfB hlv λi v u e1 e2=>?_
    have hi:i<ps'.length:=by
     rcases ζw i ps'.length with z|z
     ·exact z
     ·rw[ζi (by omega)] at e2;cases e2
    obtain⟨b,e3,e4,_⟩:=hv i ps'[i] (by simp[hi])
    rw[e3] at e2;cases e2
    rw[e4] at e1;cases e1
    rfl
 rcases hq with hq|hq
 ·obtain ⟨its,rv,pl,hz⟩:=I.list hq
  obtain⟨o,ho,hc,n,hd⟩:=pl.isList
  exact key (.inl rfl) ho hc hd rv
 ·obtain ⟨its,rv,pl,hz⟩:=I.tuple hq
  obtain⟨o,ho,hc,n,hd⟩:=pl
  exact key (.inr rfl) ho hc hd rv
end
end L2
namespace L2
open PySem PySem.Spec PyProof.Rows
section
variable{X:Cx}{K:ξk}{o:Expr}{to:TE}{name:Str}{apos cpos:Pos}{T id:String}{r:V->List V->Hp->VK->Prop}
theorem zrt(pa:PlainAttrs T)(slot:Slot T name id)(hty:typeOf (.builtin id)=pure (.type "method_descriptor"))(hm:MtR X id r)(ho:QE X o to)
 (hbase:attributeBase o name X.env (eval o X.env)=eval o X.env:=by rfl) (hline:(apos.endLine==cpos.line)=true:=by rfl):QE X (.Call (.Attribute o name apos) [] [] cpos) (zry X.K T r to):=⟨zp3 pa slot hty hm ho.o hbase hline⟩
end
section
variable{X:Cx}{K:ξk}
end
end L2
namespace RW
open PySem PySem.Spec PyProof.Rows L2
noncomputable def znO:List Str->Bool
 |[a,b,w]=>zh a&&zh b&&(if w="equal"then ltS a b else decide (w="over")&&!decide (a=b))
 |_=>false
noncomputable def ziK(r:List Str):List Str:=srt (r.take 2)
structure KinOk(rs:List (List Str)):Prop where
 row:∀r∈rs,znO r=true
 rise:rs.Pairwise (λa b=>ltL a b=true)
 ties:(rs.map ziK).Nodup
noncomputable def pr(a b:Str):List Str:=srt [a,b]
noncomputable abbrev at_(xs:List Str)(i:Nat):Str:=xs.getD i ""
structure KD62(xs:List Str)(ps:List (Nat×Nat))(k:Nat)(rs:List (List Str)):Prop where
 row:∀r∈rs,znO r=true
 nd:(rs.map ziK).Nodup
 few:rs.length<=k
 old:∀r∈rs,∃q∈ps.take k,q.1<q.2/\ziK r=pr (at_ xs q.1) (at_ xs q.2)
section
variable{te tf:TE}{ta:TA}{σ:L2.St}{H:Hp}{P P':D->Prop}{d:D}{ds:List D}{n:Nat}{K:ξk}
end
end RW
namespace HT
open PySem PySem.Spec PyProof.Rows L2
section
variable{prog:Program}{w:World}{A:Around}{E:Value->Shared->Prop}{s:Shared}
theorem ze6:isSubtype (.type "range_iterator") (.type "reversed")=pure false:=by rw[isSubtype_type];kernel_rfl
noncomputable def downObj(n:Nat):Obj:={cls:= .type "range_iterator",data:= .fields #[rawInt ((n:Int) -1),rawInt (n:Int),rawInt (-1)]}
theorem zlr(r:Addr)(a b c:Int)(t u v:Tok)(hc0:¬(!(Builtin.Range.rangeFitsLong a&&Builtin.Range.rangeFitsLong b&&Builtin.Range.rangeFitsLong c&&Builtin.Range.rangeFitsLong (-c)&&Builtin.Range.rangeFitsLong (a -c)&&Builtin.Range.rangeFitsLong (Builtin.Range.rangeSize a b c)))=true):
 Meets (Builtin.«range.__reversed__» ⟨[.ref r],[]⟩) (λ_ R s=>s.heap.get? r=some {cls:= .type "range",dict:=none,data:= .fields #[.int a t, .int b u, .int c v],slots:= #[]}/\R (.ok (.ret (Value.ref s.heap.objs.size))) {s with heap:=s.heap.push {cls:=Value.type (if(Builtin.Range.rangeFitsLong a&&Builtin.Range.rangeFitsLong b&&Builtin.Range.rangeFitsLong c&&Builtin.Range.rangeFitsLong (-c)&&Builtin.Range.rangeFitsLong (a -c)&&Builtin.Range.rangeFitsLong (Builtin.Range.rangeSize a b c))=true then"range_iterator"else "longrange_iterator"),data:=Data.fields #[rawInt (a+(Builtin.Range.rangeSize a b c -1)*c),rawInt (Builtin.Range.rangeSize a b c),rawInt (-c)]},toks:=s.toks}):=
 .of_wp λprog w A R s h=>by obtain⟨hp,g,d,tk,os⟩:=s;obtain⟨hl,h⟩:=h;wp_walk;exact⟨_,rfl,h⟩
theorem zfN{r:Addr}{n:Nat}{t u v:Tok}{Q:Value->Shared->Prop}(hr:s.heap.get? r=some {cls:= .type "range",data:= .fields #[.int 0 t, .int (n:Int) u, .int 1 v]})(hn:n<=1000)
 (h:Q (.ref s.heap.objs.size) {s with heap:=s.heap.push (downObj n)}):wpAny (model prog w) A (call (.builtin "range.__reversed__") [.ref r]) Q E s:=by
 have hT:s.TypeIs (.ref r) "range":=⟨_,hr,rfl⟩
 have e1:Builtin.Range.rangeSize 0 (n:Int) 1=(n:Int):=by rw[rangeSize_one];split<;>omega
 have ft:∀i:Int,-(2^63)<=i->i<2^63->Builtin.Range.rangeFitsLong i=true:=λi h1 h2=>by
  unfold Builtin.Range.rangeFitsLong
  rw[ζf h1,ζf h2];rfl
 have e2:(Builtin.Range.rangeFitsLong 0&&Builtin.Range.rangeFitsLong (n:Int)&&Builtin.Range.rangeFitsLong 1&&Builtin.Range.rangeFitsLong (-1)&&Builtin.Range.rangeFitsLong (0 -1)&&Builtin.Range.rangeFitsLong (Builtin.Range.rangeSize 0 (n:Int) 1))=true:=by
  rw[e1,ft 0 (by decide) (by decide),ft (n:Int) (by omega) (by omega),ft 1 (by decide) (by decide),ft (-1) (by decide) (by decide),ft (0 -1) (by decide) (by decide)];rfl
 refine call_meets PySem.F.slot_range_reversed hT PySem.F.entry_range_reversed (PySem.F.args_range_reversed_1 _) (zlr r 0 (n:Int) 1 t u v (by rw[e2];decide)) ⟨hr,?_⟩
 rw[if_pos e2,e1]
 have e3:(0:Int)+((n:Int) -1)*1=(n:Int) -1:=by omega
 rw[e3]
 exact h
theorem zdU{r:Addr}{n:Nat}{t u v:Tok}{Q₁:Value->Shared->Prop}(hr:s.heap.get? r=some {cls:= .type "range",data:= .fields #[.int 0 t, .int (n:Int) u, .int 1 v]})(hn:n<=1000)
 (h:Q₁ (.ref s.heap.objs.size) {s with heap:=s.heap.push (downObj n)}):
 codeAny (model prog w) A (.call (.builtin "reversed.__new__") ⟨[.type "reversed", .ref r],[]⟩) (wants Q₁ E) s:=by
 have hT:s.TypeIs (.ref r) "range":=⟨_,hr,rfl⟩
 refine codeAny_of_tree ?_
 show wpAny _ A.in1 (do checkBuiltinCall "reversed.__new__" ⟨[.type "reversed", .ref r],[]⟩;again (.builtin "reversed.__new__" ⟨[.type "reversed", .ref r],[]⟩)) _ _ s
 refine ζb (wpAny_of_eq (PySem.F.newCall_reversed_1 _) (ζr ⟨plainId_quiet PySem.F.plain_reversed_new _,codeAny_builtin PySem.F.entry_reversed_new ?_⟩))
 rw[Around.under_plainId PySem.F.plain_reversed_new _]
 unfold Builtin.«reversed.__new__»
 refine ζb (wpAny_of_eq (newClass_reversed _) ?_)
 try dsimp only
 refine ζb (wpAny_of_eq (a:=()) (by first|rfl|kernel_rfl) ?_)
 refine ζb (wpAny_of_eq (a:=()) (by first|rfl|kernel_rfl) ?_)
 try dsimp only
 refine ζb (wpAny_specialOf hT PySem.F.slot_range_reversed.lookup ?_)
 try dsimp only
 refine ζb (wpAny_of_eq (PySem.F.slot_range_reversed.bind _) ?_)
 try dsimp only
 first
 |rw[if_neg (show¬((Value.builtin "range.__reversed__"==Value.none)=true)from ξe)]
 |(show wpAny _ _ (if(Value.builtin "range.__reversed__"==Value.none)=true then _ else _) _ _ _;rw[if_neg (show¬((Value.builtin "range.__reversed__"==Value.none)=true)from ξe)])
 refine ζb (wpAny_rule ?_)
 refine ζb (m:=runValue (.call (.builtin "range.__reversed__") ⟨[.ref r],[]⟩)) (show wpAny _ _ (call (.builtin "range.__reversed__") [.ref r]) _ _ _ from zfN hr hn ?_)
 first
 |exact ζr h
 |exact ζb (ζr (ζr h))
theorem call_reversed_rng{r:Addr}{n:Nat}{t u v:Tok}{Q:Value->Shared->Prop}(hr:s.heap.get? r=some {cls:= .type "range",data:= .fields #[.int 0 t, .int (n:Int) u, .int 1 v]})(hn:n<=1000)
 (h:Q (.ref s.heap.objs.size) {s with heap:=s.heap.push (downObj n)}):wpAny (model prog w) A (call (.type "reversed") [.ref r]) Q E s:=by
 refine callType_other (U:="range_iterator") (Q₁:=λobj s₁=>obj= .ref s.heap.objs.size/\s₁={s with heap:=s.heap.push (downObj n)}) (by decide +kernel) PySem.F.create_reversed ⟨_,_,PySem.F.mro_reversed⟩ PySem.F.made_reversed ze6 (PySem.F.typeCall_reversed_1 _) (zdU hr hn ⟨rfl,rfl⟩) ?_
 rintro obj s₁ ⟨rfl,rfl⟩
 exact⟨⟨_,ζj _ rfl,rfl⟩,h⟩
end
end HT
namespace L2
open PySem PySem.Spec PyProof.Rows
noncomputable def zpc(n:Nat):It:=⟨λi _=>i<n,λi H x H'=>H'=H/\x= .int ((n:Int) -1 -i),λi _=>n<=i⟩
theorem zo4{n:Nat}:Wk (zpc n) n (λi x=>x= .int ((n:Int) -1 -i)) (λ_=>True) where
 stop:=λi H h l=>l
 go:=λi H h l=>l
 yld:=λi H x H' h l y=>y
theorem zli{P:Program}{w:World}{K:ξk}{tg:Expr}(it:Addr)(n:Nat):Turn P w K tg (zpc n) [it] it (λi h=>IsRangeIter h it ((n:Int) -1+(i:Nat)*(-1)) ((n:Int) -(i:Nat)) (-1)) where
 mem:=by simp
 obj:=λi h st b hb=>by
  have e:b=it:=by simpa using hb
  subst e
  exact⟨_,st,λv z=>by
   have z':Data.fields _=Data.cell v:=z
   cases z'⟩
 keep:=λi h h' st k=>k it (by simp) _ st
 item:=by
  intro X hP hw hK hc i pins s σ H E I hf st hg
  subst hP hw hK
  obtain⟨f0,f1,f2,f3,f4,f5⟩:=hf it (by simp)
  have W:=Walks.range (prog:=X.prog) (w:=X.w) (I.ok.hd hc) it ((n:Int) -1) (-1) n
  refine W.item i s _ _ hg st λv h' tk hv st' kk=>?_
  obtain⟨t,rfl⟩:=hv
  have I1:Inv X pins σ H {s with heap:=h',toks:=tk}:=I.turned (λb o hb e=>kk b o (by simpa using hb) e) f0 f1 f3 f4 f5
  refine⟨_,rfl,zkz (s:={s with heap:=h',toks:=tk}) (n:="range_iterator") st' rfl rfl (by decide) ⟨.int ((n:Int) -1 -i),H,I1,⟨t,?_⟩,⟨rfl,rfl⟩,st',λb hb=>(hf b hb).1⟩⟩
  congr 1
  omega
 done:=by
   intro X hP hw hK hc i pins s σ H E I hf st hg
   subst hP hw hK
   obtain⟨f0,f1,f2,f3,f4,f5⟩:=hf it (by simp)
   exact wpAny_pyNext_range_end (I.ok.hd hc) st (by have:n<=i:=hg;omega) λh' eb=>⟨rfl,I.turned (t':=s.toks) (λb o hb e=>eb b o hb e) f0 f1 f3 f4 f5⟩
 self:=λ_ _ _ _ _ st h=>wpAny_pyIter_rangeiter st h
section
variable{X:Cx}{tg:Expr}
theorem zod{pins:List (Addr×Obj)}{σ:St}{H:Hp}{s:Shared}{R:It->Hp->Prop}{E:Value->Shared->Prop}{n:Nat}{t u v:Tok}{tk:Nat}(I:Inv X pins σ H s)(hn:n<=1000)(q:R (zpc n) H):
 wpAny (model X.prog X.w) X.A (call (.type "reversed") [.ref s.heap.objs.size]) (λv s1=>wpAny (model X.prog X.w) X.A (pyIter v) (PIE X pins σ tg R) E s1) E {s with heap:=s.heap.push {cls:= .type "range",data:= .fields #[.int 0 t, .int (n:Int) u, .int 1 v]},toks:=tk}:=by
 refine HT.call_reversed_rng (ζj _ rfl) hn ?_
 have I2:Inv X pins σ H {s with heap:=(s.heap.push {cls:= .type "range",data:= .fields #[.int 0 t, .int (n:Int) u, .int 1 v]}).push (HT.downObj n),toks:=tk}:=I.kept λb o e=>ζc _ (ζc _ e)
 have hit:IsRangeIter ((s.heap.push {cls:= .type "range",data:= .fields #[.int 0 t, .int (n:Int) u, .int 1 v]}).push (HT.downObj n)) (s.heap.push {cls:= .type "range",data:= .fields #[.int 0 t, .int (n:Int) u, .int 1 v]}).objs.size ((n:Int) -1+((0:Nat):Int)*(-1)) ((n:Int) -((0:Nat):Int)) (-1):=by
  have e1:(n:Int) -1+((0:Nat):Int)*(-1)=(n:Int) -1:=by omega
  have e2:(n:Int) -((0:Nat):Int)=(n:Int):=by omega
  rw[e1,e2]
  exact ζj _ rfl
 refine wpAny_pyIter_rangeiter hit ?_
 refine⟨_,[_],_,_,H,rfl,I2,zli _ n,hit,λb hb=>?_,q⟩
 have e:b=(s.heap.push {cls:= .type "range",data:= .fields #[.int 0 t, .int (n:Int) u, .int 1 v]}).objs.size:=by simpa using hb
 have hb':s.heap.objs.size<=b:=by rw[e,Heap.size_push];exact Nat.le_succ _
 exact I.fpOk hb' (I.hok.fresh hb')
noncomputable def zrr(ta:TA):TI:=λσ H R=>ta σ H λvs H1=>∃n:Nat,vs=[.int (n:Int)]/\n<=1000/\R (zpc n) H1
theorem zgb:bootBuiltins "reversed"=some (.type "reversed"):=by kernel_rfl
theorem zqv{a:Expr}{ta:TA}{p p2 pos pos2:Pos}(hm:X.mg "range"=none)(hm2:X.mg "reversed"=none)(ha:QA X [a] ta)(hg:Gl X "range":=by rfl)(hg2:Gl X "reversed":=by rfl)(hs:starEach [a] X.env=[(false,eval a X.env)]:=by rfl)
 (hs2:starEach [.Call (.Name "range" p2) [a] [] pos2] X.env=[(false,eval (.Call (.Name "range" p2) [a] [] pos2) X.env)]:=by rfl):QI X tg (.Call (.Name "reversed" p) [.Call (.Name "range" p2) [a] [] pos2] [] pos) (zrr ta):=⟨by
 intro pins s σ H R I h
 refine Call_ (zeu I hg2 hm2 zgb (PyProof.Rows.callWith_type1 (Q:=_) ?_ hs2 rfl))
 rw[hs2]
 refine Calls.spliced_cons (Call_ (zeu I hg hm boot_range (PyProof.Rows.callWith_type1 (thn (ha.o pos2 pins s σ H _ I h) λus s1 ⟨vs,H1,I1,r1,q1⟩=>?_) hs rfl)))
 obtain⟨n,rfl,hn,q⟩:=q1
 obtain⟨u,rfl,ru⟩:=zbG r1
 obtain⟨t,rfl⟩:=ru
 refine call_range_1 (Calls.spliced_nil ?_)
 exact zod I1 hn q⟩
end
section
variable{X:Cx}
theorem zfc:bootBuiltins "repr"=some (.builtin "repr"):=by decide +kernel
theorem zqT{tg e:Expr}{te:TE}(h:QE X e te):QI X tg e (λσ H R=>zo6 X.K te σ H R\/zkH X.K te σ H R):=⟨λpins s σ H R I q=>by
 rcases q with q|q
 ·exact (zbD h).o pins s σ H R I q
 ·exact (zeo h).o pins s σ H R I q⟩
end
end L2
namespace RW
open PySem PySem.Spec PyProof.Rows L2
theorem zcN{X:Cx}(hg:X.A.guards=some [])(hu:X.A.units+64<cLine):CallR X (.builtin "repr") (λxs H Q=>(∃(a:Addr) (d:PyData),xs=[.ref a]/\Tr H (.ref a) d/\d.showable=true/\d.depth<=60/\d.shown.length<=sizeLine/\Q (.str d.shown) H)\/(xs=[.non]/\Q (.str "None") H)):=(zi5 hg hu).or ziU
noncomputable def zsj:D->List D| .tup rs=>rs|_=> []
noncomputable def zK:List Str->List D->Str->List D
 |h::hs,d::ds,x=>if h=x then zsj d else zK hs ds x
 |_,_,_=> []
theorem zfa{x:Str}{rs:List D}:∀{hs:List Str} {ds:List D} {j:Nat},hs.Nodup->hs[j]?=some x->ds[j]?=some (.tup rs)->zK hs ds x=rs
 |[],_,j,_,h1,_=>by simp at h1
 |h::hs,[],j,_,_,h2=>by simp at h2
 |h::hs,d::ds,0,_,h1,h2=>by
  simp at h1 h2
  subst h1 h2
  rw[zK,if_pos rfl];rfl
 |h::hs,d::ds,j+1,nd,h1,h2=>by
  simp only[List.getElem?_cons_succ] at h1 h2
  rw[List.nodup_cons] at nd
  have hne:¬h=x:=λe=>nd.1 (e▸ζk h1)
  rw[zK,if_neg hne]
  exact zfa nd.2 h1 h2
noncomputable def zdH:D->Bool| .non=>true|_=>false
theorem zn8{H:Hp}{u:V}{d:D}(r:Rep H u d):decide (u=V.non)=zdH d:=by
 cases r<;>first|rfl|exact ζn (λz=>by cases z)
noncomputable def zbN(hs:List Str)(lks hds:List D)(y:Str)(w ms:List Str):Option (List Str):=
 match zv w (some y) (zK hs hds (w.headD "")) ms with
 |none=>none
 |some t=>if zdH (z4 (y::w) t (zK hs lks y))=true then none else some t
noncomputable def zI(hs:List Str)(lks hds:List D):List Str->Option (List Str)
 |[]=>some []
 |[_]=>some []
 |y::x::ws=>match zI hs lks hds (x::ws)with
  |none=>none
  |some t=>zbN hs lks hds y (x::ws) t
structure Mr(O t:List Str):Prop extends Mk O t where
 rise:t.Pairwise (λa b=>ltS a b=true)
theorem Mr.next{O t:List Str}{w m:Str}(h:Mr O t)(hm:m∈O):Mr O (zd0 t w m):=⟨h.toMk.next hm,zfr (zem h.nd)⟩
theorem Mr.nil{O:List Str}:Mr O []:=⟨⟨List.nodup_nil,λ_ h=>nomatch h⟩,List.Pairwise.nil⟩
theorem zdr{O:List Str}{ws:List Str}{to:Option Str}:∀{rs:List D} {ms t:List Str},(∀r∈rs,∃cs x,r= .tup [.tup cs,x]/\(∀c∈cs,zw c=true)/\(x= .tup [.str "keep"]\/∃w m,x= .tup [.str w, .str m]/\(w="put"\/w="strike")/\m∈O))->Mr O ms->zv ws to rs ms=some t->Mr O t
 |[],ms,t,_,h,e=>by rw[zv] at e;cases e;exact h
 |r::rs,ms,t,hr,h,e=>by
  obtain⟨cs,x,rfl,_,hx⟩:=hr r ζo
  have hr':=λr h=>hr r (ξc _ h)
  rw[zv] at e
  split at e
  ·rcases hx with rfl|⟨w,m,rfl,_,hm⟩
   ·cases e
   ·exact zdr hr' (h.next hm) e
  ·exact zdr hr' h e
theorem zm8{O hs:List Str}{lks hds:List D}{y:Str}{w ms t:List Str}(hk:zcb O (zK hs hds (w.headD "")))(h:Mr O ms)(e:zbN hs lks hds y w ms=some t):Mr O t:=by
 unfold zbN at e
 split at e
 ·cases e
 ·rename_i t' e'
  split at e
  ·cases e
  ·cases e
   exact zdr hk.2 h e'
theorem zir{O t:List Str}{m:Str}(h:Mr O t):zd0 t "strike" m=t.filter λx=>!decide (x=m):=by
 unfold zd0 zal
 rw[if_neg (by decide +kernel),ξw]
 exact zcA (zfr (h.nd.filter _)) (h.rise.filter _) λx=>(zcr _).mem_iff
end RW
namespace L2
section
variable{α:Type}{P:List α->Prop}
theorem of1(h:∀a,P [a]):∀us:List α,us.length=1->P us
 |[a],_=>h a
theorem of2(h:∀a b,P [a,b]):∀us:List α,us.length=2->P us
 |[a,b],_=>h a b
theorem of3(h:∀a b c,P [a,b,c]):∀us:List α,us.length=3->P us
 |[a,b,c],_=>h a b c
theorem of4(h:∀a b c d,P [a,b,c,d]):∀us:List α,us.length=4->P us
 |[a,b,c,d],_=>h a b c d
end
end L2
namespace HT
open PySem PySem.Spec PyProof.Rows L2
section
variable{prog:Program}{w:World}{A:Around}{R:Result->Shared->Prop}{I:Addr}{fp wr:List Addr}{n:Nat}{P:Nat->Value->Prop}{St:Nat->Heap->Prop}
end
section
variable{prog:Program}{w:World}{A:Around}{E:Value->Shared->Prop}{s:Shared}
end
end HT
namespace L2
open PySem PySem.Spec PyProof.Rows
section
variable{X:Cx}
end
section
variable{X:Cx}
end
end L2
namespace L2
open PySem PySem.W PySem.Spec PyProof.Rows PyProof.V
section
variable{X:Cx}
end
end L2
namespace HT
open PySem PySem.Spec PyProof.Rows L2
section
variable{prog:Program}{w:World}{A:Around}{R:Result->Shared->Prop}{I:Addr}{fp wr:List Addr}{n:Nat}{P:Nat->Value->Prop}{St:Nat->Heap->Prop}
end
section
variable{prog:Program}{w:World}{A:Around}{E:Value->Shared->Prop}{s:Shared}
end
section
variable{prog:Program}{w:World}{A:Around}{E:Value->Shared->Prop}{s:Shared}
end
end HT
namespace L2
open PySem PySem.W PySem.Spec PyProof.Rows PyProof.V
section
variable{X:Cx}
end
end L2
namespace L2
open PySem PySem.Spec PyProof.Rows
section
variable{prog:Program}{w:World}{A:Around}{R:Result->Shared->Prop}{s:Shared}{kx vx t1 i1 t2 i2:Expr}{f1 f2:List Expr}{scope:Scope}{pos:Pos}{it acc:Value}{env:Env}{d:Addr}
end
section
variable{X:Cx}{kx vx tg iter tg2 iter2:Expr}{ifs ifs2:List Expr}{scope osc:Scope}{pos:Pos}{N':List Str}{src:List (Option Nat)}{wi wi2:TI}{g g2:TG}{tc tc2:TT}{tk tv:TE}{y:Str}{py spos:Pos}{k:Nat}
end
section
variable{X:Cx}{pos:Pos}{pins:List (Addr×Obj)}{σ:St}{H:Hp}{s:Shared}
theorem zp9(hu:X.A.units+1<cLine):OpR X (compareOp .NotIn) (λy x H Q=>∃a o,x= .ref a/\DGet H a y o/\Q (.bl (!o.isSome)) H):=by
 intro pins s σ H y x u v Q I ry rx h
 obtain⟨a,o,rfl,g,q⟩:=h
 cases rx
 exact zow hu I g ry λs' I'=>⟨.bl (!o.isSome),H,I',rfl,q⟩
end
end L2
namespace RW
open PySem PySem.Spec PyProof.Rows L2
structure RingG(G:Str->List Str)(xs:List Str):Prop where
 two:2<=xs.length
 ends:xs[0]?=xs[xs.length -1]?
 nd:(xs.drop 1).Nodup
 nxt:∀i a b,xs[i]?=some a->xs[i+1]?=some b->a∈G b
structure Led(H:Hp)(kvs:List (Key×V))(ks:List Str)(G:Str->List Str):Prop where
 keys:kvs.map (·.1)=ks.map Sum.inr
 nd:ks.Nodup
 at_:∀x∈ks,∃l,zbm kvs (Sum.inr x)=some (.ref l)/\H l=some (.lst ((G x).map V.str))
 sub:∀x∈ks,∀y∈G x,y∈ks
 short:∀x∈ks,x.length<=1000
 few:ks.length<=60/\∀x∈ks,(G x).length<=60
noncomputable def tol(tk:List (Key×V))(x:Str):Bool:=(zbm tk (Sum.inr x)).isSome
structure Tld63(tk:List (Key×V))(ks:List Str)(G:Str->List Str):Prop where
 opn:∀x∈ks,tol tk x=false->∃y∈G x,tol tk y=false
 sure:∀W:Str->Prop,(∀b,W b->∃a∈G b,W a)->∀b,W b->tol tk b=false
structure Peel(rs R:List (List Str)):Prop where
 sub:∀r∈R,r∈rs/\at_ r 2=("over":Str)
 out:∀W:Str->Prop,(∀b,W b->∃a,[a,b,"over"]∈rs/\W a)->∀a b,W a->W b->[a,b,"over"]∈rs->[a,b,"over"]∈R
structure LR(ks:List Str)(G:Str->List Str)(tk:List (Key×V))(ws:List Str):Prop where
 sub:∀x∈ws,x∈ks
 cov:∀x∈ks,x∈ws\/tol tk x=true
 sure:∀W:Str->Prop,(∀b,W b->∃a∈G b,W a)->∀b,W b->tol tk b=false
 inv:∀x v,zbm tk (Sum.inr x)=some v->∃n,v=V.int n
 len:tk.length+ws.length<=ks.length
structure LRi(ks:List Str)(G:Str->List Str)(tk:List (Key×V))(ws ys:List Str)(i:Nat)(fr:Bool):Prop where
 sub:∀x∈ys,x∈ks
 cov:∀x∈ks,x∈ys\/x∈ws.drop i\/tol tk x=true
 sure:∀W:Str->Prop,(∀b,W b->∃a∈G b,W a)->∀b,W b->tol tk b=false
 inv:∀x v,zbm tk (Sum.inr x)=some v->∃n,v=V.int n
 len:tk.length+ys.length+(ws.length -i)<=ks.length
 le:ys.length<=i
 lt:fr=true->ys.length<i
 opn:fr=false->∀x∈ys,∃y∈G x,tol tk y=false
structure Wlk(ks:List Str)(G:Str->List Str)(tk:List (Key×V))(row:List Str)(x:Str):Prop where
 nd:row.Nodup
 sub:∀y∈row,y∈ks
 ch:∀i a b,row[i]?=some a->row[i+1]?=some b->b∈G a
 nx:∀a,row[row.length -1]?=some a->x∈G a
 xk:x∈ks
 xu:tol tk x=false
end RW
namespace L2
open PySem PySem.Spec PyProof.Rows
end L2
namespace RW
open PySem PySem.Spec PyProof.Rows L2
structure EL(H H':Hp)(kvs:List (Key×V))(ks:List Str)(G:Str->List Str):Prop where
 keys:kvs.map (·.1)=ks.map Sum.inr
 nd:ks.Nodup
 at_:∀x∈ks,∃l,zbm kvs (Sum.inr x)=some (.ref l)/\H' l=some (.lst ((G x).map V.str))/\H l=none
 apart:∀x∈ks,∀y∈ks,∀l,zbm kvs (Sum.inr x)=some (.ref l)->zbm kvs (Sum.inr y)=some (.ref l)->x=y
noncomputable def kOf(t:List Str):List Key:=t.map Sum.inr
structure RT(H:Hp)(kvs:List (List Key×V))(rs:List (List Str)):Prop where
 len:kvs.length=rs.length
 at_:∀(j:Nat) (kv:List Key×V) (r:List Str),kvs[j]?=some kv->rs[j]?=some r->∃b,kv.1=kOf (ziK r)/\kv.2= .ref b/\H b=some (.tup (r.map V.str))
 row:∀r∈rs,znO r=true
 nd:(rs.map ziK).Nodup
structure RG(xs:List Str)(m:Nat)(rs:List (List Str)):Prop where
 row:∀r∈rs,znO r=true
 nd:(rs.map ziK).Nodup
 old:∀r∈rs,∃i j,i<m/\j<m/\ziK r=pr (at_ xs i) (at_ xs j)
structure MAt(K:ξk)(C:Addr)(x qual:Str)(st:Stmt)(ps:List Str)(f:Addr)(fd:FuncData):Prop where
 fn:Fun K x qual st f fd
 b:Binds K fd ps []
 m:Meth K C x f
end RW
namespace L2
open PySem PySem.Spec PyProof.Rows
section
variable{X:Cx}{o e value:Expr}{f m:Str}{pos pos' tpos apos:Pos}{ta tv:TE}{K:ξk}{es:List Expr}{t:TA}{C fa:Addr}{fd:FuncData}{CX:CXT}{k:Nat}{ps:List Str}{sp:Sp}{dvs:List V}{ds:List Value}{E:XK}
theorem zdf(he:QE X e ta)(hb:attributeBase e f X.env (eval e X.env)=eval e X.env:=by rfl):QE X (.Attribute e f pos) (zrM X.K ta f):=⟨zqG he.o hb⟩
theorem zmR(ha:QE X o ta)(hv:QE X value tv)(hs:swapsWith value (some (.Attribute o f pos')) pos.line X.env=pure false:=by rfl):QS X (.Assign [.Attribute o f pos'] value pos) (zsa X.K ta tv f):=⟨zqL ha.o hv.o hs⟩
theorem ziX{pl:Sem Bool}(he:QE X o ta)(c:Cls X.K C)(hm:Meth X.K C m fa)(F:FnOk X.prog X.w X.K X.mg X.base CX k fa fd ps sp)(hr:Room k X.A)(hb:Binds X.K fd ps ds)(hd:Vals dvs ds)(hx:zcK CX X E)(ha:QA X (e::es) t)
 (hst:starEach (e::es) X.env=(false,eval e X.env)::starEach es X.env:=by rfl) (hpl:(backTo pos (starEach es X.env)).any (·.1)=false:=by rfl)
 (ht:eval (.Call (.Attribute o m apos) (e::es) [] pos) X.env=(do
   let ov ←eval o X.env
   standAt apos.atName
   let(f,first) ←holding [ov] (getMethod ov m pl)
   callWith pos f first (backTo pos (starEach (e::es) X.env)) (backToKw pos (keywordEach [] X.env))):=by rfl):
 QE X (.Call (.Attribute o m apos) (e::es) [] pos) (zpF C m sp dvs E ta t):=⟨znM he.o c hm F hr hb hd hx ha.o hst hpl ht⟩
theorem zms{x:Str}{p:Pos}(M:Mk X.K C fa)(F:FnOk X.prog X.w X.K X.mg X.base CX k fa fd ps sp)(hr:Room (k+1) X.A)(hm:X.mg x=some (.ref C))(hb:Binds X.K fd ps ds)(hd:Vals dvs ds)(hx:zcK CX X E)
 (ha:QA X (e::es) t) (hg:Gl X x:=by rfl) (hdb:(x==("__debug__":Str))=false:=by decide) (he:starEach (e::es) X.env=(false,eval e X.env)::starEach es X.env:=by rfl) (hpl:(backTo pos (starEach es X.env)).any (·.1)=false:=by rfl):
 QE X (.Call (.Name x p) (e::es) [] pos) (zpX C sp dvs E t):=⟨zos M F hr hg hm hb hd hx ha.o hdb he hpl⟩
end
end L2
namespace RW
open PySem PySem.Spec PyProof.Rows L2
inductive TrC(K:ξk)(H:Hp):V->PyData->Prop
 |non:TrC K H .non .none
 |bl (b:Bool):TrC K H (.bl b) (.bool b)
 |int (i:Int):TrC K H (.int i) (.int i)
 |str (x:Str) (h:PyData.strOk x=true):TrC K H (.str x) (.str x)
 |tup {p:Addr} {vs:List V} {ds:List PyData} (e:SqT K H p vs) (hl:vs.length=ds.length) (h:∀(i:Nat) (v:V) (d:PyData),vs[i]?=some v->ds[i]?=some d->TrC K H v d):TrC K H (.ref p) (.tuple ds)
section
variable{X:Cx}
end
end RW
namespace L2
open PySem PySem.Spec PyProof.Rows
theorem zfy(kx vx target iter:Expr)(ifs:List Expr)(scope:Scope)(pos:Pos)(it:Value)(d:Addr)(env:Env):
 compTurn (.DictComp kx vx [⟨target,iter,ifs,0⟩] scope pos) 0 it (.ref d) env=(do
  standAt iter.pos
  match←pyNext it with
  |none=>pure (.done .next)
  |some v=>
   letOwnedTupleGo target it v
   assign target env v
   let mut ok:=true
   for c in ifs do
    if ok then ok ←isTrue c env (eval c env)
   if ok then
    (do
      let kv ←eval kx env
      let vv ←holding [kv] (eval vx env)
      standAt {kx.pos with endLine:=vx.pos.endLine,endCol:=vx.pos.endCol}
      holding [kv,vv] (dictSet d kv vv))
   again (.compLoop (.DictComp kx vx [⟨target,iter,ifs,0⟩] scope pos) 0 it (.ref d) env)):=by rfl
theorem zoz{prog:Program}{w:World}{A:Around}{R:Result->Shared->Prop}{s:Shared}{kx vx target iter:Expr}{ifs:List Expr}{scope:Scope}{pos:Pos}{it:Value}{d:Addr}{env:Env}(I:Nat->Shared->Prop)
 (turn:∀n s,I n s->wpAny (model prog w) A (pyNext it) (λr s1=>match r with
   |none=>R (.ok .next) s1
   |some v=>wpAny (model prog w) A (letOwnedTupleGo target it v) (λ_ s1'=>wpAny (model prog w) A (assign target env v) (λ_ s2=>wpAny (model prog w) A (zdT ifs env) (λok s3=>
     if ok=true then wpAny (model prog w) A (eval kx env) (λk s4=>wpAny (model prog w) A (eval vx env) (λx s4'=>wpAny (model prog w) A (dictSet d k x) (λ_ s5=>∃m,m<n/\I m s5) (λ_ _=>False) s4') (λ_ _=>False) s4) (λ_ _=>False) s3
     else∃m,m<n/\I m s3) (λ_ _=>False) s2) (λ_ _=>False) s1') (λ_ _=>False) s1) (λ_ _=>False) s)
 (n:Nat) (h:I n s):codeAny (model prog w) A (.compLoop (.DictComp kx vx [⟨target,iter,ifs,0⟩] scope pos) 0 it (.ref d) env) R s:=by
 have no:∀{E:Value->Shared->Prop} (e:Value) (s:Shared),(λ(_:Value) (_:Shared)=>False) e s->E e s:=λ_ _ z=>False.elim z
 refine codeAny_loop rfl I (λn s hI=>?_) n h
 show wpAny _ A ((compTurn (.DictComp kx vx [⟨target,iter,ifs,0⟩] scope pos) 0 it (.ref d) env).onRaise (λx=>do noteFrame x env;theTreesLotGoes x)) _ _ s
 refine wpAny_noted ?_
 rw[zfy]
 refine ζb (wpAny_standAt (ζb (ψc (turn n s hI) (λr s₁ h₁=>?_) no)))
 cases r with
 |none=>exact ζr h₁
 |some v=>
  refine ζb (ψc h₁ (λ_ s1' h1'=>?_) no)
  refine ζb (ψc h1' (λ_ s₂ h₂=>ζb (ψc h₂ (λok s₃ h₃=>?_) no)) no)
  cases ok with
  |false=>exact ζr ⟨rfl,h₃⟩
  |true=>
   exact ζb (ζb (ψc h₃ (λk s₄ h₄=>ζb (ψd (ψc h₄ (λx s₅ h₅=>ζb (wpAny_standAt (ψd (ψc h₅ (λ_ s₆ h₆=>ζr ⟨rfl,h₆⟩) no)))) no))) no))
def zhE(g:TG)(tc:TT)(tk tv:TE)(src:List (Option Nat))(σ:St)(Q:VK)(J:It)(H1:Hp):Prop:=∀l,H1 l=none->
 ∃W:Nat->Nat->List (Key×V)->St->Hp->Prop,(∃m,W 0 m [] (zeI src σ) (upd H1 l (.dK [])))/\∀i m ys σ' H',W i m ys σ' H'->H' l=some (.dK ys)->
  (J.stop i H'/\Q (.ref l) H')\/(J.go i H'/\∃N:List (Key×V)->St->Hp->Prop,(∀zs σ2 H2,N zs σ2 H2->∃m',m'<m/\W (i+1) m' zs σ2 H2)/\∀x H2,J.yld i H' x H2->g x σ' H2 λσ2 H3=>tc σ2 H3 λb H4=>
    if b=true then tk σ2 H4 λk H5=>tv σ2 H5 λy H6=>∃k',k=kV k'/\H6 l=some (.dK ys)/\ys.length<sizeLine/\N (zb7 ys k' y) σ2 (upd H6 l (.dK (zb7 ys k' y)))
    else H4 l=some (.dK ys)/\N ys σ2 H4)
noncomputable def zj2(wi:TI)(g:TG)(tc:TT)(tk tv:TE)(src:List (Option Nat)):TE:=λσ H Q=>wi σ H (zhE g tc tk tv src σ Q)
section
variable{X:Cx}{kx vx tg iter:Expr}{ifs:List Expr}{scope osc:Scope}{pos:Pos}{N':List Str}{src:List (Option Nat)}{wi:TI}{g:TG}{tc:TT}{tk tv:TE}
theorem zkK(ok:CompOk X.N osc N' src scope)(hsc:X.env.scope=osc)(hc:X.calm=true)(hi:PI X tg iter wi)
 (hg:∀cl C s₀ H₀ fp,PG (zk X N' scope cl C s₀ H₀ fp) tg g) (ht:∀cl C s₀ H₀ fp,PIf (zk X N' scope cl C s₀ H₀ fp) ifs tc) (hk2:∀cl C s₀ H₀ fp,PE (zk X N' scope cl C s₀ H₀ fp) kx tk) (hv2:∀cl C s₀ H₀ fp,PE (zk X N' scope cl C s₀ H₀ fp) vx tv)
 (hs:∀x,foldedSetIterable iter X.env x=pure x:=by intro _;rfl):PE X (.DictComp kx vx [⟨tg,iter,ifs,0⟩] scope pos) (zj2 wi g tc tk tv src):=by
 intro pins s σ H Q I h
 obtain⟨cl,hcl,c1,c2⟩:=zcD (scope:=scope) (env:=X.env) λy hy hyf=>I.ok.has y.1 (by
  have z:=ok.frees y hy hyf
  rw[←hsc] at z
  exact z)
 rw[arm_eval_DictComp]
 refine wpAny_comprehension_free (use:=none) rfl hs hcl ok.kind ok.loc (thn (hi pins s σ H _ I h) λv s1 h1=>thn h1 λitv s2 h2=>?_)
 obtain⟨it,fp,tn,J,H2,e,I2,T,st2,f2,q2⟩:=h2
 subst e
 have hlt2:∀b∈fp,b<s2.heap.objs.size:=λb hb=>by
  obtain⟨o,e,_⟩:=T.obj _ _ st2 b hb
  exact ζm e
 refine wpAny_newObj_type ?_
 have hl:H2 s2.heap.objs.size=none:=I2.hok.fresh (ζt _)
 have I3:Inv X pins σ (upd H2 s2.heap.objs.size (.dK [])) {s2 with heap:=s2.heap.push {cls:= .type "dict",data:= .dict #[]}}:=
  I2.laid (t':=s2.toks) (λb u e=>ζc _ e) (ζt _) (zia s2.heap I2.big)
 obtain⟨W,⟨m0,w0⟩,turn⟩:=q2 _ hl
 generalize hl2:s2.heap.objs.size=l at *
 generalize hs3:({s2 with heap:=s2.heap.push {cls:= .type "dict",data:= .dict #[]}}:Shared)=s3 at *
 have f3:∀b∈fp,zcT X pins (upd H2 l (.dK [])) b:=λb hb=>⟨by rw[zi (ξj (hlt2 b hb))];exact(f2 b hb).1,(f2 b hb).2⟩
 have k3:∀b o,s2.heap.get? b=some o->s3.heap.get? b=some o:=λb o e=>by rw[←hs3];exact ζc _ e
 have hlt3:∀b∈fp,b<s3.heap.objs.size:=λb hb=>by
  obtain⟨o,e,_⟩:=T.obj _ _ st2 b hb
  exact ζm (k3 b o e)
 refine wpAny_newFunctionEnv ok.nocell (by intro y hy;simp at hy) (λh₁ hns₁ hsb₁=>?_) ok.kind
 have k4:∀b o,s3.heap.get? b=some o->h₁.get? b=some o:=λb o e=>(hsb₁.2 b (ξj (ζm e))).trans (ζc _ e)
 have J0:=zcL (tk:=s3.toks+([]:List (Str×Value)).length) I3 f3 hlt3 ok hsc c1 c2 hns₁ k4
 have st4:tn 0 h₁:=T.keep _ _ _ st2 λb hb o e=>k4 b o (k3 b o e)
 generalize hC:s3.heap.objs.size=C at *
 have stat:∀{H':Hp},(∀b∈fp,H' b=none)->∀b∈fp,zcT (zk X N' scope cl C s3 (upd H2 l (.dK [])) fp) [] H' b:=λ{H'} hn b hb=>
  ⟨hn b hb,(J0.ok.exf b hb).1,J0.ok.exfs b hb, .inl hb,(J0.ok.exf b hb).2,λp hp=>absurd (show p∈([]:List (Addr×Obj))from hp) (by simp)⟩
 have loop:codeAny (model X.prog X.w) X.A (.compLoop (.DictComp kx vx [⟨tg,iter,ifs,0⟩] scope pos) 0 (.ref it) (.ref l) (compEnvC scope cl C X.env))
  (compPost (model X.prog X.w) X.A X.xe none (EP X pins σ Q) (.ref l) C) {s3 with heap:=h₁,toks:=s3.toks+([]:List (Str×Value)).length}:=by
  refine zoz (λn s'=>∃i ys σ' H',Inv (zk X N' scope cl C s3 (upd H2 l (.dK [])) fp) [] σ' H' s'/\tn i s'.heap/\(∀b∈fp,H' b=none)/\H' l=some (.dK ys)/\W i n ys σ' H') ?_ m0
   ⟨0,[],_,_,J0,st4,λb hb=>(f3 b hb).1,zb,w0⟩
  rintro n s5 ⟨i,ys,σ5,H5,I5,st5,fr5,hl5,w5⟩
  rcases turn i n ys σ5 H5 w5 hl5 with⟨stop,qn⟩|⟨go,N,hN,step⟩
  ·refine thn (T.done (zk X N' scope cl C s3 (upd H2 l (.dK [])) fp) rfl rfl rfl hc i [] s5 σ5 H5 (λ_ _=>False) I5 (stat fr5) st5 stop) λr s6 ⟨hr,I6⟩=>?_
   subst hr
   obtain⟨m,hn,_⟩:=I6.loc
   exact⟨m,hn,λh' hsb=>⟨.ref l,H5,zcw I3 f3 (by rw[←hC];exact ζt _) I6 hsb,rfl,qn⟩⟩
  ·refine thn (T.item (zk X N' scope cl C s3 (upd H2 l (.dK [])) fp) rfl rfl rfl hc i [] s5 σ5 H5 (λ_ _=>False) I5 (stat fr5) st5 go) λr s6 ⟨u,hr,h6⟩=>?_
   subst hr
   refine thn h6 λ_ s7 ⟨x,H7,I7,r7,y7,st7,fr7⟩=>?_
   have I7':=I7.pinned (stat fr7) (T.obj _ _ st7)
   refine thn (hg cl C s3 _ fp _ s7 σ5 H7 x u _ I7' r7 (step x H7 y7)) λ_ s8 ⟨σ8,H8,I8,q8⟩=>?_
   refine thn (ht cl C s3 _ fp _ s8 σ8 H8 _ I8 q8) λb s9 ⟨H9,I9,q9⟩=>?_
   have back:∀{s':Shared} {H':Hp},Inv (zk X N' scope cl C s3 (upd H2 l (.dK [])) fp) ([]++zbM fp s7.heap) σ8 H' s'->tn (i+1) s'.heap/\∀b∈fp,H' b=none:=λ{s' H'} I'=>by
    refine⟨T.keep _ _ _ st7 λb hb o e=>(I'.pin (b,o) (ξl _ (ξl _ (zX hb e)))).1,λb hb=>?_⟩
    obtain⟨o,e,d⟩:=T.obj _ _ st7 b hb
    exact(I'.pin (b,o) (ξl _ (ξl _ (zX hb e)))).2.1
   cases b with
   |false=>
    obtain⟨hl9,n9⟩:=q9
    obtain⟨m',hm,w9⟩:=hN _ _ _ n9
    obtain⟨t9,fr9⟩:=back I9
    exact⟨m',hm,i+1,ys,σ8,H9,I9.unpinned,t9,fr9,hl9,w9⟩
   |true=>
    refine thn (hk2 cl C s3 _ fp _ s9 σ8 H9 _ I9 q9) λkv2 s10 ⟨k',H10,I10,rk10,q10⟩=>thn (hv2 cl C s3 _ fp _ s10 σ8 H10 _ I10 q10) λxv2 s11 ⟨y',H11,I11,r11,k'',ek,hl11,hz,n11⟩=>?_
    subst ek
    obtain⟨m',hm,w11⟩:=hN _ _ _ n11
    obtain⟨z,hd,vs,rel,dd⟩:=zgl I11.hok hl11
    have hz2:vs.length<=sizeLine:=by rw[←rel.length];exact z
    have hl2':(zb7 ys k'' y').length<=sizeLine:=by have:=zdc ys k'' y';omega
    refine wpAny_dictSet_pairs (zh3 rk10) dd (λh' dd' hs=>?_) hz2
    have he:∃q,h'.get? l=some q:=let⟨q,_,_,hq,_⟩:=dd';⟨q,hq⟩
    have I12:=zdY (t':=s11.toks+1) I11 (by rw[hl11];exact True.intro) hs he (zhv hl2' hd (rel.put k'' r11) dd')
    obtain⟨t12,fr12⟩:=back I12
    exact⟨m',hm,i+1,zb7 ys k'' y',σ8,_,I12.unpinned,t12,fr12,zb,w11⟩
 exact codeAny_compStart_dict loop (T.self _ 0 _ _ _ st4 loop)
theorem zmS(ok:CompOk X.N osc N' src scope)(hsc:X.env.scope=osc)(hc:X.calm=true)(hi:QI X tg iter wi)
 (hg:∀cl C s₀ H₀ fp,QG (zk X N' scope cl C s₀ H₀ fp) tg g) (ht:∀cl C s₀ H₀ fp,QF (zk X N' scope cl C s₀ H₀ fp) ifs tc) (hk2:∀cl C s₀ H₀ fp,QE (zk X N' scope cl C s₀ H₀ fp) kx tk) (hv2:∀cl C s₀ H₀ fp,QE (zk X N' scope cl C s₀ H₀ fp) vx tv)
 (hs:∀x,foldedSetIterable iter X.env x=pure x:=by intro _;rfl):QE X (.DictComp kx vx [⟨tg,iter,ifs,0⟩] scope pos) (zj2 wi g tc tk tv src):=
 ⟨zkK ok hsc hc hi.o (λcl C s₀ H₀ fp=>(hg cl C s₀ H₀ fp).o) (λcl C s₀ H₀ fp=>(ht cl C s₀ H₀ fp).o) (λcl C s₀ H₀ fp=>(hk2 cl C s₀ H₀ fp).o) (λcl C s₀ H₀ fp=>(hv2 cl C s₀ H₀ fp).o) hs⟩
end
theorem zlq{J:It}{n:Nat}{P:Nat->V->Prop}{ok:Hp->Prop}{g:TG}{tc:TT}{tk tv:TE}{src:List (Option Nat)}{σ:St}{H1:Hp}{Q:VK}(wk:Wk J n P ok)(Pv:Addr->Nat->List (Key×V)->St->Hp->Prop)
 (h0:∀l,H1 l=none->Pv l 0 [] (zeI src σ) (upd H1 l (.dK []))) (hok:∀l i ys σ H,H1 l=none->Pv l i ys σ H->ok H)
 (hs:∀l i x ys σ H,H1 l=none->i<n->P i x->Pv l i ys σ H->H l=some (.dK ys)->g x σ H λσ2 H3=>tc σ2 H3 λb H4=>
   if b=true then tk σ2 H4 λk H5=>tv σ2 H5 λy H6=>∃k',k=kV k'/\H6 l=some (.dK ys)/\ys.length<sizeLine/\Pv l (i+1) (zb7 ys k' y) σ2 (upd H6 l (.dK (zb7 ys k' y)))else H4 l=some (.dK ys)/\Pv l (i+1) ys σ2 H4)
 (hd:∀l ys σ H,H1 l=none->Pv l n ys σ H->H l=some (.dK ys)->Q (.ref l) H):zhE g tc tk tv src σ Q J H1:=by
 intro l hl
 refine⟨λi m ys σ H=>m=n -i/\i<=n/\Pv l i ys σ H,⟨n,by simp,ξi _,h0 l hl⟩,?_⟩
 rintro i m ys σ H ⟨rfl,hi,p⟩ e
 by_cases hlt:i<n
 ·refine .inr ⟨wk.go i H (hok l i ys σ H hl p) hlt,Pv l (i+1),λzs σ' H' q=>⟨n -(i+1),by omega,rfl,hlt,q⟩,λx H' y=>?_⟩
  obtain⟨rfl,px⟩:=wk.yld i H x H' (hok l i ys σ H hl p) hlt y
  exact hs l i x ys σ _ hl hlt px p e
 ·have ei:i=n:=by omega
  subst ei
  exact .inl ⟨wk.stop i H (hok l i ys σ H hl p) (ζt _),hd l ys σ H hl p e⟩
end L2
namespace HT
open PySem PySem.Spec PyProof.Rows L2
section
variable{prog:Program}{w:World}{A:Around}{E:Value->Shared->Prop}{s:Shared}{it d:Addr}{i ep:Nat}{ps:List (Value×Value)}
end
end HT
namespace L2
open PySem PySem.Spec PyProof.Rows
end L2
namespace HT
open PySem PySem.Spec PyProof.Rows L2
theorem zfj:typeLookup (.type "list") "keys"=pure none:=by rw[typeLookup_type,builtinLookup_eq_fast];kernel_rfl
section
variable{prog:Program}{w:World}{A:Around}{E:Value->Shared->Prop}{s:Shared}
theorem zf4{a:Addr}{xs:Array Value}{n:Nat}{Q:Option Value->Shared->Prop}(hx:s.heap.get? a=some {cls:= .type "list",dict:=none,data:= .seq xs n,slots:= #[]})(hA:A.handled=none)
 (h:∀h' tk,(∀b o,s.heap.get? b=some o->h'.get? b=some o)->Q none {s with heap:=h',toks:=tk}):
 wpAny (model prog w) A (getAttr? (.ref a) "keys") Q E s:=by
 obtain⟨hp,g,d,tk,os⟩:=s
 have hT:∀tk',(⟨hp,g,d,tk',os⟩:Shared).TypeIs (.ref a) "list":=λ_=>⟨_,hx,rfl⟩
 have f1:=sub_AttributeError
 have f3:=F.slot_list_getattribute.lookup
 have f4:=F.slot_list_getattribute.bind (.ref a)
 have f5:=am_list_getattr_none
 unfold getAttr? getAttrBy? getAttrBy
 repeat (any_goals (first|assumption|exact hT _|((with_reducible show wpAny _ _ (call (Value.builtin "list.__getattribute__") _ _) _ _ _);refine call_meets F.slot_list_getattribute (hT _) am_entry_list_getattribute (F.args_list_getattribute_2 _ _) (meets_getattribute_miss_list a xs n #[] "keys" _ zfj (by decide +kernel)) ⟨hx,hA,λh' tk' e hx'=>?_⟩)|wp_step))
 obtain⟨t',u',he⟩:=hx'.there
 show wpAny _ _ (getattributeRaised _ _ _ _ _ _ _) _ _ _
 unfold getattributeRaised
 repeat (any_goals (first|assumption|wp_step))
 exact h _ _ hx'.of.keeps
end
section
variable{prog:Program}{w:World}{A:Around}{E:Value->Shared->Prop}{s:Shared}{K:Type}[DecidableEq K]{knd:KeyKind prog w K}
theorem zoh{d T:Addr}{x y:Value}{k:K}{kvs:List (K×Value)}{Q:Unit->Shared->Prop}(hp:IsTup s.heap T #[x,y])(hkey:knd.is k x=true)(hm:s.heap.DictOf knd d kvs)(hsz:kvs.length<=sizeLine)(i:Int)
 (hQ:∀h' tk,h'.DictOf knd d (stored kvs k y)->Heap.SameBut d s.heap h'->Q () {s with heap:=h',toks:=tk}):
 wpAny (model prog w) A (do
  let pair ←(Builtin.Dict.pairItems (.ref T)).tryCatch λe=>do
   if !(←isInstance e (.type "TypeError"))then throw e
   rule "dict.update.element-no-sequence"
   raiseError "TypeError" s!"cannot convert dictionary update sequence element #{i} to a sequence"
  match pair with
  |[k,v]=>holding [k,v] (dictSet d k v)
  |l=>
   rule "dict.update.element-length"
   raiseError "ValueError" s!"dictionary update sequence element #{i} has length {l.length}; 2 is required") Q E s:=by
 obtain⟨o,ho,hc,n,hd⟩:=hp
 have hT:s.TypeIs (.ref T) "tuple":=⟨_,ho,hc⟩
 refine ζb (wpAny_tryCatch ?_)
 unfold Builtin.Dict.pairItems
 refine ζb (wpAny_typeOf hT ?_)
 show wpAny _ _ (do let a ←seqItems? (.ref T);pure (Option.getD a #[]).toList) _ _ _
 refine ζb (wpAny_seqItems ho hd (ζr ?_))
 show wpAny _ _ (holding [x,y] (dictSet d x y)) _ _ _
 exact ψd (wpAny_dictSet_pairs hkey hm (λh' hd hs=>hQ h' _ hd hs) hsz)
theorem znT{I:Addr}{fp wr:List Addr}{n:Nat}{P:Nat->Value->Prop}{St:Nat->Heap->Prop}{R:Result->Shared->Prop}(W:Walks prog w A.in1 I fp wr n P St)(d:Addr)(hdf:d∉fp)(hsz:n<=sizeLine)
 {T:Nat->Addr} {xv yv:Nat->Value} {ks:Nat->K} (hval:∀(i:Nat) (v:Value),P i v->v=Value.ref (T i)) (hk:∀i<n,knd.is (ks i) (xv i)=true) (nd:((List.range n).map ks).Nodup) (hT:∀i<n,T i∉wr/\T i≠d):
 ∀(m i:Nat) (s:Shared),i+m=n->St i s.heap->s.heap.DictOf knd d (dzAt ks yv i)->(∀j<n,IsTup s.heap (T j) #[xv j,yv j])->
  (∀h' tk,(∀b o,b∉wr->b≠d->s.heap.get? b=some o->h'.get? b=some o)->h'.DictOf knd d (dzAt ks yv n)->R (.ok (.ret .none)) {s with heap:=h',toks:=tk})->
  codeAny (model prog w) A (.builtin "dict.update.loop" ⟨[.ref d, .ref I,rawInt i, .none],[]⟩) R s:=by
 have hdw:d∉wr:=λh=>hdf (W.sub _ h)
 intro m
 induction m with
 |zero=>
  intro i s him hst hd htu hR
  have ei:i=n:=by omega
  subst ei
  refine codeAny_builtin zcc ?_
  rw[Around.under_plainId zaD _]
  show wpAny _ _ (pyNext (.ref I)>>=_) _ _ _
  refine ζb (W.done s _ _ hst λh' tk hk'=>?_)
  refine ζr (hR h' tk (λb o b1 _ e=>hk' b o b1 e) ?_)
  obtain⟨o',es,ep,hg,r⟩:=hd
  exact⟨o',es,ep,hk' _ _ hdw hg,r⟩
 |succ m ih=>
  intro i s him hst hd htu hR
  have hin:i<n:=by omega
  refine codeAny_builtin zcc ?_
  rw[Around.under_plainId zaD _]
  show wpAny _ _ (pyNext (.ref I)>>=_) _ _ _
  refine ζb (W.item i s _ _ hin hst λv h1 tk1 hP hst' hk'=>?_)
  have ev:=hval i v hP
  subst ev
  have hd1:h1.DictOf knd d (dzAt ks yv i):=by obtain⟨o',es,ep,hg,r⟩:=hd;exact⟨o',es,ep,hk' _ _ hdw hg,r⟩
  have htu1:∀j<n,IsTup h1 (T j) #[xv j,yv j]:=λj hj=>by obtain⟨o',hg,r⟩:=htu j hj;exact⟨o',hk' _ _ (hT j hj).1 hg,r⟩
  have hl:(dzAt ks yv i).length<=sizeLine:=by unfold dzAt;rw[ζa,List.length_range];omega
  refine ζb (ψd (zoh (s:={s with heap:=h1,toks:=tk1}) (htu1 i hin) (hk i hin) hd1 hl _ λh2 tk2 hd2 hs2=>?_))
  rw[zkI hin nd] at hd2
  refine ζr ⟨plainId_quiet zaD _,?_⟩
  have e:(rawInt ((i:Int)+1))=rawInt ((i+1:Nat):Int):=by rw[show((i:Int)+1)=((i+1:Nat):Int) by omega]
  show codeAny _ A (.builtin "dict.update.loop" ⟨[.ref d, .ref I,rawInt ((i:Int)+1), .none],[]⟩) R {s with heap:=h2,toks:=tk2}
  rw[e]
  refine ih (i+1) {s with heap:=h2,toks:=tk2} (by omega) (W.frame _ _ _ hst' λb hb o e=>hs2.extBut _ _ (λz=>hdf (by rw[←z];exact hb)) e) hd2 (λj hj=>?_) λh3 tk3 k3 d3=>hR h3 tk3 (λb o b1 b2 e=>k3 b o b1 b2 (hs2.extBut _ _ b2 (hk' b o b1 e))) d3
  obtain⟨o',hg,r⟩:=htu1 j hj
  exact⟨o',hs2.extBut _ _ (hT j hj).2 hg,r⟩
theorem call_dict_list{l:Addr}{items:Array Value}{n:Nat}{T:Nat->Addr}{xv yv:Nat->Value}{ks:Nat->K}{Q:Value->Shared->Prop}(hA:A.handled=none)(hl:s.heap.get? l=some {cls:= .type "list",dict:=none,data:= .seq items n,slots:= #[]})(hsz:items.size<=sizeLine)
 (hval:∀(i:Nat) (v:Value),items[i]?=some v->v=Value.ref (T i)) (hk:∀i<items.size,knd.is (ks i) (xv i)=true) (nd:((List.range items.size).map ks).Nodup) (htu:∀j<items.size,IsTup s.heap (T j) #[xv j,yv j])
 (h:∀h' tk,h'.DictOf knd s.heap.objs.size (dzAt ks yv items.size)->(∀c o,s.heap.get? c=some o->h'.get? c=some o)->Q (.ref s.heap.objs.size) {s with heap:=h',toks:=tk}):
 wpAny (model prog w) A (call (.type "dict") [.ref l]) Q E s:=by
 refine callType_codes (Q₁:=λobj s₁=>obj= .ref s.heap.objs.size/\s₁={s with heap:=s.heap.push {cls:= .type "dict",data:= .dict #[]}}) F.kt_called_dict (F.kt_typeCall_dict_1 _) F.entry_dict_init (kt_code_dict_new _ ⟨rfl,rfl⟩) ?_
 rintro obj s₁ ⟨rfl,rfl⟩
 have hnew:(s.heap.push {cls:= .type "dict",data:= .dict #[]}).DictOf knd s.heap.objs.size []:=Heap.DictOf.new s.heap
 have pu:∀c o,s.heap.get? c=some o->(s.heap.push {cls:= .type "dict",data:= .dict #[]}).get? c=some o:=λc o e=>ζc _ e
 have lt:∀{c o},s.heap.get? c=some o->c<s.heap.objs.size:=λe=>ζm e
 have hl':=pu _ _ hl
 have hTl:({s with heap:=s.heap.push {cls:= .type "dict",data:= .dict #[]}}:Shared).TypeIs (.ref l) "list":=⟨_,hl',rfl⟩
 refine⟨hnew.typeIs,F.args_dict_init_2 _ _,?_⟩
 unfold Builtin.«dict.__init__»
 refine ζb ?_
 unfold Builtin.Dict.selfAndRest
 refine ζb (wpAny_notOrdered_dict hnew.typeIs ?_)
 show wpAny _ _ (pure (s.heap.objs.size,[Value.ref l])) _ _ _
 refine ζr ?_
 show wpAny _ _ (Builtin.Dict.updateFrom "dict.__init__" s.heap.objs.size (.ref l) [] .none) _ _ _
 unfold Builtin.Dict.updateFrom
 refine ζb (wpAny_typeOf hTl ?_)
 rw[if_pos (by decide)]
 refine ζb (zf4 (A:=A.in1.in1) hl' hA λh' tk hk'=>?_)
 simp only[Option.isNone_none,if_true]
 refine ζb (wpAny_rule ?_)
 have kk:∀c o,s.heap.get? c=some o->h'.get? c=some o:=λc o e=>hk' _ _ (pu _ _ e)
 have hlL:h'.IsList l items:=⟨_,kk _ _ hl,rfl,n,rfl⟩
 refine ζb (wpAny_pyIter_list hlL ?_)
 refine ζr ⟨plainId_quiet zaD _,?_⟩
 have hd':h'.get? s.heap.objs.size=some {cls:= .type "dict",data:= .dict #[]}:=hk' _ _ (ζj _ rfl)
 have dlt:s.heap.objs.size<h'.objs.size:=ζm hd'
 have llt:l<h'.objs.size:=ζm (kk _ _ hl)
 show codeAny (model prog w) A.in1 (.builtin "dict.update.loop" ⟨[.ref s.heap.objs.size, .ref h'.objs.size,rawInt ((0:Nat):Int), .none],[]⟩) (wants (λr s₂=>r=Value.none/\Q (.ref s.heap.objs.size) s₂) E) {s with heap:=h'.push {cls:= .type "list_iterator",data:= .fields #[.ref l, .int 0 0]},toks:=tk}
 refine znT (Walks.list (A:=A.in1.in1) (show A.in1.in1.handled=none from hA) h'.objs.size l (ξj llt) items) s.heap.objs.size ?_ hsz (T:=T) (xv:=xv) hval hk nd (λi hi=>?_) items.size 0 {s with heap:=h'.push {cls:= .type "list_iterator",data:= .fields #[.ref l, .int 0 0]},toks:=tk} (Nat.zero_add _) ⟨⟨_,ζj _ rfl,rfl,rfl⟩,hlL.push _⟩ ?_ (λj hj=>?_) λh3 tk3 k3 d3=>⟨rfl,h h3 tk3 d3 λc o e=>?_⟩
 ·simp only[List.mem_cons,ψb,or_false,not_or]
  exact⟨ξj dlt,Nat.ne_of_gt (lt hl)⟩
 ·obtain ⟨o',hg,_⟩:=htu i hi
  refine⟨λz=>?_,ξj (lt hg)⟩
  have:T i=h'.objs.size:=by simpa using z
  exact absurd (ζm (kk _ _ hg)) (by rw[this];exact Nat.lt_irrefl _)
 ·obtain ⟨o',es,ep,hg,r⟩:=hnew
  exact⟨o',es,ep,ζc _ (hk' _ _ hg),r⟩
 ·obtain ⟨o',hg,r⟩:=htu j hj
  exact⟨o',ζc _ (kk _ _ hg),r⟩
 ·refine k3 c o (λz=>?_) (ξj (lt e)) (ζc _ (kk _ _ e))
  have:c=h'.objs.size:=by simpa using z
  exact absurd (ζm (kk _ _ e)) (by rw[this];exact Nat.lt_irrefl _)
end
end HT
namespace L2
open PySem PySem.Spec PyProof.Rows
section
variable{X:Cx}
inductive TwosAt(H:Hp):List Addr->List Str->List V->Prop
 |nil:TwosAt H [] [] []
 |cons {t:Addr} {x:Str} {y:V} {ts:List Addr} {hs:List Str} {ys:List V}:H t=some (.tup [.str x,y])->TwosAt H ts hs ys->TwosAt H (t::ts) (x::hs) (y::ys)
theorem TwosAt.len{H:Hp}{ts:List Addr}{hs:List Str}{ys:List V}(p:TwosAt H ts hs ys):ts.length=hs.length/\ys.length=hs.length:=by
 induction p with
 |nil=>exact ⟨rfl,rfl⟩
 |cons _ _ ih=>exact ⟨congrArg (·+1) ih.1,congrArg (·+1) ih.2⟩
theorem TwosAt.mono{H H':Hp}{ts:List Addr}{hs:List Str}{ys:List V}(p:TwosAt H ts hs ys)(h:∀a xs,H a=some (.tup xs)->H' a=some (.tup xs)):TwosAt H' ts hs ys:=by
 induction p with
 |nil=>exact .nil
 |cons e _ ih=>exact .cons (h _ _ e) ih
theorem TwosAt.snoc{H:Hp}{ts:List Addr}{hs:List Str}{ys:List V}{t:Addr}{x:Str}{y:V}(p:TwosAt H ts hs ys)(e:H t=some (.tup [.str x,y])):TwosAt H (ts ++ [t]) (hs ++ [x]) (ys ++ [y]):=by
 induction p with
 |nil=>exact .cons e .nil
 |cons e' _ ih=>exact .cons e' ih
theorem TwosAt.raw{P:Program}{w:World}{H:Hp}{h:Heap}(ok:HOk P w H h){ts:List Addr}{hs:List Str}{ys:List V}(p:TwosAt H ts hs ys):
 ∃xv yv:List Value,xv.length=hs.length/\Vals ys yv/\(∀j x,hs[j]?=some x->∃t,xv.getD j .none= .str x t)/\∀j T,ts[j]?=some T->IsTup h T #[xv.getD j .none,yv.getD j .none]:=by
 induction p with
 |nil=>exact ⟨[],[],rfl, .nil,λ_ _ e=>(by simp at e),λ_ _ e=>(by simp at e)⟩
 | @cons t x y ts hs ys e p ih=>
   obtain⟨xv,yv,e1,e2,e3,e4⟩:=ih
   obtain⟨_,its,rv,it,_⟩:=ok t _ e
   obtain⟨u,v,rfl,ru,rv2⟩:=zkf rv
   obtain⟨tt,rfl⟩:=ru
   refine⟨.str x tt::xv,v::yv,congrArg (·+1) e1, .cons rv2 e2,λj z ez=>?_,λj T eT=>?_⟩
   ·cases j with
    |zero=>simp at ez;subst ez;exact⟨tt,rfl⟩
    |succ j=>rw[List.getElem?_cons_succ] at ez;simpa using e3 j z ez
   ·cases j with
    |zero=>simp at eT;subst eT;exact it
    |succ j=>rw[List.getElem?_cons_succ] at eT;simpa using e4 j T eT
theorem zgM{ts:List Addr}:∀{its:List Value},Vals (ts.map V.ref) its->its=ts.map Value.ref:=by
 induction ts with
 |nil=>intro its r;cases r;rfl
 |cons t ts ih=>intro its r;cases r with
  |cons a b=>rw[ih b];cases a;rfl
theorem zju(hc:X.calm=true):CallR X (.type "dict") (λxs H Q=>∃(l:Addr) (ts:List Addr) (hs:List Str) (ys:List V),xs=[.ref l]/\H l=some (.lst (ts.map V.ref))/\TwosAt H ts hs ys/\hs.length<=1000/\hs.Nodup/\∀p,H p=none->Q (.ref p) (upd H p (.dK (zce hs ys)))):=by
 intro pins s σ H xs us Q I r h
 obtain⟨l,ts,hs,ys,rfl,hH,pa,h9,nd,q⟩:=h
 obtain⟨u,rfl,ru⟩:=zbG r
 cases ru
 obtain⟨z,its,n,rv,ho⟩:=I.hok l _ hH
 have ei:=zgM rv
 subst ei
 obtain⟨xv,yv,e1,e2,e3,e4⟩:=pa.raw I.hok
 obtain⟨lt,ly⟩:=pa.len
 have el:(ts.map Value.ref).toArray.size=hs.length:=by simp[lt]
 refine HT.call_dict_list (knd:=zai X.prog X.w) (T:=λi=>ts.getD i 0) (xv:=λi=>xv.getD i .none) (yv:=λi=>yv.getD i .none) (ks:=λk=>(Sum.inr (hs.getD k ""):Key)) (I.ok.hd hc) ho (by rw[el];exact ξa h9 (by decide)) (λi v ev=>?_) (λi hi=>?_) ?_ (λj hj=>?_) λh' tk hd kk=>?_
 ·rw[List.getElem?_toArray,ζp] at ev
  cases ht:ts[i]? with
  |none=>rw[ht] at ev;cases ev
  |some t=>rw[ht] at ev;cases ev;simp[List.getD,ht]
 ·rw[el] at hi
  obtain⟨t,et⟩:=e3 i hs[i] (ζd hi)
  show(zai X.prog X.w).is (Sum.inr (hs.getD i "")) (xv.getD i .none)=true
  rw[et]
  have:hs.getD i ""=hs[i]:=by simp[List.getD,hi]
  rw[this]
  exact zeV _ _ _ _
 ·rw[el,znK]
  exact List.pairwise_map.mpr (nd.imp λh e=>h (Sum.inr.inj e))
 ·rw[el,←lt] at hj
  refine e4 j _ ?_
  simp[List.getD,hj]
 ·rw[el] at hd
  have hf:H s.heap.objs.size=none:=I.hok.fresh (ζt _)
  refine⟨.ref s.heap.objs.size,_,I.laid (t':=tk) kk (ζt _) (zhv ?_ ?_ (zqc ly e2) hd),rfl,q _ hf⟩
  ·unfold zce;rw[ζa,List.length_zip];exact ξa (Nat.min_le_left _ _) (ξa h9 (by decide))
  ·exact beq_eq_false_iff_ne.mpr (Ne.symm (ξj I.big))
end
end L2
namespace L2
open PySem PySem.Spec PySem.W PyProof.Rows
section
variable{X:Cx}{K:ξk}
end
end L2
namespace L2
open PySem PySem.W PySem.Spec PyProof.Rows RW
noncomputable abbrev Ky:=Int×Int×List Str
theorem zig{a b:Ky}(h:a≠b)(e:ltK a b=false):ltK b a=true:=by
 obtain⟨i,n,ps⟩:=a
 obtain⟨j,m,qs⟩:=b
 unfold ltK at *
 simp only at *
 by_cases h1:i=j
 ·by_cases h2:n=m
  ·subst h1 h2
   rw[if_pos rfl,if_pos rfl] at e⊢
   exact zfI (λz=>h (by rw[z])) e
  ·rw[if_pos h1,if_neg h2] at e
   rw[if_pos h1.symm,if_neg (Ne.symm h2)]
   simp at e⊢;omega
 ·rw[if_neg h1] at e
  rw[if_neg (Ne.symm h1)]
  simp at e⊢;omega
noncomputable def zqO(k:Ky):PyData:= .tuple [.int k.1, .int k.2.1, .tuple (zak k.2.2)]
def KeyO(H:Hp)(b:Addr)(k:Ky):Prop:=∃p,H b=some (.tup [.int k.1, .int k.2.1, .ref p])/\H p=some (.tup (k.2.2.map V.str))/\∀y∈k.2.2,PyData.strOk y=true
theorem KeyO.tr{H:Hp}{b:Addr}{k:Ky}(x:KeyO H b k):Tr H (.ref b) (zqO k):=by
 obtain⟨p,e,ep,ok⟩:=x
 refine .tup e rfl λi v d e1 e2=>?_
 match i,e1,e2 with
 |0,e1,e2=>cases e1;cases e2;exact .int _
 |1,e1,e2=>cases e1;cases e2;exact .int _
 |2,e1,e2=>cases e1;cases e2;exact zeH ep ok
structure RawK(h:Heap)(b:Addr)(k:Ky):Prop where
 at_:∃p ti tn jts,IsTup h b #[.int k.1 ti, .int k.2.1 tn, .ref p]/\Vals (k.2.2.map V.str) jts/\IsTup h p jts.toArray/\(∃as,Reads h (.ref p) (.tuple (zak k.2.2)) as)/\(PyData.tuple (zak k.2.2)).canLay0=true
 rd:∃as,Reads h (.ref b) (zqO k) as
 can:(zqO k).canLay0=true
theorem zfv{h h':Heap}{a:Addr}{xs:Array Value}(x:IsTup h a xs)(k:∀b o,h.get? b=some o->h'.get? b=some o):IsTup h' a xs:=let⟨o,g,r⟩:=x;⟨o,k _ _ g,r⟩
theorem KeyO.raw{X:Cx}{pins:List (Addr×Obj)}{σ:L2.St}{H:Hp}{s:Shared}{h':Heap}(I:Inv X pins σ H s){b:Addr}{k:Ky}(x:KeyO H b k)(kp:∀b o,s.heap.get? b=some o->h'.get? b=some o):RawK h' b k:=by
 have t:=x.tr
 obtain⟨p,e,ep,ok⟩:=x
 obtain⟨its,r1,t1,_⟩:=I.tuple (SqT.of e)
 obtain⟨jts,s1,u1,_⟩:=I.tuple (SqT.of ep)
 obtain⟨_,_,_,rfl,x1,x2,x3⟩:=zq3 r1
 obtain⟨ti,rfl⟩:=x1
 obtain⟨tn,rfl⟩:=x2
 cases x3
 obtain⟨as,rd1⟩:=(zeH ep ok).reads I (.ref p) rfl
 obtain⟨bs,rd2⟩:=t.reads I (.ref b) rfl
 exact⟨⟨p,ti,tn,jts,zfv t1 kp,s1,zfv u1 kp,⟨as,Reads.keeps kp rd1⟩,(zeH ep ok).can⟩,⟨bs,Reads.keeps kp rd2⟩,t.can⟩
section
variable{prog:Program}{w:World}{A:Around}{E:Value->Shared->Prop}{s:Shared}
theorem zoW{a b:Addr}{k1 k2:Ky}{Q:Value->Shared->Prop}(hu:A.units+63<cLine)(x:RawK s.heap a k1)(y:RawK s.heap b k2)(q:Q (.bool (ltK k1 k2)) s):wpAny (model prog w) A (richCompare .Lt (.ref a) (.ref b)) Q E s:=by
 obtain⟨i1,n1,ps⟩:=k1
 obtain⟨i2,n2,qs⟩:=k2
 obtain⟨p,ti1,tn1,jts,t1,s1,u1,⟨as,rd1⟩,c1⟩:=x.at_
 obtain⟨p2,ti2,tn2,jts2,t2,s2,u2,⟨bs,rd2⟩,c2⟩:=y.at_
 obtain⟨⟨c1',d1,e1,f1⟩,ho,hc,m1,hd⟩:=id t1
 obtain⟨⟨c2',d2,e2,f2⟩,ho2,hc2,m2,hd2⟩:=id t2
 simp only at hc hd hc2 hd2
 subst hc hd hc2 hd2
 have mk:∀(k:Nat) (res:Bool),k<=3->ltK (i1,n1,ps) (i2,n2,qs)=res->
  (∀prog w i x y,i<k->([.int i1 ti1, .int n1 tn1, .ref p]:List Value)[i]?=some x->([.int i2 ti2, .int n2 tn2, .ref p2]:List Value)[i]?=some y->∀(E:Value->Shared->Prop) (Q:Bool->Shared->Prop),Q true s->wpAny (model prog w) A.in1 (eqBool x y) Q E s)->
  ((k=3/\res=false)\/∃x y,([.int i1 ti1, .int n1 tn1, .ref p]:List Value)[k]?=some x/\([.int i2 ti2, .int n2 tn2, .ref p2]:List Value)[k]?=some y/\(∀prog w (E:Value->Shared->Prop) (Q:Bool->Shared->Prop),Q false s->wpAny (model prog w) A.in1 (eqBool x y) Q E s)/\∀prog w (E:Value->Shared->Prop) (Q:Value->Shared->Prop),Q (.bool res) s->wpAny (model prog w) A.in1 (richCompare .Lt x y) Q E s)->
  wpAny (model prog w) A (richCompare .Lt (.ref a) (.ref b)) Q E s:=by
  intro k res hk3 er he hk
  refine richCompare_meets_room (op:= .Lt) ⟨_,ho,rfl⟩ ⟨_,ho2,rfl⟩ PySem.F.slot_tuple_lt PySem.F.entry_tuple_lt (PySem.F.args_tuple_lt_2 _ _) (zea a b m1 m2 d1 d2 f1 f2 [.int i1 ti1, .int n1 tn1, .ref p] [.int i2 ti2, .int n2 tn2, .ref p2] k res) ⟨ho,ho2,he,hk3,hk3,?_,⟨(λx=>nomatch x),by rw[er] at q;exact q⟩⟩ (by omega)
  rcases hk with⟨h1,h2⟩|h
  ·exact .inl ⟨h1,by rw[h2];rfl⟩
  ·exact .inr h
 have intE:∀{i j:Int} {t t':Tok} {b:Bool} (e:(i==j)=b) (prog:Program) (w:World) (E:Value->Shared->Prop) (Q:Bool->Shared->Prop),Q b s->wpAny (model prog w) A.in1 (eqBool (.int i t) (.int j t')) Q E s:=λe prog w E Q hq=>wpAny_eqBool_int (by rw[e];exact hq)
 have tupE:∀{b:Bool} (e:decide (ps=qs)=b) (prog:Program) (w:World) (E:Value->Shared->Prop) (Q:Bool->Shared->Prop),Q b s->wpAny (model prog w) A.in1 (eqBool (.ref p) (.ref p2)) Q E s:=λ{b} e prog w E Q hq=>SeqAt.eqAt_reads _ _ A.in1 s _ _ _ _ rd1 rd2 c1 c2 (by
  have:=ξa (Nat.min_le_left (PyData.tuple (zak ps)).depth (PyData.tuple (zak qs)).depth) zde
  show A.units+1+_<cLine
  simp only at *
  omega) prog w E Q (by rw[strs_eqvT,e];exact hq)
 by_cases hi:i1=i2
 ·by_cases hn:n1=n2
  ·by_cases hq:ps=qs
   ·refine mk 3 false (ζt _) (by unfold ltK;rw[if_pos hi,if_pos hn];subst hq;exact zg4 _) (λprog w i x y h3 hx hy E Q hQ=>?_) (.inl ⟨rfl,rfl⟩)
    match i,h3,hx,hy with
    |0,_,hx,hy=>cases hx;cases hy;exact intE (by simp[hi]) prog w E Q hQ
    |1,_,hx,hy=>cases hx;cases hy;exact intE (by simp[hn]) prog w E Q hQ
    |2,_,hx,hy=>cases hx;cases hy;exact tupE (ζf hq) prog w E Q hQ
   ·refine mk 2 (ltL ps qs) (by omega) (by unfold ltK;rw[if_pos hi,if_pos hn]) (λprog w i x y h3 hx hy E Q hQ=>?_) (.inr ⟨_,_,rfl,rfl,tupE (ζn hq),λprog w E Q hQ=>zmT s1 s2 u1 u2 (by show A.units+1<cLine;omega) hQ⟩)
    match i,h3,hx,hy with
    |0,_,hx,hy=>cases hx;cases hy;exact intE (by simp[hi]) prog w E Q hQ
    |1,_,hx,hy=>cases hx;cases hy;exact intE (by simp[hn]) prog w E Q hQ
  ·refine mk 1 (decide (n1<n2)) (by omega) (by unfold ltK;rw[if_pos hi,if_neg hn]) (λprog w i x y h3 hx hy E Q hQ=>?_) (.inr ⟨_,_,rfl,rfl,intE (by simp[hn]),λprog w E Q hQ=>(PyProof.Rows.lt_int hQ:wpAny (model prog w) A.in1 (compareOp .Lt (.int n1 tn1) (.int n2 tn2)) Q E s)⟩)
   match i,h3,hx,hy with
   |0,_,hx,hy=>cases hx;cases hy;exact intE (by simp[hi]) prog w E Q hQ
 ·exact mk 0 (decide (i1<i2)) (by omega) (by unfold ltK;rw[if_neg hi]) (λprog w i x y h3 hx hy E Q hQ=>absurd h3 (Nat.not_lt_zero _)) (.inr ⟨_,_,rfl,rfl,intE (by simp[hi]),λprog w E Q hQ=>(PyProof.Rows.lt_int hQ:wpAny (model prog w) A.in1 (compareOp .Lt (.int i1 ti1) (.int i2 ti2)) Q E s)⟩)
end
section
variable{X:Cx}{K:ξk}
end
section
variable{X:Cx}{K:ξk}
end
end L2
namespace L2
open PySem PySem.Spec PyProof.Rows
section
variable{X:Cx}
theorem zkL:MtR X "dict.clear" (λx vs H Q=>∃a kvs,x= .ref a/\vs=[]/\H a=some (.dK kvs)/\Q .non (upd H a (.dK []))):=by
 intro pins s σ H x vs v us Q I r1 r2 h
 obtain⟨a,kvs,rfl,rfl,e,q⟩:=h
 cases r1
 cases r2
 exact zn6 I e λs' I'=>⟨.non,_,I',rfl,q⟩
end
end L2
namespace RW
open PySem PySem.Spec PyProof.Rows L2
section
variable{α:Type}[DecidableEq α]{mm:α->α->α×α}
structure MM(mm:α->α->α×α):Prop where
 two:∀a b,mm a b=(a,b)\/mm a b=(b,a)
 sym:∀a b,mm a b=mm b a
noncomputable def ed(mm:α->α->α×α):List α->List (α×α)
 |a::b::r=>mm a b::ed mm (b::r)
 |_=> []
end
noncomputable def mmS(x y:Str):Str×Str:=(if ltS y x=true then y else x,if ltS x y=true then y else x)
structure SW(g:Str)(ps:List (Str×Str))(w:List Str):Prop where
 nd:w.Nodup
 last:w.getLast?=some g
 ties:∀p∈ed mmS w,p∈ps
structure WOk(hs w:List Str):Prop where
 ne:1<=w.length
 nd:w.Nodup
 mem:∀y∈w,y∈hs
structure Bf(g:Str)(hs:List Str)(ps:List (Str×Str))(ws:List (List Str))(n:Nat):Prop where
 nd:ws.Nodup
 sw:∀w∈ws,SW g ps w
 root:[g]∈ws
 src:∀y r,y::r∈ws->r≠ []->r∈ws.take n
 cl:∀y x r,x::r∈ws.take n->y∈hs->mmS y x∈ps->y∉x::r->y::x::r∈ws
structure Df(g:Str)(ps:List (Str×Str))(M:List Str->Option (List Str))(L F:List (List Str)):Prop where
 nd:L.Nodup
 fnd:F.Nodup
 fsub:∀w∈F,w∈L
 sw:∀w∈L,SW g ps w/\M w≠none
 root:[g]∈L
 src:∀y r,y::r∈L->r≠ []->r∈L/\r∉F
 cl:∀y x r,x::r∈L->x::r∉F->mmS y x∈ps->y∉x::r->M (y::x::r)≠none->y::x::r∈L
structure DfW(g:Str)(ps:List (Str×Str))(M:List Str->Option (List Str))(x:Str)(r ds:List Str)(L F:List (List Str)):Prop where
 nd:L.Nodup
 fnd:F.Nodup
 fsub:∀w∈F,w∈L
 sw:∀w∈L,SW g ps w/\M w≠none
 root:[g]∈L
 src:∀y q,y::q∈L->q≠ []->q∈L/\q∉F
 me:x::r∈L/\x::r∉F
 kids:∀y,y::x::r∈L->y∈ds
 cl:∀y a q,a::q∈L->a::q∉F->a::q≠x::r->mmS y a∈ps->y∉a::q->M (y::a::q)≠none->y::a::q∈L
 clw:∀y∈ds,y∉x::r->M (y::x::r)≠none->y::x::r∈L
section
variable{g x:Str}{ps:List (Str×Str)}{M:List Str->Option (List Str)}{r ds:List Str}{L F:List (List Str)}
end
end RW
namespace L2
open PySem PySem.Spec PyProof.Rows
section
variable{X:Cx}{pos:Pos}{pins:List (Addr×Obj)}{σ:St}{H:Hp}{s:Shared}
variable{K:ξk}
end
end L2
namespace RW
open PySem PySem.Spec PyProof.Rows L2
section
variable{X:Cx}
inductive ChAt(H:Hp):List (Key×V)->List (Str×Option (List Str))->Prop
 |nil:ChAt H [] []
 |cons {x:Str} {v:V} {o:Option (List Str)} {kvs:List (Key×V)} {cs:List (Str×Option (List Str))}:Told H v o->ChAt H kvs cs->ChAt H ((Sum.inr x,v)::kvs) ((x,o)::cs)
noncomputable def oD:Option (List Str)->PyData
 |none=> .none
 |some w=> .tuple (zak w)
end
end RW
namespace HT
open PySem PySem.Spec PyProof.Rows L2
section
variable{prog:Program}{w:World}{A:Around}{E:Value->Shared->Prop}{s:Shared}
end
section
variable{prog:Program}{w:World}{A:Around}{E:Value->Shared->Prop}{s:Shared}
end
end HT
namespace L2
open PySem PySem.Spec PyProof.Rows
section
variable{X:Cx}{K:ξk}
end
end L2
namespace HT
open PySem PySem.Spec PyProof.Rows L2
structure Zp3(z TI TO i1 i2 i3:Addr):Prop where
 TIz:TI≠z
 TOz:TO≠z
 i1z:i1≠z
 i2z:i2≠z
 i3z:i3≠z
 TITO:TI≠TO
 TIi1:TI≠i1
 TIi2:TI≠i2
 TIi3:TI≠i3
 TOi1:TO≠i1
 TOi2:TO≠i2
 TOi3:TO≠i3
 i12:i1≠i2
 i13:i1≠i3
 i23:i2≠i3
section
variable{prog:Program}{w:World}{A:Around}{E:Value->Shared->Prop}{s:Shared}
end
section
variable{prog:Program}{w:World}{A:Around}{E:Value->Shared->Prop}{s:Shared}
end
end HT
namespace L2
open PySem PySem.Spec PyProof.Rows
section
variable{X:Cx}{K:ξk}
end
section
variable{X:Cx}{tg:Expr}
end
end L2
namespace RW
open PySem PySem.Spec PyProof.Rows L2
structure Pp where
 one:Str
 to:Str
 nr:Int
 way:Option (List Str)
 marks:List Str
structure PpOk(hs:List Str)(ps:List (Str×Str))(p:Pp):Prop where
 one:p.one∈hs
 to:p.to∈hs
 tied:p.to∈ze2 ps p.one
 nr:1<=p.nr
 mnm:∀x∈p.marks,zh x=true
 ml:p.marks.length<=90
 non:p.way=none->p.marks=[]
 way:∀w,p.way=some w->1<=w.length/\w.length<=10/\∀x∈w,zh x=true
inductive Ch(hs:List Str)(lks hds:List D):Str->List Str->List Pp->Prop
 |one {to g:Str} {nr:Int} {m:List Str} (h1:1<=nr) (h2:zv [g] (some to) (zK hs hds g) []=some m):Ch hs lks hds to [g] [⟨g,to,nr,some [g],m⟩]
 |more {to y x:Str} {ws:List Str} {nr:Int} {m:List Str} {q:Pp} {P:List Pp} (h:Ch hs lks hds y (x::ws) (q::P)) (h0:zdH (z4 (y::x::ws) q.marks (zK hs lks y))=false) (h1:1<=nr)
   (h2:zv (y::x::ws) (some to) (zK hs hds y) q.marks=some m):Ch hs lks hds to (y::x::ws) (⟨y,to,nr,some (y::x::ws),m⟩::q::P)
section
variable{hs:List Str}{lks hds:List D}{to:Str}{w:List Str}{P:List Pp}
end
end RW
namespace HT
open PySem PySem.Spec PyProof.Rows L2
section
variable{prog:Program}{w:World}{A:Around}{R:Result->Shared->Prop}{I:Addr}{fp wr:List Addr}{n:Nat}{P:Nat->Value->Prop}{St:Nat->Heap->Prop}
end
section
variable{prog:Program}{w:World}{A:Around}{E:Value->Shared->Prop}{s:Shared}
end
end HT
namespace L2
open PySem PySem.W PySem.Spec PyProof.Rows PyProof.V
section
variable{X:Cx}
end
end L2
namespace RW
open PySem PySem.Spec PyProof.Rows L2
theorem zmd{a b:Str}(h1:leS a b=true)(h2:leS b a=true):a=b:=by
 unfold leS at *
 rw[Bool.not_eq_true'] at *
 by_cases e:a=b
 ·exact e
 ·rw[zd5 e h2] at h1;cases h1
theorem zgD:∀{ts:List Str},sortedS ts=true->ts.Pairwise (λa b=>leS a b=true)
 |[],_=> .nil
 |[a],_=>List.pairwise_singleton _ _
 |a::b::ts,h=>by
  have h':(!ltCps b.cps.toList a.cps.toList&&risingS b ts)=true:=h
  rw[ζs] at h'
  have hr:sortedS (b::ts)=true:=h'.2
  have hab:leS a b=true:=by
   have h1:ltS b a=false:=by
    have:=h'.1
    rw[ltCps_eq] at this
    simpa using this
   unfold leS
   rw[h1];rfl
  have ih:=zgD hr
  refine List.pairwise_cons.mpr ⟨λz hz=>?_,ih⟩
  rcases List.mem_cons.mp hz with rfl|hz
  ·exact hab
  ·exact ziR a b z hab ((List.pairwise_cons.mp ih).1 z hz)
theorem zoA{ts l:List Str}(hp:ts.Perm l)(hs:sortedS ts=true):ts=srt l:=
 (hp.trans (zcr l).symm).eq_of_pairwise (λa b _ _ h1 h2=>zmd h1 h2) (zgD hs) (List.pairwise_mergeSort ziR zky l)
noncomputable def zgk:Sp:=λvs H Q _=>∃(pm:Addr) (v:V) (t:List Str) (w m:Str),vs=[.ref pm,v]/\H pm=some (.tup (t.map V.str))/\Rep H v (.tup [.str w, .str m])/\(∀x∈t,zh x=true)/\zh m=true/\t.length<=60/\∀(p:Addr) (H':Hp),H' p=some (.tup ((zd0 t w m).map V.str))->Same H H'->Q (.ref p) H'
def zne(rs:List D):Prop:=rs.length<=90/\∀r∈rs,∃cs x,r= .tup [.tup cs,x]/\(∀c∈cs,zw c=true)/\(x= .tup [.str "keep"]\/∃w m,x= .tup [.str w, .str m]/\(w="put"\/w="strike")/\zh m=true)
structure Mst(rs:List D)(Pr:Nat->List Str->Prop):Prop where
 skip:∀i t,Pr i t->Pr (i+1) t
 next:∀i t w m cs,Pr i t->rs[i]?=some (.tup [.tup cs, .tup [.str w, .str m]])->Pr (i+1) (zd0 t w m)
 ok:∀i t,i<=rs.length->Pr i t->(∀y∈t,zh y=true)/\t.length<=60
noncomputable def zgK:Sp:=λvs H Q _=>∃(v:V) (pw pm:Addr) (vt:V) (x:Str) (ws ms:List Str) (to:Option Str) (g:Str) (hs:List Str) (ps:List (Str×Str)) (lks hds:List D) (j:Nat) (rs:List D) (Pr:Nat->List Str->Prop),vs=[v, .ref pw, .ref pm,vt]/\Rep H v (zaT g hs ps lks hds)/\TownOk g hs ps lks hds/\hs[j]?=some x/\hds[j]?=some (.tup rs)/\zne rs/\Mst rs Pr/\Pr 0 ms/\H pw=some (.tup ((x::ws).map V.str))/\H pm=some (.tup (ms.map V.str))/\TO vt to/\(∀y∈x::ws,zh y=true)/\ws.length<=90/\∀(u:V) (H':Hp),Told H' u (zv (x::ws) to rs ms)->Same H H'->Q u H'
theorem zkW{O:List Str}{rs:List D}(h:zcb O rs)(hn:∀x∈O,zh x=true):zne rs:=⟨h.1,λr hr=>by
 obtain⟨cs,x,e,hc,hx⟩:=h.2 r hr
 exact⟨cs,x,e,hc,hx.imp id λ⟨w,m,e1,hw,hm⟩=>⟨w,m,e1,hw,hn m hm⟩⟩⟩
theorem zqA{O:List Str}{rs:List D}(h:zcb O rs)(hO:O.length<=14)(hn:∀x∈O,zh x=true):Mst rs (λ_ t=>Mk O t) where
 skip:=λ_ _ h=>h
 next:=λi t w m cs M e=>by
  obtain⟨cs',x,e1,_,hx⟩:=h.2 _ (ζk e)
  cases e1
  rcases hx with z|⟨w',m',e2,_,hm⟩
  ·cases z
  ·cases e2;exact M.next hm
 ok:=λi t _ M=>⟨λy hy=>hn y (M.mem y hy),ξa (M.len hO) (by decide)⟩
theorem zi6{vs:List V}{H:Hp}{Q:VK}{E:XK}(h:zdO vs H Q E):zgK vs H Q E:=by
 obtain⟨v,pw,pm,vt,x,ws,ms,to,g,hs,ps,lks,hds,j,rs,O,e,hv,T,hj,hdj,hk,O14,On,M,r⟩:=h
 exact⟨v,pw,pm,vt,x,ws,ms,to,g,hs,ps,lks,hds,j,rs,_,e,hv,T,hj,hdj,zkW hk On,zqA hk O14 On,M,r⟩
section
variable{g:Str}{hs:List Str}{ps:List (Str×Str)}{lks hds:List D}
end
theorem vr{α:Type}{A Q:α->Prop}{v:α}(h:A v)(q:Q v):∃v,A v/\Q v:=⟨v,h,q⟩
theorem ixT{K:ξk}{p:Addr}{xs:List V}{i:Int}{v:V}{H:Hp}{Q:V->Prop}(h:H p=some (.tup xs))(e:atI xs i=some v)(q:Q v):∃p' xs' i' v',V.ref p= .ref p'/\V.int i= .int i'/\SqT K H p' xs'/\atI xs' i'=some v'/\Q v':=⟨p,xs,i,v,rfl,rfl, .inl (.inl h),e,q⟩
theorem ixL{K:ξk}{p:Addr}{xs:List V}{i:Int}{v:V}{H:Hp}{Q:V->Prop}(h:H p=some (.lst xs))(e:atI xs i=some v)(q:Q v):∃p' xs' i' v',V.ref p= .ref p'/\V.int i= .int i'/\SqL K H p' xs'/\atI xs' i'=some v'/\Q v':=⟨p,xs,i,v,rfl,rfl,SqL.of h,e,q⟩
section
variable{α β γ δ ε ζ η θ:Type}
theorem ex2{p:α->β->Prop}(a:α)(b:β)(h:p a b):∃a b,p a b:=⟨a,b,h⟩
theorem ex3{p:α->β->γ->Prop}(a:α)(b:β)(c:γ)(h:p a b c):∃a b c,p a b c:=⟨a,b,c,h⟩
theorem ex4{p:α->β->γ->δ->Prop}(a:α)(b:β)(c:γ)(d:δ)(h:p a b c d):∃a b c d,p a b c d:=⟨a,b,c,d,h⟩
theorem ex8{p:α->β->γ->δ->ε->ζ->η->θ->Prop}(a:α)(b:β)(c:γ)(d:δ)(e:ε)(f:ζ)(g:η)(i:θ)(h:p a b c d e f g i):∃a b c d e f g i,p a b c d e f g i:=⟨a,b,c,d,e,f,g,i,h⟩
end
end RW
namespace L2
open PySem PySem.Spec PyProof.Rows
end L2
namespace L2
open PySem PySem.W PySem.Spec PyProof.Rows
section
variable{prog:Program}{w:World}{A:Around}{E:Value->Shared->Prop}{s:Shared}
end
section
variable{X:Cx}{K:ξk}
end
end L2
namespace HT
open PySem PySem.Spec PyProof.Rows L2
section
variable{prog:Program}{w:World}{A:Around}{R:Result->Shared->Prop}{I:Addr}{fp wr:List Addr}{n:Nat}{P:Nat->Value->Prop}{St:Nat->Heap->Prop}
def znx(val:Nat->Value)(lt:Nat->Nat->Bool)(j:Nat)(items:Array Value):Prop:=(j=0/\items= #[])\/∃m<j,items= #[val m,val m]/\∀i<j,i≠m->lt m i=true
theorem zmk(W:Walks prog w A.in1 I fp wr n P St)(val:Nat->Value)(lt:Nat->Nat->Bool)(OK:Heap->Prop)(hval:∀i v,P i v->v=val i)(S:Addr)(hSf:S∉fp)
 (frame:∀h h',OK h->(∀b o,b∉wr->b≠S->h.get? b=some o->h'.get? b=some o)->OK h')
 (cmp:∀i j (s':Shared) (Q E:Value->Shared->Prop),i<n->j<n->i≠j->OK s'.heap->Q (.bool (lt i j)) s'->wpAny (model prog w) A.in1 (richCompare .Lt (val i) (val j)) Q E s')
 (tri:∀i j,i<n->j<n->i≠j->lt i j=false->lt j i=true) (tr:∀i j k,lt i j=true->lt j k=true->lt i k=true) (hn:0<n):
 ∀(k j:Nat) (s:Shared) (items:Array Value) (c:Nat),n -j=k->j<=n->St j s.heap->OK s.heap->znx val lt j items->s.heap.get? S=some {cls:= .type "list",dict:=none,data:= .seq items c,slots:= #[]}->
 (∀m h' tk,m<n->(∀i<n,i≠m->lt m i=true)->(∀b o,b∉wr->b≠S->s.heap.get? b=some o->h'.get? b=some o)->R (.ok (.ret (val m))) {s with heap:=h',toks:=tk})->
 codeAny (model prog w) A (.builtin "min.loop" ⟨[.ref I, .none, .ref S],[]⟩) R s:=by
 have hSw:S∉wr:=λh=>hSf (W.sub _ h)
 have nm:(toString "min"++toString ".loop":String)="min.loop":=by decide
 intro k
 induction k with
 |zero=>
  intro j s items c hk hj hst ok hb hS hR
  have ej:j=n:=by omega
  subst ej
  refine codeAny_builtin F.entry_min_loop ?_
  rw[Around.under_plainId F.plain_min_loop _]
  show wpAny _ A.in1 (seqItems? (.ref S)>>=_) _ _ s
  refine ζb (wpAny_seqItems hS rfl ?_)
  show wpAny _ A.in1 (tryCatch (pyNext (.ref I)) _>>=_) _ _ s
  refine ζb (wpAny_tryCatch (W.done s _ _ hst λh' tk hk'=>?_))
  have hS':=hk' S _ hSw hS
  rcases hb with⟨z,_⟩|⟨m,hm,rfl,hbest⟩
  ·omega
  ·show wpAny _ A.in1 (updateSeq S (λ_=> #[])>>=_) _ _ _
   refine ζb (wpAny_updateSeq hS' rfl (ζb (wpAny_letGo (ζr ?_))))
   exact hR m _ tk hm hbest λb o hbw hbS e=>(Heap.get?_update_other _ _ (Ne.symm hbS)).trans (hk' b o hbw e)
 |succ k ih=>
  intro j s items c hk hj hst ok hb hS hR
  refine codeAny_builtin F.entry_min_loop ?_
  rw[Around.under_plainId F.plain_min_loop _]
  show wpAny _ A.in1 (seqItems? (.ref S)>>=_) _ _ s
  refine ζb (wpAny_seqItems hS rfl ?_)
  show wpAny _ A.in1 (tryCatch (pyNext (.ref I)) _>>=_) _ _ s
  refine ζb (wpAny_tryCatch (W.item j s _ _ (by omega) hst λv h' tk hP hst' hk'=>?_))
  have hS':=hk' S _ hSw hS
  have ev:=hval _ _ hP
  subst ev
  have okh:OK h':=frame _ _ ok λb o b1 _ e=>hk' b o b1 e
  have go:∀(its:Array Value) (h2:Heap) (tk2 c2:Nat),znx val lt (j+1) its->h2.get? S=some {cls:= .type "list",dict:=none,data:= .seq its c2,slots:= #[]}->St (j+1) h2->(∀b o,b∉wr->b≠S->s.heap.get? b=some o->h2.get? b=some o)->
   codeAny (model prog w) A (.builtin "min.loop" ⟨[.ref I, .none, .ref S],[]⟩) R {s with heap:=h2,toks:=tk2}:=λits h2 tk2 c2 hb2 hS2 st2 k2=>
   ih (j+1) {s with heap:=h2,toks:=tk2} its c2 (by omega) (by omega) st2 (frame _ _ ok k2) hb2 hS2 λm h3 tk3 hm hv k3=>hR m h3 tk3 hm hv λb o b1 b2 e=>k3 b o b1 b2 (k2 b o b1 b2 e)
  have put:∀(its:Array Value) (tk2:Nat),znx val lt (j+1) its->codeAny (model prog w) A (.builtin "min.loop" ⟨[.ref I, .none, .ref S],[]⟩) R {s with heap:=h'.update S (Obj.mapSeq λ_=>its),toks:=tk2}:=λits tk2 hb2=>
   go its _ tk2 _ hb2 (Heap.get?_update_self _ hS' rfl) (W.frame _ _ _ hst' λb hbf o e=>(Heap.get?_update_other _ _ (λh:S=b=>hSf (by rw[h];exact hbf))).trans e) λb o b1 b2 e=>(Heap.get?_update_other _ _ (Ne.symm b2)).trans (hk' b o b1 e)
  rcases hb with⟨z,rfl⟩|⟨m,hm,rfl,hbest⟩
  ·subst z
   show wpAny _ A.in1 (updateSeq S (λ_=> #[val 0,val 0])>>=_) _ _ _
   refine ζb (wpAny_updateSeq hS' rfl ?_)
   rw[nm]
   exact ζr ⟨plainId_quiet F.plain_min_loop _,put _ _ (.inr ⟨0,by omega,rfl,λi hi ne=>by omega⟩)⟩
  ·show wpAny _ A.in1 (tryCatch (holding [val j,val j] (richCompare .Lt (val j) (val m)>>=_)) _>>=_) _ _ _
   refine ζb (wpAny_tryCatch (ψd (ζb (cmp j m {s with heap:=h',toks:=tk} _ _ (by omega) (by omega) (by omega) okh ?_))))
   refine ζb (ψd (wpAny_truthy_bool ?_))
   refine ζb (wpAny_letGo (ζr ?_))
   cases hbb:lt j m with
   |true=>
    simp only[if_true]
    refine ζb (wpAny_updateSeq hS' rfl (ζb (wpAny_letGo ?_)))
    rw[nm]
    refine ζr ⟨plainId_quiet F.plain_min_loop _,put _ _ (.inr ⟨j,by omega,rfl,λi hi ne=>?_⟩)⟩
    by_cases e:i=m
    ·rw[e];exact hbb
    ·exact tr _ _ _ hbb (hbest i (by omega) e)
   |false=>
    simp only[Bool.false_eq_true,if_false]
    refine ζb (wpAny_letGo ?_)
    rw[nm]
    refine ζr ⟨plainId_quiet F.plain_min_loop _,go _ _ _ c (.inr ⟨m,by omega,rfl,λi hi ne=>?_⟩) hS' hst' λb o b1 _ e=>hk' b o b1 e⟩
    by_cases e:i=j
    ·rw[e];exact tri _ _ (by omega) (by omega) (by omega) hbb
    ·exact hbest i (by omega) ne
end
theorem zlB(a:Value):argsOk "min" ⟨[a],[]⟩:=by unfold argsOk;kernel_rfl
section
variable{prog:Program}{w:World}{A:Around}{E:Value->Shared->Prop}{s:Shared}
theorem call_minL{l:Addr}{its:Array Value}{Q:Value->Shared->Prop}(hA:A.handled=none)(hl:s.heap.IsList l its)(val:Nat->Value)(lt:Nat->Nat->Bool)(hval:∀(i:Nat) (v:Value),its[i]?=some v->v=val i)(hn:0<its.size)
 (cmp:∀i j (s':Shared) (Q E:Value->Shared->Prop),i<its.size->j<its.size->i≠j->(∀b o,s.heap.get? b=some o->s'.heap.get? b=some o)->Q (.bool (lt i j)) s'->wpAny (model prog w) A.in1 (richCompare .Lt (val i) (val j)) Q E s')
 (tri:∀i j,i<its.size->j<its.size->i≠j->lt i j=false->lt j i=true) (tr:∀i j k,lt i j=true->lt j k=true->lt i k=true)
 (h:∀m h' tk,m<its.size->(∀i<its.size,i≠m->lt m i=true)->(∀b o,s.heap.get? b=some o->h'.get? b=some o)->Q (val m) {s with heap:=h',toks:=tk}):
 wpAny (model prog w) A (call (.builtin "min") [.ref l]) Q E s:=by
 have nm:(toString "min"++toString ".loop":String)="min.loop":=by decide
 refine wpAny_call (codeAny_call_builtin F.plain_min F.entry_min ?_)
 have ck:checkBuiltinCall "min" ⟨[.ref l],[]⟩=pure ():=by
  simp only[checkBuiltinCall,F.kind_min]
  have ha:=zlB (.ref l)
  unfold argsOk at ha
  cases hsig:Manifest.signature? "min"with
  |none=>rfl
  |some sig=>rw[hsig] at ha;exact ha
 refine wpAny_of_eq ck ?_
 have bp:Builtin.Builtins.bindParams "min" ["key","default"] 0 ⟨[],[]⟩=pure [none,none]:=by rfl
 show wpAny _ A.in1 (Builtin.Builtins.bindParams "min" ["key","default"] 0 ⟨[],[]⟩>>=_) _ _ s
 refine ζb (wpAny_of_eq bp ?_)
 refine ζb (ζr ?_)
 refine ζb (wpAny_pyIter_list hl ?_)
 refine ζb (wpAny_newObj_type ?_)
 rw[nm]
 have hp:l≠s.heap.objs.size:=ξj (by obtain⟨o,ho,_⟩:=hl;exact ζm ho)
 have sz:(s.heap.push {cls:= .type "list_iterator",data:= .fields #[.ref l, .int 0 0]}).objs.size=s.heap.objs.size+1:=Heap.size_push ..
 have llt:l<s.heap.objs.size:=by obtain⟨o,ho,_⟩:=hl;exact ζm ho
 refine ζr ⟨plainId_quiet F.plain_min_loop _,?_⟩
 have nw:∀{b:Addr} {o:Obj},s.heap.get? b=some o->b∉ [s.heap.objs.size]:=λ{b o} e z=>by
  have:b=s.heap.objs.size:=by simpa using z
  exact absurd (ζm e) (by rw[this];exact Nat.lt_irrefl _)
 have nS:∀{b:Addr} {o:Obj},s.heap.get? b=some o->b≠(s.heap.push {cls:= .type "list_iterator",data:= .fields #[.ref l, .int 0 0]}).objs.size:=λ{b o} e z=>by
  rw[sz] at z
  exact absurd (ζm e) (by rw[z];exact Nat.not_lt.mpr (Nat.le_succ _))
 refine zmk (Walks.list (A:=A.in1) (show A.in1.handled=none from hA) s.heap.objs.size l hp its) val lt (λh=>∀b o,s.heap.get? b=some o->h.get? b=some o) (λi v e=>hval i v e) _ ?_ (λh h' ok k b o e=>k b o (nw e) (nS e) (ok b o e)) (λi j s' Q E hi hj ne ok q=>cmp i j s' Q E hi hj ne ok q) tri tr hn _ 0 _ #[] 0 rfl (ξi _) ?_ ?_ (.inl ⟨rfl,rfl⟩) (ζj _ rfl) λm h' tk hm hv k=>h m h' tk hm hv λb o e=>k b o (nw e) (nS e) (ζc _ (ζc _ e))
 ·show (s.heap.push _).objs.size∉_
  rw[sz]
  simp only[List.mem_cons,ψb,or_false,not_or]
  exact⟨Nat.ne_of_gt (Nat.lt_succ_self _),Nat.ne_of_gt (Nat.lt_succ_of_lt llt)⟩
 ·refine ⟨⟨_,ζc _ (ζj _ rfl),rfl,rfl⟩,?_⟩
  obtain⟨o,ho,r⟩:=hl
  exact⟨o,ζc _ (ζc _ ho),r⟩
 ·exact λb o e=>ζc _ (ζc _ e)
end
end HT
namespace L2
open PySem PySem.Spec PyProof.Rows RW
section
variable{X:Cx}{K:ξk}
theorem zlJ{α:Type}{N:List α}(hN:N.Nodup){i j:Nat}{x:α}(a:N[i]?=some x)(b:N[j]?=some x):i=j:=by
 obtain⟨h1,e1⟩:=List.getElem?_eq_some_iff.mp a
 obtain⟨h2,e2⟩:=List.getElem?_eq_some_iff.mp b
 exact(List.getElem_inj hN).mp (e1.trans e2.symm)
structure RawKm(h:Heap)(b:Addr)(k:Ky):Prop where
 at_:∃t u,IsTup h b #[.ref t,u]/\RawK h t k
end
end L2
namespace RW
open PySem PySem.Spec PyProof.Rows L2
inductive TrX(K:ξk)(H:Hp):V->PyData->Prop
 |non:TrX K H .non .none
 |int (i:Int):TrX K H (.int i) (.int i)
 |str (x:Str) (h:PyData.strOk x=true):TrX K H (.str x) (.str x)
 |tup {p:Addr} {vs:List V} {ds:List PyData} (e:SqT K H p vs) (hl:vs.length=ds.length) (h:∀(i:Nat) (v:V) (d:PyData),vs[i]?=some v->ds[i]?=some d->TrX K H v d):TrX K H (.ref p) (.tuple ds)
 |lst {p:Addr} {vs:List V} {ds:List PyData} (e:H p=some (.lst vs)) (hl:vs.length=ds.length) (h:∀(i:Nat) (v:V) (d:PyData),vs[i]?=some v->ds[i]?=some d->TrX K H v d):TrX K H (.ref p) (.list ds)
noncomputable abbrev Hr:=Int×Option WM
noncomputable abbrev Tb:=List (Str×Hr)
def zeP(rs:List D)(es:List WM):Option WM->Prop
 |none=>es=[]
 |some e=>e∈es/\∀e'∈es,kE rs e'≠kE rs e->ltK (kE rs e) (kE rs e')=true
theorem zls{rs:List D}{es es':List WM}(h:∀e,e∈es↔e∈es')(u:∀e∈es,∀e'∈es,e.1=e'.1->e=e'){b b':Option WM}(h1:zeP rs es b)(h2:zeP rs es' b'):b=b':=by
 cases b with
 |none=>
  cases b' with
  |none=>rfl
  |some e'=>
   have h1:es=[]:=h1
   have:=(h e').mpr h2.1
   rw[h1] at this;cases this
 |some e=>
  cases b' with
  |none=>
   have h2:es'=[]:=h2
   have:=(h e).mp h1.1
   rw[h2] at this;cases this
  |some e'=>
   by_cases c:kE rs e'=kE rs e
   ·have e1:e'.1=e.1:=congrArg (λk:Ky=>k.2.2) c
    rw[u e h1.1 e' ((h _).mpr h2.1) e1.symm]
   ·have l1:=h1.2 e' ((h _).mpr h2.1) c
    have l2:=h2.2 e ((h _).mp h1.1) (Ne.symm c)
    rw[zpq l1] at l2;cases l2
structure TbOk(hs:List Str)(ok:Str->Hr->Prop)(tm:Tb):Prop where
 nd:(tm.map (·.1)).Nodup
 mem:∀p∈tm,p.1∈hs/\ok p.1 p.2
end RW
namespace L2
open PySem PySem.Spec PyProof.Rows
section
variable{prog:Program}{w:World}{A:Around}{E:Value->Shared->Prop}{s:Shared}
noncomputable abbrev za7:=List Str×Str
noncomputable def wkD(k:za7):PyData:= .tuple [.tuple (k.1.map .str), .str k.2]
def IsWK(prog:Program)(w:World)(h:Heap)(k:za7)(a:Addr):Prop:=∃o b n t,h.get? a=some o/\o.cls= .type "tuple"/\o.data= .seq #[.ref b, .str k.2 t] n/\IsTupleKey (PySem.strKind prog w) h k.1 b/\(wkD k).canLay0=true
theorem zeY{k:Str}:∀{v:Value},v.isStrOf k=true->∃t,v= .str k t:=by
 intro v e
 cases v with
 |str x t=>exact ⟨t,by have:x=k:=by simpa[Value.isStrOf] using e
                       rw[this]⟩
 |_=>exact absurd e (by intro z;exact Bool.noConfusion z)
theorem zgt{h:Heap}:∀{ks:List Str} {vs:List Value},PySem.ItemsAre (PySem.strKind prog w) ks vs->∃as,ReadsAll h vs (ks.map .str) as
 |_,_, .nil=>⟨_, .nil⟩
 |_,_, .cons (k:=k) (v:=v) e t=>by
  obtain⟨t',rfl⟩:=zeY (k:=k) (v:=v) e
  obtain⟨as,r⟩:=zgt t
  exact⟨_, .cons (.str k t') r⟩
theorem IsWK.reads{h:Heap}{k:za7}{a:Addr}(x:IsWK prog w h k a):∃as,Reads h (.ref a) (wkD k) as:=by
 obtain⟨o,b,n,t,e,c,d,⟨o2,items,n2,e2,c2,d2,it⟩,_⟩:=x
 obtain⟨as,r⟩:=zgt (h:=h) it
 exact⟨_, .tuple e c d (.cons (.tuple e2 c2 d2 r) (.cons (.str _ t) .nil))⟩
theorem zn4{k:za7}{a:Addr}{Q:Int->Shared->Prop}(hu:A.units+4<cLine)(x:IsWK prog w s.heap k a)
 (q:Q (reduceHash (Builtin.Tuple.tupleHashOf [tupleKeyHash (PySem.strKind prog w) k.1,(PySem.strKind prog w).hash k.2])) {s with toks:=s.toks+(k.1.length+1)+1+1}):wpAny (model prog w) A (pyHash (.ref a)) Q E s:=by
 obtain⟨o,b,n,t,e,c,d,tk,_⟩:=x
 show wpAny (model prog w) A (pyHashByItsType (.ref a)) Q E s
 refine W.pyHash_slot (T:="tuple") ⟨o,e,c⟩ F.slot_tuple_hash F.entry_tuple_hash (F.args_tuple_hash_1 _) rfl (.inr (by omega)) ?_
 unfold Builtin.«tuple.__hash__»
 have e1:slotArgs "__hash__" 0 {pos:=[.ref a]}=pure (.ref a,[]):=rfl
 rw[e1]
 refine ζb (ζr ?_)
 refine ζb ?_
 unfold Builtin.Tuple.tupleItemsOf
 refine ζb (wpAny_seqItems e d (ζr ?_))
 refine ζb ?_
 have hin:A.in1.units<cLine:=by
  show A.units+_<cLine
  omega
 simp only[List.forIn_toArray,List.forIn_cons,List.forIn_nil]
 refine ζb (ζb (wpAny_pyHash_tuple hin tk (ζr ?_)))
 refine ζb (ζb ((PySem.strKind prog w).pyHash (k:=k.2) (show(PySem.strKind prog w).is k.2 (.str k.2 t)=true from by simp[PySem.strKind,Value.isStrOf]) (ζr ?_)))
 refine ζr ?_
 unfold retInt
 refine ζb (wpAny_mkInt ?_)
 refine ζr ?_
 exact⟨_,_,rfl,q⟩
theorem znZ{x y:za7}:(wkD x).eqv (wkD y)=decide (x=y):=by
 unfold wkD
 rw[PyData.eqv,PyData.eqvAll,PyData.eqvAll,PyData.eqvAll]
 rw[show(PyData.tuple (x.1.map .str)).eqv (.tuple (y.1.map .str))=decide (x.1=y.1)from RW.strs_eqvT,PyData.eqv,Bool.and_true]
 obtain⟨x1,x2⟩:=x
 obtain⟨y1,y2⟩:=y
 by_cases h1:x1=y1
 ·by_cases h2:x2=y2
  ·simp[h1,h2]
  ·simp[h1,h2]
 ·simp[h1]
theorem zmp{k:za7}:(wkD k).depth<=3:=by
 have h:∀xs:List Str,PyData.depthAll (xs.map PyData.str)<=1:=λxs=>by
  induction xs with
  |nil=>rw[List.map_nil,PyData.depthAll];decide
  |cons x xs ih=>rw[ξt,PyData.depthAll,PyData.depth];omega
 have:=h k.1
 unfold wkD
 rw[PyData.depth,PyData.depthAll,PyData.depthAll,PyData.depthAll,PyData.depth,PyData.depth]
 omega
theorem zgm{n:Nat}{a:Addr}{o:Obj}{items:List Value}{m:Nat}{Q:Bool->Shared->Prop}(e:s.heap.get? a=some o)(c:o.cls= .type "tuple")(d:o.data= .seq items.toArray m)(h:∀v∈items,∀Q:Bool->Shared->Prop,Q true s->wpAny (model prog w) A (eqIsQuiet n v) Q E s)(q:Q true s):wpAny (model prog w) A (eqIsQuiet (n+1) (.ref a)) Q E s:=by
 rw[eqIsQuiet.eq_2]
 refine ζb (wpAny_specialOf (T:="tuple") ⟨o,e,c⟩ F.slot_tuple_eq.lookup ?_)
 refine ζb (wpAny_isInstance (T:="tuple") (b:=true) ⟨o,e,c⟩ (by kernel_rfl) ?_)
 rw[if_neg (by decide)]
 refine ζb (wpAny_seqItems e d ?_)
 refine ζb ?_
 simp only[Option.getD_some,List.forIn_toArray]
 have go:∀(l:List Value),(∀v∈l,v∈items)->∀R:(Option Bool×Unit)->Shared->Prop,R (none,()) s->wpAny (model prog w) A (forIn l ((none:Option Bool),()) λy __s=>do
            let __do_lift ←eqIsQuiet n y
            if(!__do_lift)=true then pure (ForInStep.done (some false,()))
             else pure (ForInStep.yield (none,()))) R E s:=by
  intro l
  induction l with
  |nil=>intro _ R r;rw[List.forIn_nil];exact ζr r
  |cons y l ih=>
   intro hl R r
   rw[List.forIn_cons]
   refine ζb (ζb (h y (hl y ζo) _ ?_))
   rw[if_neg (by decide)]
   exact ζr (ih (λv hv=>hl v (ξc _ hv)) R r)
 exact go items (λ_ z=>z) _ (ζr q)
theorem zm7{k:za7}{a:Addr}{Q:Bool->Shared->Prop}(x:IsWK prog w s.heap k a)(q:Q true s):wpAny (model prog w) A (eqIsQuiet 8 (.ref a)) Q E s:=by
 obtain⟨o,b,n,t,e,c,d,⟨o2,items,n2,e2,c2,d2,it⟩,_⟩:=x
 refine zgm (n:=7) (items:=[.ref b, .str k.2 t]) e c d (λv hv Q q=>?_) q
 rcases List.mem_cons.mp hv with rfl|hv
 ·refine zgm (n:=6) (items:=items.toList) e2 c2 (by rw[Array.toArray_toList];exact d2) (λv hv Q q=>?_) q
  have:∃x t,v= .str x t:=by
   have go:∀{ks:List Str} {vs:List Value},PySem.ItemsAre (PySem.strKind prog w) ks vs->∀v∈vs,∃x t,v= .str x t:=by
    intro ks vs h
    induction h with
    |nil=>intro v hv;cases hv
    |cons e _ ih=>
     intro v hv
     rcases List.mem_cons.mp hv with rfl|hv
     ·obtain ⟨t,e⟩:=zeY e;exact⟨_,t,e⟩
     ·exact ih v hv
   exact go it v hv
  obtain⟨x,t,rfl⟩:=this
  rw[eqIsQuiet.eq_3 _ _ (λa z=>by injection z)]
  exact ζr q
 ·rw[List.mem_singleton.mp hv,eqIsQuiet.eq_3 _ _ (λa z=>by injection z)]
  exact ζr q
theorem zqb{h:Heap}{a:Addr}{x y:za7}(hx:IsWK prog w h x a)(hy:IsWK prog w h y a):x=y:=by
 obtain⟨o,b,n,t,e,c,d,tk,_⟩:=hx
 obtain⟨o',b',n',t',e',c',d',tk',_⟩:=hy
 rw[e] at e'
 cases e'
 rw[d] at d'
 have d2:=congrArg (λz=>match z with| .seq xs _=>xs.toList|_=> []) d'
 have d3:([.ref b, .str x.2 t]:List Value)=[.ref b', .str y.2 t']:=d2
 injection d3 with h1 h2
 injection h1 with h1
 injection h2 with h2
 injection h2 with h2
 subst h1
 have:=(tupleKind (PySem.strKind prog w)).inj tk tk'
 exact Prod.ext this h2
theorem zmt{h h':Heap}{k:za7}{a d:Addr}{o:Obj}{es:Array DictEntry}{ep:Nat}(x:IsWK prog w h k a)(e:h.get? d=some o)(hd:o.data= .dict es ep)(sb:Heap.SameBut d h h'):IsWK prog w h' k a:=by
 obtain⟨o',b,n,t,e',c',d',tk,cl⟩:=x
 have ne:a≠d:=λz=>by rw[z,e] at e';cases e';rw[hd] at d';cases d'
 exact⟨o',b,n,t,by rw[sb.2 a ne];exact e',c',d',(tupleKind (PySem.strKind prog w)).keeps tk e hd sb,cl⟩
theorem zru{x y:za7}{a b:Addr}{Q:Bool->Shared->Prop}(hu:A.units+4<cLine)(hx:IsWK prog w s.heap x a)(hy:IsWK prog w s.heap y b)(q:Q (decide (x=y)) s):wpAny (model prog w) A (eqBool (.ref a) (.ref b)) Q E s:=by
 obtain⟨as,r1⟩:=hx.reads
 obtain⟨bs,r2⟩:=hy.reads
 obtain⟨_,_,_,_,_,_,_,_,c1⟩:=hx
 obtain⟨_,_,_,_,_,_,_,_,c2⟩:=hy
 have d1:=zmp (k:=x)
 exact SeqAt.eqBoolOverData prog w A E s _ _ _ _ _ _ Q r1 r2 c1 c2 (by omega) (by rw[znZ];exact q)
noncomputable def zeJ(prog:Program)(w:World):HeapKind prog w za7 where
 is:=IsWK prog w
 hash:=λk=>reduceHash (Builtin.Tuple.tupleHashOf [tupleKeyHash (PySem.strKind prog w) k.1,(PySem.strKind prog w).hash k.2])
 draws:=λk=>(k.1.length+1)+1+1
 room:=λA=>A.units+4<cLine
 inj:=zqb
 keeps:=zmt
 pyHash:=λhu x q=>zn4 hu x q
 eqBool:=λhu hx hy q=>zru hu hx hy q
 quiet:=λx q=>zm7 x q
end
noncomputable def WkO(P:Program)(w:World)(a:Addr)(xs:List (za7×Addr×Value)):HO:= .ext λh=>(a==sysModules)=false/\∃o es ep,h.get? a=some o/\o.ExactDict/\o.data= .dict es ep/\es.toList=xs.map (entryOfKey (zeJ P w))/\(xs.map (·.1)).Nodup
def zgR(H:Hp)(k:za7)(b:Addr):Prop:=∃c,H b=some (.tup [.ref c, .str k.2])/\H c=some (.tup (k.1.map V.str))/\(wkD k).canLay0=true
def zlR(P:Program)(w:World)(H:Hp)(a:Addr)(xs:List (za7×Addr×Value)):Prop:=(H a=some (WkO P w a xs)\/(xs=[]/\H a=some (.dK [])))/\∀x∈xs,zgR H x.1 x.2.1
section
variable{P:Program}{w:World}{H:Hp}{h:Heap}{a b:Addr}{k:za7}{xs:List (za7×Addr×Value)}
theorem zfu:∀{ks:List Str} {its:List Value},Vals (ks.map V.str) its->PySem.ItemsAre (PySem.strKind P w) ks its
 |[],its,r=>by cases r;exact .nil
 |k::ks,its,r=>by
  cases r with
  |cons r1 r2=>
   obtain⟨t,rfl⟩:=r1
   exact .cons (by simp[PySem.strKind,Value.isStrOf]) (zfu r2)
theorem zg7(ok:HOk P w H h)(e:zgR H k b):(zeJ P w).is h k b:=by
 obtain⟨c,e1,e2,cl⟩:=e
 obtain⟨_,its,r,⟨o,h1,h2,n,h3⟩,_⟩:=(show ObjOk P w H h b (.tup [.ref c, .str k.2])from ok b _ e1)
 obtain⟨_,its2,r2,⟨o2,g1,g2,n2,g3⟩,_⟩:=(show ObjOk P w H h c (.tup (k.1.map V.str))from ok c _ e2)
 cases r with
 |cons r1 r'=>
  cases r' with
  |cons r3 r''=>
   cases r''
   cases r1
   obtain⟨t,rfl⟩:=r3
   exact⟨o,c,n,t,h1,h2,h3,⟨o2,its2.toArray,n2,g1,g2,g3,by simpa using zfu r2⟩,cl⟩
theorem zmw(ok:HOk P w H h)(e:zlR P w H a xs):(a==sysModules)=false/\h.DictOfH (zeJ P w) a xs:=by
 obtain⟨e|⟨rfl,e⟩,hk⟩:=e
 ·obtain ⟨⟨sm,o,es,ep,h1,h2,h3,h4,h5⟩,_⟩:=(show ObjOk P w H h a (WkO P w a xs)from ok a _ e)
  exact⟨sm,o,es,ep,h1,h2,h3,h4,λx hx=>zg7 ok (hk x hx),h5⟩
 ·obtain ⟨_,sm,vs,rel,o,es,ep,h1,h2,h3,h4,h5,h6⟩:=zgl ok e
  cases rel
  refine⟨sm,o,es,ep,h1,h2,h3,?_,(λx hx=>nomatch hx),List.nodup_nil⟩
  cases es':es.toList with
  |nil=>rfl
  |cons _ _=>rw[es'] at h5;cases h5
end
section
variable{X:Cx}
theorem zqC(hu:X.A.units+8<cLine):OpR X (compareOp .NotIn) (λy x H Q=>∃a b k xs,x= .ref a/\y= .ref b/\zlR X.prog X.w H a xs/\zgR H k b/\Q (.bl (!(atKey xs k).isSome)) H):=by
 intro pins s σ H y x u v Q I ry rx h
 obtain⟨a,b,k,xs,rfl,rfl,wa,ke,q⟩:=h
 cases rx
 cases ry
 obtain⟨sm,dd⟩:=zmw I.hok wa
 have hr:(zeJ X.prog X.w).room X.A.in1:=by show X.A.units+_+4<cLine;omega
 exact wpAny_notIn_heap hr (zg7 I.hok ke) sm dd ⟨.bl _,H,I.tok _,rfl,q⟩
noncomputable def zrZ(P:Program)(w:World)(td ty:TE):TE:=λσ H Q=>td σ H λx H1=>ty σ H1 λy H2=>∃a b k xs p v,x= .ref a/\y= .ref b/\zlR P w H2 a xs/\zgR H2 k b/\atKey xs k=some p/\RelV v p.2/\Q v H2
theorem zp6{o i:Expr}{td ty:TE}{pos:Pos}(hu:X.A.units+8<cLine)(ho:QE X o td)(hi:QE X i ty)(hs:zoi i:=by exact λ_ _=>rfl):QE X (.Subscript o i pos) (zrZ X.prog X.w td ty):=⟨by
 intro pins s σ H Q I h
 refine zkl PySem.F.slot_dict_getitem.lookup hs (thn (ho.o pins s σ H _ I h) λu s1 ⟨x,H1,I1,rx,q1⟩=>thn (hi.o pins s1 σ H1 _ I1 q1) λiv s2 ⟨y,H2,I2,ry,a,b,k,xs,p,v,ex,ey,wa,ke,hp,rv,q⟩=>?_)
 subst ex ey
 cases rx
 cases ry
 obtain⟨sm,dd⟩:=zmw I2.hok wa
 have hr:(zeJ X.prog X.w).room X.A.in1:=by show X.A.units+_+4<cLine;omega
 exact⟨dd.typeIs,wpAny_getItem_heap hr (zg7 I2.hok ke) dd hp ⟨v,H2,I2.tok _,rv,q⟩⟩⟩
noncomputable def zrK(P:Program)(w:World)(td ty tv:TE):TS:=λD σ H=>tv σ H λv H1=>td σ H1 λx H2=>ty σ H2 λy H3=>∃a b k xs,x= .ref a/\y= .ref b/\zlR P w H3 a xs/\zgR H3 k b/\xs.length<=1000/\∀r,RelV v r->D.nx σ (upd H3 a (WkO P w a (storedH xs k b r)))
theorem zqh{o i value:Expr}{td ty tv:TE}{pos pos':Pos}(hu:X.A.units+8<cLine)(ho:QE X o td)(hi:QE X i ty)(hv:QE X value tv)(hs:swapsWith value (some (.Subscript o i pos')) pos.line X.env=pure false:=by rfl):QS X (.Assign [.Subscript o i pos'] value pos) (zrK X.prog X.w td ty tv):=⟨by
 intro pins s σ H D I h
 refine wpAny_Assign_Subscript (thn (hv.o pins s σ H _ I h) λr s1 ⟨v,H1,I1,rv,q1⟩=>thn (ho.o pins s1 σ H1 _ I1 q1) λu s2 ⟨x,H2,I2,rx,q2⟩=>thn (hi.o pins s2 σ H2 _ I2 q2) λiv s3 ⟨y,H3,I3,ry,a,b,k,xs,ex,ey,wa,ke,hl,q3⟩=>?_) hs
 subst ex ey
 cases rx
 cases ry
 obtain⟨sm,dd⟩:=zmw I3.hok wa
 have hr:(zeJ X.prog X.w).room X.A.in1:=by show X.A.units+_+4<cLine;omega
 refine wpAny_setItem_heap (hsz:=by rw[sizeLine_eq];omega) hr (zg7 I3.hok ke) dd λh' dd' hs'=>⟨σ,_,?_,q3 r rv⟩
 obtain⟨q,es,ep,hq,h2,h3,h4,_,h5⟩:=dd'
 have mu:Mut (H3 a):=by
  rcases wa.1 with e|⟨_,e⟩
  ·rw[e];exact True.intro
  ·rw[e];exact True.intro
 refine zdY I3 mu hs' ⟨q,hq⟩ ⟨⟨sm,q,es,ep,hq,h2,h3,h4,h5⟩,⟨q,hq⟩,λg1 g2 ⟨sm,o,es,ep,k1,k2,k3,k4,k5⟩ hk=>⟨sm,o,es,ep,hk _ k1,k2,k3,k4,k5⟩⟩⟩
end
end L2
namespace RW
open PySem PySem.Spec PyProof.Rows L2
inductive Alk(H:Hp):List (Key×V)->List (Key×V)->Prop
 |nil:Alk H [] []
 |cons {k:Key} {v v':V} {d:PyData} {r r':List (Key×V)}:Tr H v d->Tr H v' d->d.depth<=60->Alk H r r'->Alk H ((k,v)::r) ((k,v')::r')
theorem Alk.length{H:Hp}{r r':List (Key×V)}(h:Alk H r r'):r.length=r'.length:=by
 induction h with
 |nil=>rfl
 |cons _ _ _ _ ih=>rw[ζv,ζv,ih]
theorem zkq{K:Type}[DecidableEq K]{A:Around}{s:Shared}{kb:List (K×Value)}:∀{r:List (K×Value)},(∀p∈r,∃y,valueAt kb p.1=some y/\SeqAt.EqAt A s p.2 y true)->PySem.W.KeqHits A s kb r true
 |[],_=> .nil
 |(k,v)::r,h=>by
  obtain⟨y,h1,h2⟩:=h (k,v) ζo
  exact .hit (e:=true) (b:=true) h1 h2 (zkq λp hp=>h p (ξc _ hp))
section
variable{X:Cx}
theorem znS{pins:List (Addr×Obj)}{σ:L2.St}{H:Hp}{s:Shared}(I:Inv X pins σ H s)(hu:X.A.units+66<cLine){kvs kvs':List (Key×V)}(a:Alk H kvs kvs'):∀{vs vs':List (Key×Value)},KV kvs vs->KV kvs' vs'->
 ∀(i:Nat) (k:Key) (v:Value),vs[i]?=some (k,v)->∃y,vs'[i]?=some (k,y)/\SeqAt.EqAt X.A.in1 s v y true:=by
 induction a with
 |nil=>
  intro vs vs' r r' i k v e
  cases r
  cases e
 |cons t t' hd a ih=>
  intro vs vs' r r' i k v e
  cases r with
  | @cons p q ps qs r1 r=>
    cases r' with
    | @cons p' q' ps' qs' r1' r'=>
      cases i with
      |zero=>
       obtain⟨q1,q2⟩:=q
       obtain⟨q1',q2'⟩:=q'
       cases e
       obtain⟨rk,rv⟩:=r1
       obtain⟨rk',rv'⟩:=r1'
       obtain⟨as,x1⟩:=t.reads I _ rv
       obtain⟨bs,x2⟩:=t'.reads I _ rv'
       refine⟨q2',by dsimp only at rk rk';rw[List.getElem?_cons_zero,←rk',←rk],?_⟩
       have x:=SeqAt.eqAt_reads _ _ X.A.in1 s _ _ as bs x1 x2 t.can t'.can (by show X.A.units+1+_<cLine;omega)
       rw[SeqAt.eqv_refl _ t.can] at x
       exact x
      |succ i=>exact ih r r' i k v e
theorem zre(hu:X.A.units+66<cLine):OpR X (compareOp .NotEq) (λx y H Q=>∃a b kvs kvs',x= .ref a/\y= .ref b/\H a=some (.dK kvs)/\H b=some (.dK kvs')/\Alk H kvs kvs'/\Q (.bl false) H):=by
 intro pins s σ H x y u v Q I rx ry h
 obtain⟨a,b,kvs,kvs',rfl,rfl,e,e',al,q⟩:=h
 cases rx
 cases ry
 obtain⟨z,sa,vs,rel,dd⟩:=zgl I.hok e
 obtain⟨z',sb,vs',rel',dd'⟩:=zgl I.hok e'
 have hl:vs.length=vs'.length:=by rw[←rel.length,←rel'.length,al.length]
 have nd:(vs'.map (·.1)).Nodup:=by obtain⟨_,_,_,_,_,_,_,_,nd⟩:=dd';exact nd
 refine PySem.W.keq_ne (r:=true) sa sb dd dd' (by omega) (λ_=>zkq λp hp=>?_) ⟨.bl _,H,I,rfl,?_⟩
 ·obtain ⟨i,hi,ei⟩:=List.getElem_of_mem hp
  obtain⟨y,h1,h2⟩:=znS I hu al rel rel' i p.1 p.2 (by rw[ζd hi,ei])
  exact⟨y,valueAt_of_get nd h1,h2⟩
 ·rw[hl,beq_self_eq_true];exact q
end
end RW
namespace L2
open PySem PySem.Spec PyProof.Rows
section
variable{X:Cx}{tg:Expr}
end
end L2
namespace L2
open PySem PySem.Spec PyProof.Rows RW
section
variable{X:Cx}{K:ξk}
def zqp:List V->Hp->VK->Prop:=λxs H Q=>∃(l:Addr) (bs:List Addr) (ks:List Ky),xs=[.ref l]/\H l=some (.lst (bs.map V.ref))/\bs.length=ks.length/\(∀(i:Nat) (b:Addr) (k:Ky),bs[i]?=some b->ks[i]?=some k->KeyO H b k)/\ks.Nodup/\0<ks.length/\
 ∀(m:Nat) (b:Addr) (k:Ky),bs[m]?=some b->ks[m]?=some k->(∀k'∈ks,k'≠k->ltK k k'=true)->Q (.ref b) H
theorem zjs(hc:X.calm=true)(hu:X.A.units+70<cLine):CallR X (.builtin "min") zqp:=by
 intro pins s σ H xs us Q I r h
 obtain⟨l,bs,ks,rfl,hl,hlen,hk,nd,h0,q⟩:=h
 obtain⟨u,rfl,ru⟩:=zbG r
 cases ru
 obtain⟨its,rv,pl,hz⟩:=I.list (SqL.of hl)
 have ei:=zgM rv
 subst ei
 have sz:(bs.map Value.ref).toArray.size=ks.length:=by simp[hlen]
 have gb:∀i,i<ks.length->bs[i]?=some (bs.getD i 0):=λi h=>by simp[show i<bs.length by omega]
 have gk:∀i,i<ks.length->ks[i]?=some (ks.getD i (0,0,[])):=λi h=>by simp[h]
 refine HT.call_minL (I.ok.hd hc) pl.isList (λi=> .ref (bs.getD i 0)) (λi j=>ltK (ks.getD i (0,0,[])) (ks.getD j (0,0,[]))) (λi v e=>?_) (by rw[sz];exact h0) (λi j s' Q E hi hj ne kp hq=>?_) (λi j hi hj ne e=>?_) (λi j k a b=>zi3 a b) λm h' tk hm hb kp=>?_
 ·rw[List.getElem?_toArray,ζp] at e
  cases e2:bs[i]? with
  |none=>rw[e2] at e;cases e
  |some b=>rw[e2] at e;cases e;simp[List.getD,e2]
 ·rw[sz] at hi hj
  have o1:=hk i _ _ (gb i hi) (gk i hi)
  have o2:=hk j _ _ (gb j hj) (gk j hj)
  exact zoW (by show X.A.units+1+63<cLine;omega) (o1.raw I kp) (o2.raw I kp) hq
 ·rw[sz] at hi hj
  refine zig (λz=>ne ?_) e
  have h1:=gk i hi
  rw[z] at h1
  exact zlJ nd h1 (gk j hj)
 ·rw[sz] at hm hb
  refine⟨.ref _,_,I.kept (t':=tk) kp,rfl,q m _ _ (gb m hm) (gk m hm) λk' hk' ne=>?_⟩
  obtain⟨i,hi,e⟩:=List.getElem_of_mem hk'
  have:=hb i hi λz=>ne (by rw[←e,←z];simp[hi])
  rw[←e]
  simpa[List.getD,hi] using this
end
end L2
namespace L2
open PySem PySem.Spec PyProof.Rows
open Sem (wp)
open MeetsSeq MeetsSeq2 MeetsSeq3 Builtin
theorem ziP(l:Addr)(items:Array Value)(n:Nat)(u:Tok)(dd:Option Addr)(sl:Array (Option Value)):
 Meets (Builtin.«tuple.__mul__» ⟨[.ref l, .int 1 u],[]⟩) (λ_ R s=>s.heap.get? l=some {cls:= .type "tuple",dict:=dd,data:= .seq items n,slots:=sl}/\R (.ok (.ret (Value.ref l))) s):=
 .of_wp λprog w A R s h=>by
  obtain⟨hp,g,d,tk,os⟩:=s;obtain⟨hl,h⟩:=h;have f1:=AutoSeq1.idx_int;have f2:=AutoSeq1.sub_tuple_tuple
  wp_walk using wpAny_loadPart' hl
  exact⟨_,rfl,h⟩
theorem zjr(l:Addr)(items:Array Value)(n:Nat)(u:Tok)(dd:Option Addr)(sl:Array (Option Value))(he:items.isEmpty=false):
 Meets (Builtin.«tuple.__mul__» ⟨[.ref l, .int 0 u],[]⟩) (λ_ R s=>s.heap.get? l=some {cls:= .type "tuple",dict:=dd,data:= .seq items n,slots:=sl}/\R (.ok (.ret (Value.ref s.heap.objs.size))) {s with heap:=s.heap.push {cls:=Value.type "tuple",data:= .seq #[]}}):=
 .of_wp λprog w A R s h=>by
  obtain⟨hp,g,d,tk,os⟩:=s;obtain⟨hl,h⟩:=h;have f1:=AutoSeq1.idx_int;have f2:=AutoSeq1.sub_tuple_tuple
  wp_walk using wpAny_loadPart' hl
  exact⟨_,rfl,h⟩
noncomputable def zrg(K:ξk):R2:=λx y H Q=>∃a xs,x= .ref a/\SqT K H a xs/\xs≠ []/\((y= .int 1/\Q (.ref a) H)\/(y= .int 0/\∀p,H p=none->Q (.ref p) (upd H p (.tup []))))
theorem zmO{X:Cx}:OpR X (binaryOp .Mult) (zrg X.K):=by
 intro pins s σ H x y v u Q I rx ry h
 obtain⟨a,xs,rfl,ha,hx,h⟩:=h
 cases rx
 obtain⟨its,r,p1,_⟩:=I.tuple ha
 have hne:its≠ []:=λz=>hx (r.nil_iff.mp z)
 obtain⟨⟨cls,dd,data,sl⟩,ho,hc,n,hd⟩:=id p1
 simp only at hc hd
 subst hc hd
 have he:its.toArray.isEmpty=false:=by simpa using hne
 rcases h with⟨rfl,q⟩|⟨rfl,q⟩
 ·obtain ⟨t,rfl⟩:=ry
  exact wpAny_binaryOp_repeat_ref (T:="tuple") (U:="int") (by decide) ⟨_,ho,rfl⟩ (λs'=>typeIs_int s' 1 t) zco PySem.F.fills_int_mul PySem.F.slot_int_rmul zd3 PySem.F.slot_int_index.lookup
   (call_meets PySem.F.slot_int_rmul (typeIs_int s 1 t) PySem.F.entry_int_rmul (PySem.F.args_int_rmul_2 _ _) (zbf 1 t a its.toArray n dd sl)
     ⟨ho,rfl,⟨_,ho,rfl⟩,call_meets PySem.F.slot_tuple_mul ⟨_,ho,rfl⟩ PySem.F.entry_tuple_mul (PySem.F.args_tuple_mul_2 _ _) (ziP a its.toArray n t dd sl) ⟨ho,⟨.ref a,H,I,rfl,q⟩⟩⟩)
 ·obtain ⟨t,rfl⟩:=ry
  refine wpAny_binaryOp_repeat_ref (T:="tuple") (U:="int") (by decide) ⟨_,ho,rfl⟩ (λs'=>typeIs_int s' 0 t) zco PySem.F.fills_int_mul PySem.F.slot_int_rmul zd3 PySem.F.slot_int_index.lookup
   (call_meets PySem.F.slot_int_rmul (typeIs_int s 0 t) PySem.F.entry_int_rmul (PySem.F.args_int_rmul_2 _ _) (zbf 0 t a its.toArray n dd sl)
     ⟨ho,rfl,⟨_,ho,rfl⟩,call_meets PySem.F.slot_tuple_mul ⟨_,ho,rfl⟩ PySem.F.entry_tuple_mul (PySem.F.args_tuple_mul_2 _ _) (zjr a its.toArray n t dd sl he) ⟨ho,?_⟩⟩)
  refine⟨.ref s.heap.objs.size,_,I.laid (t':=s.toks) (o:= .tup []) (λb ob q=>ζc _ q) (ζt _) ?_,rfl,q _ (I.hok.fresh (ζt _))⟩
  exact⟨by decide,[], .nil,IsTup.new _ _,NoDict.new rfl (ζj _ rfl)⟩
end L2
namespace RW
open PySem PySem.Spec PyProof.Rows L2
noncomputable def l2(p:Str×Str):List Str:=[p.1,p.2]
theorem zko(p q:Str×Str):ltL (l2 p) (l2 q)=ltP p q:=by
 obtain⟨a,b⟩:=p
 obtain⟨c,d⟩:=q
 show ltL [a,b] [c,d]=_
 unfold ltP
 rw[ltL,ltL,ltL]
theorem zmC{p q:Str×Str}(h:l2 p=l2 q):p=q:=by
 unfold l2 at h
 injection h with h1 h2
 injection h2 with h2
 exact Prod.ext h1 h2
noncomputable abbrev Wy:=Option (List Str)
noncomputable abbrev zaH:=Str×Str×Wy×List Wy
noncomputable def zcR:Wy->D
 |none=> .non
 |some w=> .tup (w.map D.str)
noncomputable def rwD(r:zaH):D:= .tup [.str r.1, .str r.2.1,zcR r.2.2.1, .tup (r.2.2.2.map zcR)]
noncomputable def stD(s:List zaH):D:= .tup (s.map rwD)
def WyOk(hs:List Str)(a:Str):Wy->Prop
 |none=>True
 |some w=>(∃ws,w=a::ws)/\(∀z∈w,z∈hs)/\w.Nodup
structure RowOk(hs:List Str)(r:zaH):Prop where
 a:r.1∈hs
 b:r.2.1∈hs
 hd:WyOk hs r.1 r.2.2.1
 wt:∀x∈r.2.2.2,WyOk hs r.1 x
 len:r.2.2.2.length<=3
structure StOk(hs:List Str)(s:List zaH):Prop where
 row:∀r∈s,RowOk hs r
 nd:(s.map λr=>(r.1,r.2.1)).Nodup
 len:s.length<=90
theorem WyOk.len{hs:List Str}{a:Str}{w:List Str}(h:WyOk hs a (some w))(l:hs.length<=10):w.length<=10:=ξa (zbT h.2.2 h.2.1) l
theorem zh7{H:Hp}{u:V}{o:Wy}(r:Rep H u (zcR o)):Told H u o:=by
 cases o with
 |none=>cases r;rfl
 |some w=>exact zc0 r
theorem zh4{H:Hp}{u:V}{o:Wy}(t:Told H u o)(h:∀w,o=some w->w.length<=1000/\∀x∈w,x.length<=1000):Rep H u (zcR o):=by
 cases o with
 |none=>cases (show u= .non from t);exact .non
 |some w=>
  obtain⟨p,rfl,hp⟩:=t
  exact .mkL hp (by rw[ζa];exact(h w rfl).1) (zdQ (h w rfl).2)
theorem zrV{H:Hp}{vs:List V}{d1 d2 d3 d4:D}(r:RepL H vs [d1,d2,d3,d4]):∃v1 v2 v3 v4,vs=[v1,v2,v3,v4]/\Rep H v1 d1/\Rep H v2 d2/\Rep H v3 d3/\Rep H v4 d4:=by
 match vs,r with
 |[v1,v2,v3,v4],r=>exact ⟨v1,v2,v3,v4,rfl,r.2 0 _ _ rfl rfl,r.2 1 _ _ rfl rfl,r.2 2 _ _ rfl rfl,r.2 3 _ _ rfl rfl⟩
 |[],r=>exact absurd r.1 (by simp)
 |[_],r=>exact absurd r.1 (by simp)
 |[_,_],r=>exact absurd r.1 (by simp)
 |[_,_,_],r=>exact absurd r.1 (by simp)
 |_::_::_::_::_::_,r=>exact absurd r.1 (by simp)
theorem zg5{H:Hp}{v:V}{r:zaH}(h:Rep H v (rwD r)):∃p u q ws,v= .ref p/\H p=some (.tup [.str r.1, .str r.2.1,u, .ref q])/\Told H u r.2.2.1/\H q=some (.tup ws)/\RepL H ws (r.2.2.2.map zcR):=by
 obtain⟨p,vs,rfl,hp,rl,_⟩:=h.ofT
 obtain⟨v1,v2,v3,v4,rfl,r1,r2,r3,r4⟩:=zrV rl
 cases r1 with|str _ _=>
 cases r2 with|str _ _=>
 obtain⟨q,ws,rfl,hq,rw,_⟩:=r4.ofT
 exact⟨p,v3,q,ws,rfl,hp,zh7 r3,hq,rw⟩
theorem zjT{H:Hp}{p q:Addr}{u:V}{ws:List V}{r:zaH}(hp:H p=some (.tup [.str r.1, .str r.2.1,u, .ref q]))(l1:r.1.length<=1000)(l2:r.2.1.length<=1000)(ru:Rep H u (zcR r.2.2.1))(hq:H q=some (.tup ws))(rw:RepL H ws (r.2.2.2.map zcR))(lw:r.2.2.2.length<=1000):Rep H (.ref p) (rwD r):=
 .mkL hp (Nat.le_of_ble_eq_true rfl) (.cons (.str _ l1) (.cons (.str _ l2) (.cons ru (.cons (.mkL hq (by rw[ζa];exact lw) rw) .nil))))
section
variable(hs:List Str)(lks hds:List D)
noncomputable def zeQ(x:Str)(r:zaH):Option WM:=if r.2.1=x then(match r.2.2.1 with|none=>none|some w=>if x∈w then none else(zI hs lks hds (x::w)).map λm=>(x::w,m))else none
noncomputable def za1(x:Str)(s:List zaH):List WM:=s.filterMap (zeQ hs lks hds x)
end
noncomputable def zkn(rs:List D)(b:Option WM)(e:WM):Option WM:=match b with
 |none=>some e
 |some b'=>if ltE rs e b'=true then some e else some b'
noncomputable def zmq(rs:List D)(es:List WM):Option WM:=es.foldl (zkn rs) none
theorem zkJ{rs:List D}{es:List WM}{b:Option WM}{e:WM}(h:zeP rs es b):zeP rs (es ++ [e]) (zkn rs b e):=by
 cases b with
 |none=>
  cases(show es=[] from h)
  exact⟨List.mem_singleton.mpr rfl,λe' he' n=>absurd (by rw[List.mem_singleton.mp he']) n⟩
 |some b=>
  obtain⟨hb,hm⟩:=h
  unfold zkn
  by_cases c:ltE rs e b=true
  ·dsimp only
   rw[if_pos c]
   refine⟨ξl _ (List.mem_singleton.mpr rfl),λe' he' n=>?_⟩
   rcases List.mem_append.mp he' with he'|he'
   ·by_cases z:kE rs e'=kE rs b
    ·rw[z];exact c
    ·exact zi3 c (hm e' he' z)
   ·exact absurd (by rw[List.mem_singleton.mp he']) n
  ·dsimp only
   rw[if_neg c]
   refine⟨List.mem_append_left _ hb,λe' he' n=>?_⟩
   rcases List.mem_append.mp he' with he'|he'
   ·exact hm e' he' n
   ·rw[List.mem_singleton.mp he'] at n⊢
    exact zig n (tru c)
theorem zqa{rs:List D}{es:List WM}:zeP rs es (zmq rs es):=by
 have go:∀(zs es:List WM) (b:Option WM),zeP rs es b->zeP rs (es ++zs) (zs.foldl (zkn rs) b):=by
  intro zs
  induction zs with
  |nil=>intro es b h;rw[ξw];exact h
  |cons z zs ih=>
   intro es b h
   have:=ih (es ++ [z]) _ (zkJ h)
   rw[ξp] at this
   exact this
 exact go es [] none rfl
section
variable(g:Str)(hs:List Str)(lks hds:List D)
noncomputable def zd8(x:Str)(s:List zaH):Option WM:=if x=g then some ([x],[])else zmq (zK hs lks x) (za1 hs lks hds x s)
noncomputable def zcU(fd:Option WM)(to:Str):Wy:=match fd with
 |none=>none
 |some e=>match zv e.1 (some to) (zK hs hds (e.1.headD "")) e.2 with
  |none=>none
  |some _=>some e.1
end
section
variable{g:Str}{hs:List Str}{lks hds:List D}
theorem zdn{x:Str}{s:List zaH}{e:WM}(h:e∈za1 hs lks hds x s):∃r∈s,r.2.1=x/\∃w,r.2.2.1=some w/\x∉w/\zI hs lks hds (x::w)=some e.2/\e.1=x::w:=by
 obtain⟨r,hr,e1⟩:=List.mem_filterMap.mp h
 unfold zeQ at e1
 by_cases c:r.2.1=x
 ·rw[if_pos c] at e1
  cases hw:r.2.2.1 with
  |none=>rw[hw] at e1;cases e1
  |some w=>
   rw[hw] at e1
   dsimp only at e1
   by_cases d:x∈w
   ·rw[if_pos d] at e1;cases e1
   ·rw[if_neg d] at e1
    cases hm:zI hs lks hds (x::w)with
    |none=>rw[hm] at e1;cases e1
    |some m=>
     rw[hm] at e1
     cases e1
     exact⟨r,hr,c,w,hw,d,hm,rfl⟩
 ·rw[if_neg c] at e1;cases e1
theorem zo5{x:Str}{s:List zaH}:∀e∈za1 hs lks hds x s,∀e'∈za1 hs lks hds x s,e.1=e'.1->e=e':=by
 intro e he e' he' h
 obtain⟨_,_,_,w,_,_,h1,h2⟩:=zdn he
 obtain⟨_,_,_,w',_,_,h1',h2'⟩:=zdn he'
 rw[←h2] at h1
 rw[←h2',←h,h1] at h1'
 exact Prod.ext h (ξh h1')
theorem znw{x:Str}:∀{s:List zaH},StOk hs s->((za1 hs lks hds x s).map (·.1)).Nodup:=by
 intro s
 induction s with
 |nil=>intro _;exact List.nodup_nil
 |cons r s ih=>
  intro S
  have nd:=S.nd
  rw[ξt,List.nodup_cons] at nd
  have S':StOk hs s:=⟨λr hr=>S.row r (ξc _ hr),nd.2,by have:=S.len;rw[ζv] at this;omega⟩
  have ih:=ih S'
  unfold za1 at ih⊢
  rw[List.filterMap_cons]
  cases e:zeQ hs lks hds x r with
  |none=>exact ih
  |some f=>
   dsimp only
   rw[ξt,List.nodup_cons]
   refine⟨λhm=>?_,ih⟩
   obtain⟨f',hf',ef⟩:=List.mem_map.mp hm
   obtain⟨r',hr',e1,w,hw,_,_,e2⟩:=zdn (s:=s) hf'
   obtain⟨r1,hr1,e1',w',hw',_,_,e2'⟩:=zdn (hs:=hs) (lks:=lks) (hds:=hds) (x:=x) (s:=[r]) (e:=f) (by unfold za1;rw[List.filterMap_cons,e];exact ζo)
   rw[List.mem_singleton] at hr1
   subst hr1
   have ew:w=w':=by rw[e2,e2'] at ef;injection ef
   have o1:=(S.row r' (ξc _ hr')).hd
   have o2:=(S.row r1 ζo).hd
   rw[hw,ew] at o1
   rw[hw'] at o2
   obtain⟨⟨ws,p1⟩,_⟩:=o1
   obtain⟨⟨ws',p2⟩,_⟩:=o2
   have ha:r'.1=r1.1:=by rw[p1] at p2;injection p2
   exact nd.1 (List.mem_map.mpr ⟨r',hr',by rw[ha,e1,e1']⟩)
end
noncomputable def zeD(s:List zaH):List D:=s.flatMap λr=>(List.range r.2.2.2.length).map λ(k:Nat)=> .tup [.str r.1, .str r.2.1, .int k]
theorem zhg{hs:List Str}{s:List zaH}(S:∀r∈s,RowOk hs r):(zeD s).length<=3*s.length:=by
 induction s with
 |nil=>exact ζt _
 |cons r s ih=>
  have:=(S r ζo).len
  have ih:=ih λr hr=>S r (ξc _ hr)
  unfold zeD at ih⊢
  rw[List.flatMap_cons,ζe,ζa,List.length_range,ζv]
  omega
theorem znL{s:List zaH}{d:D}(h:d∈zeD s):∃r∈s,∃k:Nat,k<r.2.2.2.length/\d= .tup [.str r.1, .str r.2.1, .int k]:=by
 obtain⟨r,hr,h⟩:=List.mem_flatMap.mp h
 obtain⟨k,hk,rfl⟩:=List.mem_map.mp h
 exact⟨r,hr,k,List.mem_range.mp hk,rfl⟩
theorem zku{H:Hp}{l:Addr}{vs:List V}{ds:List D}(e:H l=some (.lst vs))(r:RepL H vs ds)(ok:∀d∈ds,okD d=true):Tr H (.ref l) (.list (pyL ds)):=by
 rw[zbS]
 refine .lst e (by rw[r.1,ζa]) λi v d e1 e2=>?_
 rw[ζp] at e2
 cases e3:ds[i]? with
 |none=>rw[e3] at e2;cases e2
 |some d'=>
  rw[e3] at e2;cases e2
  exact zpO (r.2 i v d' e1 e3) (ok d' (ζk e3))
theorem zj7{c:Nat}:∀(ts:List Str) (k:Nat) (acc:Str),(∀t∈ts,t.length<=c)->(textFrom k acc ts).length<=acc.length+ts.length*(c+2)
 |[],k,acc,_=>by rw[textFrom];omega
 |t::ts,k,acc,h=>by
  rw[textFrom]
  refine ξa (zj7 ts _ _ λx hx=>h x (ξc _ hx)) ?_
  rw[zcI,zcI,ζv]
  have h1:=h t ζo
  have h2:(Str.ofString (if k>0 then", "else "":String)).length<=2:=by split<;>decide
  have h3:(Str.ofString (if k>0 then", "else "")).length<=2:=h2
  have e:(ts.length+1)*(c+2)=ts.length*(c+2)+(c+2):=Nat.succ_mul _ _
  rw[e]
  omega
theorem zpl{ds:List D}{c k:Nat}(m:Nat)(hm:ds.length<=m)(h:∀d∈ds,Shw c k d):(PyData.list (pyL ds)).showable=true/\(PyData.list (pyL ds)).depth<=k+1/\(PyData.list (pyL ds)).shown.length<=m*(c+2)+3:=by
 refine⟨?_,?_,?_⟩
 ·rw[PyData.showable,zbS]
  exact zb2 λx hx=>by obtain⟨d,hd,rfl⟩:=List.mem_map.mp hx;exact(h d hd).2.1
 ·rw[PyData.depth,zbS]
  have:=zcY (n:=k) (xs:=ds.map pyD) λx hx=>by obtain⟨d,hd,rfl⟩:=List.mem_map.mp hx;exact(h d hd).2.2.1
  omega
 ·rw[PyData.shown,zbS,zcH,List.map_map]
  have hc:∀x∈ds.map (PyData.shown∘pyD),x.length<=c:=λx hx=>by obtain⟨d,hd,rfl⟩:=List.mem_map.mp hx;exact(h d hd).2.2.2
  have:ds.length*(c+2)<=m*(c+2):=Nat.mul_le_mul_right _ hm
  have tl:=zj7 (ds.map (PyData.shown∘pyD)) 0 "[" hc
  rw[ζa] at tl
  unfold listText
  rw[zcI]
  have l1:("[":Str).length=1:=rfl
  have l2:("]":Str).length=1:=rfl
  rw[l1] at tl
  rw[l2]
  omega
theorem zo9{hs:List Str}{s:List zaH}(S:∀r∈s,RowOk hs r)(hn:∀x∈hs,zh x=true):∀d∈zeD s,Shw 255 2 d:=by
 intro d hd
 obtain⟨r,hr,k,hk,rfl⟩:=znL hd
 have ok:=S r hr
 have:=ok.len
 refine zax (ds:=[.str r.1, .str r.2.1, .int k]) (c:=82) (k:=1) 3 (ζt 3) λd hd=>?_
 simp only[List.mem_cons,ψb,or_false] at hd
 rcases hd with rfl|rfl|rfl
 ·exact zby (hn _ ok.a)
 ·exact zby (hn _ ok.b)
 ·exact zhe (by omega) (by omega)
end RW
namespace L2
open PySem PySem.Spec PyProof.Rows
structure FunV(K:ξk)(x qual:Str)(st:Stmt)(f:Addr)(fd:FuncData)(dv:Value):Prop where
 ex:∃(oc:Value) (od:Option Addr) (dt:Addr) (kV doc pm:Value) (an:Option Addr) (cdv ct:Value) (osl:Array (Option Value)) (od2:Option Addr) (n2:Nat) (sl2:Array (Option Value)),
  fd=PySem.W.fnOf x qual (zp st) (zo st) (zc st) (.ref dt) kV doc pm an cdv ct/\K.lookup f=some ⟨oc,od, .func fd,osl⟩/\PySem.W.codeIn K cdv qual=true/\K.lookup dt=some ⟨.type "tuple",od2, .seq #[dv] n2,sl2⟩
 kp:PySem.W.keepIn K (.ref f)=true
section
variable{P:Program}{w:World}{K:ξk}{mg:Str->Option Value}{base:Heap}
end
end L2
namespace RW
open PySem PySem.Spec PyProof.Rows L2
structure AtV(K:ξk)(mg:Str->Option Value)(x:Str)(st:Stmt)(ps:List Str)(f:Addr)(fd:FuncData)(c:V)(dv:Value):Prop where
 fn:FunV K x x st f fd dv
 b:Binds K fd ps []
 bd:Binds K fd ps [dv]
 rel:RelV c dv
 mg:mg x=some (.ref f)
 kp:PySem.W.keepIn K (.ref f)=true
theorem hu8{k:Nat}{A:Around}(r:Room k A):A.units+8<cLine:=by have:=r.un;omega
theorem zeT:∀{xs:List Str},(∀x∈xs,PyData.strOk x=true)->PyData.canLayAll0 (xs.map PyData.str)=true
 |[],_=>rfl
 |x::xs,h=>by
  rw[ξt,PyData.canLayAll0,PyData.canLay0,h x ζo,zeT λy hy=>h y (ξc _ hy)];rfl
theorem zp1{k:za7}(h1:∀x∈k.1,PyData.strOk x=true)(h2:PyData.strOk k.2=true):(wkD k).canLay0=true:=by
 unfold wkD
 rw[PyData.canLay0,PyData.canLayAll0,PyData.canLayAll0,PyData.canLayAll0,PyData.canLay0,PyData.canLay0,zeT h1,h2];rfl
section
variable{X:Cx}{K:ξk}
end
theorem zi1{xs:List (za7×Addr×Value)}{k:za7}{b:Addr}{r:Value}(h:atKey xs k=none):atKey (xs ++ [(k,b,r)]) k=some (b,r):=by
 unfold atKey at h⊢
 rw[List.find?_append]
 cases e:xs.find? λx=>decide (x.1=k)with
 |some y=>rw[e] at h;cases h
 |none=>simp
theorem zkP{xs:List (za7×Addr×Value)}{k:za7}{p:Addr×Value}(h:atKey xs k=some p):(k,p)∈xs:=by
 unfold atKey at h
 cases e:xs.find? λx=>decide (x.1=k)with
 |none=>rw[e] at h;cases h
 |some y=>
  rw[e] at h
  cases h
  have h1:=List.mem_of_find?_eq_some e
  have h2:y.1=k:=by simpa using List.find?_some e
  rw[←h2];exact h1
theorem znA{hs:List Str}{a:Str}{o:Wy}(hn:∀x∈hs,zh x=true)(h10:hs.length<=10)(ok:WyOk hs a o):Shw 845 2 (zcR o):=by
 cases o with
 |none=>exact shw_non.mono (by decide) (by decide)
 |some w=>
  refine(zax (ds:=w.map D.str) (c:=82) (k:=1) 10 (by rw[ζa];exact WyOk.len ok h10) λd hd=>?_).mono (by decide) (by decide)
  obtain⟨y,hy,rfl⟩:=List.mem_map.mp hd
  exact zby (hn y (ok.2.1 y hy))
theorem zj9{hs:List Str}{r:zaH}(hn:∀x∈hs,zh x=true)(h10:hs.length<=10)(ok:RowOk hs r):Shw 10411 4 (rwD r):=by
 refine(zax (ds:=[.str r.1, .str r.2.1,zcR r.2.2.1, .tup (r.2.2.2.map zcR)]) (c:=2600) (k:=3) 4 (ζt 4) λd hd=>?_).mono (by decide) (by decide)
 simp only[List.mem_cons,ψb,or_false] at hd
 rcases hd with rfl|rfl|rfl|rfl
 ·exact (zby (hn _ ok.a)).mono (by decide) (by decide)
 ·exact (zby (hn _ ok.b)).mono (by decide) (by decide)
 ·exact (znA hn h10 ok.hd).mono (by decide) (by decide)
 ·refine (zax (ds:=r.2.2.2.map zcR) (c:=845) (k:=2) 3 (by rw[ζa];exact ok.len) λd hd=>?_).mono (by decide) (by decide)
  obtain⟨o,ho,rfl⟩:=List.mem_map.mp hd
  exact znA hn h10 (ok.wt o ho)
theorem zq4{hs:List Str}{s:List zaH}(hn:∀x∈hs,zh x=true)(h10:hs.length<=10)(S:StOk hs s):Shw 1000000 5 (stD s):=by
 refine(zax (ds:=s.map rwD) (c:=10411) (k:=4) 90 (by rw[ζa];exact S.len) λd hd=>?_).mono (by decide) (by decide)
 obtain⟨r,hr,rfl⟩:=List.mem_map.mp hd
 exact zj9 hn h10 (S.row r hr)
theorem zcm{H H':Hp}{v:V}{d:D}(h:Rep H v d)(m:∀c xs,H c=some (.tup xs)->H' c=some (.tup xs)):okD d=true->Rep H' v d:=by
 induction h with
 |non=>exact λ_=> .non
 |bl b=>exact λ_=> .bl b
 |int i=>exact λ_=> .int i
 |str x h=>exact λ_=> .str x h
 |tup h l b r ih=>
  intro o
  rw[okD] at o
  exact .tup (m _ _ h) l b λi v d e1 e2=>ih i v d e1 e2 (zgO o d (ζk e2))
 |lst h=>intro o;cases o
 |dK h=>intro o;cases o
theorem zjp{H H':Hp}{vs:List V}{ds:List D}(h:RepL H vs ds)(m:∀c xs,H c=some (.tup xs)->H' c=some (.tup xs))(ok:∀d∈ds,okD d=true):RepL H' vs ds:=⟨h.1,λi v d e1 e2=>zcm (h.2 i v d e1 e2) m (ok d (ζk e2))⟩
end RW
namespace RS
open PySem PyProof.Rows
noncomputable def zff:Bool->Keyed->Array Keyed->Nat->Nat->Nat->StateT SortSt Sem (Option Nat):=sortPriv%PySem.Builtin.gallop
noncomputable def zni:Array Keyed->Array Keyed->StateT SortSt Sem (Array Keyed):=sortPriv%PySem.Builtin.mergeLo
noncomputable def zlQ:Array Keyed->Array Keyed->StateT SortSt Sem (Array Keyed):=sortPriv%PySem.Builtin.mergeHi
section
variable{prog:Program}{w:World}{A:Around}{E:Value->Shared->Prop}{s:Shared}{κ:SortKind}{a₀:List Keyed}{L:Keyed->Keyed->Bool}{st:SortSt}
structure Cmp(prog:Program)(w:World)(A:Around)(s:Shared)(κ:SortKind)(a₀:List Keyed)(L:Keyed->Keyed->Bool):Prop where
 tot:∀x∈a₀,∀y∈a₀,x≠y->L x y=false->L y x=true
 tr:∀x∈a₀,∀y∈a₀,∀z∈a₀,L x y=true->L y z=true->L x z=true
 asy:∀x∈a₀,∀y∈a₀,L x y=true->L y x=false
 nd:a₀.Nodup
 ask:∀x∈a₀,∀y∈a₀,∀C:Bool->Shared->Prop,C (L x y) s->wpAny (model prog w) A (keyLt' κ x.1 y.1) C (λ_ _=>False) s
theorem Cmp.lt(C:Cmp prog w A s κ a₀ L){x y:Keyed}(hx:x∈a₀)(hy:y∈a₀)(hk:kindOf st=κ){Q:Option Bool->SortSt->Prop}(q:Q (some (L x y)) st):wpS (model prog w) A E s (lt' x y) Q st:=by
 rw[lt'_eq]
 refine wpS_bind (wpS_get ?_)
 rw[hk]
 refine wpS_bind (wpS_lift (wpAny_attempt (ψc (C.ask x hx y hy (λb s'=>s'=s/\b=L x y) ⟨rfl,rfl⟩) (λb s' hc=>?_) λ_ _ hF=>hF.elim)))
 obtain⟨rfl,rfl⟩:=hc
 exact⟨rfl,wpS_pure q⟩
theorem zP{arr:Array Keyed}{i:Nat}{x:Keyed}(h:arr[i]?=some x){Q:Keyed->SortSt->Prop}(q:Q x st):wpS (model prog w) A E s (elem' arr i) Q st:=by
 rw[elem'_eq,h];exact wpS_pure q
noncomputable def bey(left:Bool)(key:Keyed)(arr:Array Keyed)(base i:Nat):StateT SortSt Sem (Option Bool):=do
 let x ←elem' arr (base+i);if left then lt' x key else return(←lt' key x).map (!·)
noncomputable def zdu(L:Keyed->Keyed->Bool)(left:Bool)(key x:Keyed):Bool:=if left then L x key else !L key x
theorem zqM(C:Cmp prog w A s κ a₀ L){left:Bool}{key x:Keyed}{arr:Array Keyed}{base i:Nat}(h:arr[base+i]?=some x)(hx:x∈a₀)(hy:key∈a₀)(hk:kindOf st=κ){Q:Option Bool->SortSt->Prop}(q:Q (some (zdu L left key x)) st):
 wpS (model prog w) A E s (bey left key arr base i) Q st:=by
 refine wpS_bind (zP h ?_)
 cases left with
 |true=>rw[if_pos rfl];exact C.lt hx hy hk q
 |false=>rw[if_neg (by decide)];exact wpS_bind (C.lt hy hx hk (wpS_pure q))
theorem zkQ{left:Bool}{key:Keyed}{arr:Array Keyed}{base n hint:Nat}{f:Nat->Bool}(hb:∀i<n,∀Q:Option Bool->SortSt->Prop,Q (some (f i)) st->wpS (model prog w) A E s (bey left key arr base i) Q st)
 (hm:∀i j,i<j->j<n->f j=true->f i=true) (hh:hint<n) {Q:Option Nat->SortSt->Prop} (q:∀k,k<=n->(∀i<k,f i=true)->(∀i,k<=i->i<n->f i=false)->Q (some k) st):
 wpS (model prog w) A E s (zff left key arr base n hint) Q st:=by
 have dn:∀i j,i<j->j<n->f i=false->f j=false:=λi j h1 h2 h3=>by
  cases h:f j with
  |false=>rfl
  |true=>rw[hm i j h1 h2 h] at h3;exact absurd h3 (by decide)
 refine wpS_bind (hb hint hh _ ?_)
 dsimp only
 cases hr:f hint with
 |true=>
  rw[if_pos rfl]
  refine wpS_bind (wpS_mono (wpS_forRange
   (I:=λit (c:DescSt) st'=>st'=st/\c.1=none/\c.2.1<c.2.2/\hint+c.2.1<n/\f (hint+c.2.1)=true/\it+1<=c.2.2)
   (Q:=λ(c:DescSt) st'=>st'=st/\c.1=none/\c.2.1<c.2.2/\hint+c.2.1<n/\f (hint+c.2.1)=true/\(c.2.2≥n -hint\/(c.2.2<n -hint/\f (hint+c.2.2)=false))) ?_ ?_ ⟨rfl,rfl,Nat.zero_lt_one,hh,hr,ζt _⟩) ?_)
  ·rintro it ⟨r,la,ofs⟩ st' _ hit ⟨rfl,rfl,h1,h2,h3,h4⟩
   dsimp only at *
   by_cases hc:ofs≥n -hint
   ·rw[if_pos hc];exact wpS_pure ⟨rfl,rfl,h1,h2,h3, .inl hc⟩
   ·rw[if_neg hc]
    refine wpS_bind (hb _ (by omega) _ ?_)
    dsimp only
    cases hf:f (hint+ofs)with
    |false=>exact wpS_pure ⟨rfl,rfl,h1,h2,h3, .inr ⟨by dsimp only;omega,hf⟩⟩
    |true=>exact wpS_pure ⟨rfl,rfl,by dsimp only;omega,by dsimp only;omega,hf,by dsimp only;omega⟩
  ·rintro ⟨r,la,ofs⟩ st' ⟨rfl,rfl,h1,h2,h3,h4⟩
   refine⟨rfl,rfl,h1,h2,h3, .inl ?_⟩
   dsimp only at *;omega
  ·rintro ⟨r,la,ofs⟩ st' ⟨rfl,rfl,h1,h2,h3,h4⟩
   dsimp only at *
   refine wpS_bind (wpS_mono (wpS_forRange
    (I:=λit (c:DescSt) st''=>st''=st'/\c.1=none/\c.2.1<=c.2.2/\c.2.2<=n/\(∀i<c.2.1,f i=true)/\(∀i,c.2.2<=i->i<n->f i=false)/\c.2.2 -c.2.1+it<=n)
    (Q:=λ(c:DescSt) st''=>st''=st'/\c.1=none/\c.2.1=c.2.2/\c.2.2<=n/\(∀i<c.2.1,f i=true)/\(∀i,c.2.2<=i->i<n->f i=false)) ?_ ?_ ⟨rfl,rfl,?_,?_,?_,?_,?_⟩) ?_)
   ·rintro it ⟨r,lo,hi⟩ st' _ hit ⟨rfl,rfl,g1,g2,g3,g4,g5⟩
    dsimp only at *
    by_cases hc:lo≥hi
    ·rw[if_pos hc];exact wpS_pure ⟨rfl,rfl,by dsimp only;omega,g2,g3,g4⟩
    ·rw[if_neg hc]
     refine wpS_bind (hb _ (by omega) _ ?_)
     dsimp only
     cases hf:f (lo+(hi -lo)/2)with
     |true=>
      refine wpS_pure ⟨rfl,rfl,by dsimp only;omega,g2,λi hi'=>?_,g4,by dsimp only;omega⟩
      by_cases e:i=lo+(hi -lo)/2
      ·subst e;exact hf
      ·exact hm i _ (by dsimp only at hi';omega) (by omega) hf
     |false=>
      refine wpS_pure ⟨rfl,rfl,by dsimp only;omega,by dsimp only;omega,g3,λi hi' hn=>?_,by dsimp only;omega⟩
      by_cases e:i=lo+(hi -lo)/2
      ·subst e;exact hf
      ·exact dn _ i (by dsimp only at hi';omega) hn hf
   ·rintro ⟨r,lo,hi⟩ st'' ⟨rfl,rfl,g1,g2,g3,g4,g5⟩
    exact⟨rfl,rfl,by dsimp only at *;omega,g2,g3,g4⟩
   ·dsimp only;omega
   ·dsimp only;omega
   ·intro i hi
    dsimp only at hi
    by_cases e:i=hint+la
    ·subst e;exact h3
    ·exact hm i _ (by omega) h2 h3
   ·intro i hi hn
    dsimp only at hi
    rcases h4 with h4|⟨h4,h5⟩
    ·omega
    ·by_cases e:i=hint+ofs
     ·subst e;exact h5
     ·exact dn _ i (by omega) hn h5
   ·dsimp only;omega
   ·rintro ⟨r,lo,hi⟩ st'' ⟨rfl,rfl,g1,g2,g3,g4⟩
    dsimp only at *
    subst g1
    exact wpS_pure (q _ g2 g3 g4)
 |false=>
  rw[if_neg (by decide)]
  refine wpS_bind (wpS_mono (wpS_forRange
   (I:=λit (c:DescSt) st'=>st'=st/\c.1=none/\c.2.1<c.2.2/\c.2.1<=hint/\f (hint -c.2.1)=false/\it+1<=c.2.2)
   (Q:=λ(c:DescSt) st'=>st'=st/\c.1=none/\c.2.1<c.2.2/\c.2.1<=hint/\f (hint -c.2.1)=false/\(c.2.2≥hint+1\/(c.2.2<hint+1/\f (hint -c.2.2)=true))) ?_ ?_ ⟨rfl,rfl,Nat.zero_lt_one,ξi _,hr,ζt _⟩) ?_)
  ·rintro it ⟨r,la,ofs⟩ st' _ hit ⟨rfl,rfl,h1,h2,h3,h4⟩
   dsimp only at *
   by_cases hc:ofs≥hint+1
   ·rw[if_pos hc];exact wpS_pure ⟨rfl,rfl,h1,h2,h3, .inl hc⟩
   ·rw[if_neg hc]
    refine wpS_bind (hb _ (by omega) _ ?_)
    dsimp only
    cases hf:f (hint -ofs)with
    |true=>exact wpS_pure ⟨rfl,rfl,h1,h2,h3, .inr ⟨by dsimp only;omega,hf⟩⟩
    |false=>exact wpS_pure ⟨rfl,rfl,by dsimp only;omega,by dsimp only;omega,hf,by dsimp only;omega⟩
  ·rintro ⟨r,la,ofs⟩ st' ⟨rfl,rfl,h1,h2,h3,h4⟩
   refine⟨rfl,rfl,h1,h2,h3, .inl ?_⟩
   dsimp only at *;omega
  ·rintro ⟨r,la,ofs⟩ st' ⟨rfl,rfl,h1,h2,h3,h4⟩
   dsimp only at *
   refine wpS_bind (wpS_mono (wpS_forRange
    (I:=λit (c:DescSt) st''=>st''=st'/\c.1=none/\c.2.1<=c.2.2/\c.2.2<=n/\(∀i<c.2.1,f i=true)/\(∀i,c.2.2<=i->i<n->f i=false)/\c.2.2 -c.2.1+it<=n)
    (Q:=λ(c:DescSt) st''=>st''=st'/\c.1=none/\c.2.1=c.2.2/\c.2.2<=n/\(∀i<c.2.1,f i=true)/\(∀i,c.2.2<=i->i<n->f i=false)) ?_ ?_ ⟨rfl,rfl,?_,?_,?_,?_,?_⟩) ?_)
   ·rintro it ⟨r,lo,hi⟩ st' _ hit ⟨rfl,rfl,g1,g2,g3,g4,g5⟩
    dsimp only at *
    by_cases hc:lo≥hi
    ·rw[if_pos hc];exact wpS_pure ⟨rfl,rfl,by dsimp only;omega,g2,g3,g4⟩
    ·rw[if_neg hc]
     refine wpS_bind (hb _ (by omega) _ ?_)
     dsimp only
     cases hf:f (lo+(hi -lo)/2)with
     |true=>
      refine wpS_pure ⟨rfl,rfl,by dsimp only;omega,g2,λi hi'=>?_,g4,by dsimp only;omega⟩
      by_cases e:i=lo+(hi -lo)/2
      ·subst e;exact hf
      ·exact hm i _ (by dsimp only at hi';omega) (by omega) hf
     |false=>
      refine wpS_pure ⟨rfl,rfl,by dsimp only;omega,by dsimp only;omega,g3,λi hi' hn=>?_,by dsimp only;omega⟩
      by_cases e:i=lo+(hi -lo)/2
      ·subst e;exact hf
      ·exact dn _ i (by dsimp only at hi';omega) hn hf
   ·rintro ⟨r,lo,hi⟩ st'' ⟨rfl,rfl,g1,g2,g3,g4,g5⟩
    exact⟨rfl,rfl,by dsimp only at *;omega,g2,g3,g4⟩
   ·dsimp only;omega
   ·dsimp only;omega
   ·intro i hi
    dsimp only at hi
    rcases h4 with h4|⟨h4,h5⟩
    ·omega
    ·by_cases e:i=hint -ofs
     ·subst e;exact h5
     ·exact hm i _ (by omega) (by omega) h5
   ·intro i hi hn
    dsimp only at hi
    by_cases e:i=hint -la
    ·subst e;exact h3
    ·exact dn _ i (by omega) hn h3
   ·dsimp only;omega
   ·rintro ⟨r,lo,hi⟩ st'' ⟨rfl,rfl,g1,g2,g3,g4⟩
    dsimp only at *
    subst g1
    exact wpS_pure (q _ g2 g3 g4)
end
section
variable{prog:Program}{w:World}{A:Around}{E:Value->Shared->Prop}{s:Shared}{κ:SortKind}{a₀:List Keyed}{L:Keyed->Keyed->Bool}{st:SortSt}
abbrev PW(L:Keyed->Keyed->Bool)(l:List Keyed):Prop:=l.Pairwise (λx y=>L x y=true)
structure MInv(L:Keyed->Keyed->Bool)(tot out X Y:List Keyed):Prop where
 pm:(out ++X ++Y).Perm tot
 sx:PW L (out ++X)
 sy:PW L (out ++Y)
def Mrg(L:Keyed->Keyed->Bool)(tot:List Keyed)(r:Array Keyed):Prop:=r.toList.Perm tot/\PW L r.toList
variable{tot out X Y C X' Y':List Keyed}
theorem MInv.chX(h:MInv L tot out (C ++X') Y)(hc:∀c∈C,∀y∈Y,L c y=true):MInv L tot (out ++C) X' Y:=by
 refine⟨by simpa[ξp] using h.pm,by simpa[ξp] using h.sx,?_⟩
 have h1:=h.sx
 rw[←ξp] at h1
 have h2:=(List.pairwise_append.mp h1).1
 have h3:=List.pairwise_append.mp h.sy
 exact List.pairwise_append.mpr ⟨h2,h3.2.1,λz hz y hy=>by
  rcases List.mem_append.mp hz with hz|hz
  ·exact h3.2.2 z hz y hy
  ·exact hc z hz y hy⟩
theorem MInv.swap(h:MInv L tot out X Y):MInv L tot out Y X:=
 ⟨by
   refine List.Perm.trans ?_ h.pm
   rw[ξp,ξp]
   exact List.Perm.append_left _ List.perm_append_comm,h.sy,h.sx⟩
theorem MInv.endY(h:MInv L tot out X []):(out ++X).Perm tot/\PW L (out ++X):=⟨by simpa using h.pm,h.sx⟩
theorem MInv.endX(h:MInv L tot out [] Y):(out ++Y).Perm tot/\PW L (out ++Y):=⟨by simpa using h.pm,h.sy⟩
theorem MInv.last{x:Keyed}(h:MInv L tot out [x] Y)(hl:∀y∈Y,L y x=true):(out ++Y ++ [x]).Perm tot/\PW L (out ++Y ++ [x]):=by
 refine⟨h.swap.pm,?_⟩
 have h1:=List.pairwise_append.mp h.sx
 refine List.pairwise_append.mpr ⟨h.sy,h1.2.1,λz hz y hy=>?_⟩
 rcases List.mem_append.mp hz with hz|hz
 ·exact h1.2.2 z hz y hy
 ·rw[List.mem_singleton.mp hy];exact hl z hz
structure MI(L:Keyed->Keyed->Bool)(tot:List Keyed)(a b out:Array Keyed)(ia ib:Nat):Prop where
 inv:MInv L tot out.toList (a.toList.drop ia) (b.toList.drop ib)
 la:ia<=a.size
 lb:ib<=b.size
variable{a b o:Array Keyed}{ia ib:Nat}
theorem zdZ(a:Array Keyed)(i k:Nat):(a.extract i (i+k)).toList=(a.toList.drop i).take k:=by
 rw[Array.toList_extract,List.extract_eq_take_drop];congr 1;omega
theorem zct(a:Array Keyed)(i:Nat):(a.extract i a.size).toList=a.toList.drop i:=by
 rw[Array.toList_extract,List.extract_eq_take_drop,List.take_of_length_le];simp
theorem MI.sw(h:MI L tot a b o ia ib):MI L tot b a o ib ia:=⟨h.inv.swap,h.lb,h.la⟩
theorem MI.ta(h:MI L tot a b o ia ib){k:Nat}(hk:ia+k<=a.size)(hc:∀c∈(a.toList.drop ia).take k,∀y∈b.toList.drop ib,L c y=true):MI L tot a b (o ++a.extract ia (ia+k)) (ia+k) ib:=by
 refine⟨?_,hk,h.lb⟩
 rw[ξn,zdZ]
 refine MInv.chX (C:=(a.toList.drop ia).take k) ?_ hc
 have:=h.inv
 rw[←ξr k (a.toList.drop ia),List.drop_drop] at this
 exact this
theorem zhJ{i:Nat}{x:Keyed}(hx:a[i]?=some x):a.toList.drop i=x::a.toList.drop (i+1):=by
 have hi:i<a.size:=(Array.getElem?_eq_some_iff.mp hx).1
 have e:a[i]=x:=(Array.getElem?_eq_some_iff.mp hx).2
 rw[List.drop_eq_getElem_cons (by simpa using hi)]
 simp[e]
theorem MI.ta1(h:MI L tot a b o ia ib){x:Keyed}(hx:a[ia]?=some x)(hc:∀y∈b.toList.drop ib,L x y=true):MI L tot a b (o.push x) (ia+1) ib:=by
 have hi:ia<a.size:=(Array.getElem?_eq_some_iff.mp hx).1
 refine⟨?_,hi,h.lb⟩
 rw[Array.toList_push]
 refine MInv.chX (C:=[x]) ?_ (λc hc' y hy=>by rw[List.mem_singleton.mp hc'];exact hc y hy)
 have:=h.inv
 rw[zhJ hx] at this
 exact this
theorem MI.tb(h:MI L tot a b o ia ib){k:Nat}(hk:ib+k<=b.size)(hc:∀c∈(b.toList.drop ib).take k,∀x∈a.toList.drop ia,L c x=true):MI L tot a b (o ++b.extract ib (ib+k)) ia (ib+k):=(h.sw.ta hk hc).sw
theorem MI.tb1(h:MI L tot a b o ia ib){y:Keyed}(hy:b[ib]?=some y)(hc:∀x∈a.toList.drop ia,L y x=true):MI L tot a b (o.push y) ia (ib+1):=(h.sw.ta1 hy hc).sw
theorem MI.doneB(h:MI L tot a b o ia ib)(e:ib=b.size):Mrg L tot (o ++a.extract ia a.size ++b.extract ib b.size):=by
 have:=h.inv
 rw[List.drop_eq_nil_of_le (as:=b.toList) (by simp;omega)] at this
 have e2:(o ++a.extract ia a.size ++b.extract ib b.size).toList=o.toList ++a.toList.drop ia:=by
  rw[ξn,ξn,zct,zct,List.drop_eq_nil_of_le (as:=b.toList) (by simp;omega),ξw]
 unfold Mrg;rw[e2];exact this.endY
theorem MI.doneA(h:MI L tot a b o ia ib)(e:ia=a.size):Mrg L tot (o ++a.extract ia a.size ++b.extract ib b.size):=by
 have:=h.inv
 rw[List.drop_eq_nil_of_le (as:=a.toList) (by simp;omega)] at this
 have e2:(o ++a.extract ia a.size ++b.extract ib b.size).toList=o.toList ++b.toList.drop ib:=by
  rw[ξn,ξn,zct,zct,List.drop_eq_nil_of_le (as:=a.toList) (by simp;omega),ξw]
 unfold Mrg;rw[e2];exact this.endX
theorem MI.lastA(h:MI L tot a b o ia ib)(e:ia+1=a.size){x:Keyed}(hx:a[ia]?=some x)(hl:∀y∈b.toList,L y x=true):Mrg L tot (o ++b.extract ib b.size ++a.extract ia a.size):=by
 have:=h.inv
 have e1:a.toList.drop ia=[x]:=by rw[zhJ hx,List.drop_eq_nil_of_le (by simp;omega)]
 rw[e1] at this
 have e2:(o ++b.extract ib b.size ++a.extract ia a.size).toList=o.toList ++b.toList.drop ib ++ [x]:=by
  rw[ξn,ξn,zct,zct,e1]
 unfold Mrg;rw[e2];exact this.last λy hy=>hl y (List.mem_of_mem_drop hy)
theorem zbo(Cm:Cmp prog w A s κ a₀ L){left:Bool}{key:Keyed}{arr:Array Keyed}{base n hint:Nat}(hk:kindOf st=κ)(hkey:key∈a₀)(hin:∀i<n,∃x,arr[base+i]?=some x/\x∈a₀)
 (hs:∀i j x y,i<j->j<n->arr[base+i]?=some x->arr[base+j]?=some y->L x y=true) (hh:hint<n) {Q:Option Nat->SortSt->Prop}
 (q:∀k,k<=n->(∀i<k,∀x,arr[base+i]?=some x->zdu L left key x=true)->(∀i,k<=i->i<n->∀x,arr[base+i]?=some x->zdu L left key x=false)->Q (some k) st):
 wpS (model prog w) A E s (zff left key arr base n hint) Q st:=by
 have hg:∀i<n,∀x,arr[base+i]?=some x->arr.getD (base+i) key=x:=λi _ x hx=>by rw[Array.getD_eq_getD_getElem?,hx];rfl
 refine zkQ (f:=λi=>zdu L left key (arr.getD (base+i) key)) (λi hi Q hQ=>?_) (λi j hij hj hf=>?_) hh (λk hkn h1 h2=>q k hkn (λi hi x hx=>?_) (λi hi hn x hx=>?_))
 ·obtain ⟨x,hx,hxm⟩:=hin i hi
  rw[hg i hi x hx] at hQ
  exact zqM Cm hx hxm hkey hk hQ
 ·obtain ⟨x,hx,hxm⟩:=hin i (by omega)
  obtain⟨y,hy,hym⟩:=hin j hj
  rw[hg i (by omega) x hx]
  rw[hg j hj y hy] at hf
  have hxy:=hs i j x y hij hj hx hy
  cases left with
  |true=>exact Cm.tr x hxm y hym key hkey hxy hf
  |false=>
   show(!L key x)=true
   have hf':(!L key y)=true:=hf
   cases e:L key x with
   |false=>rfl
   |true=>rw[Cm.tr key hkey x hxm y hym e hxy] at hf';exact absurd hf' (by decide)
 ·have:=h1 i hi;rw[hg i (by omega) x hx] at this;exact this
 ·have:=h2 i hi hn;rw[hg i hn x hx] at this;exact this
end
section
variable{prog:Program}{w:World}{A:Around}{E:Value->Shared->Prop}{s:Shared}{κ:SortKind}{a₀:List Keyed}{L:Keyed->Keyed->Bool}{st:SortSt}
def Eqv(st st':SortSt):Prop:=kindOf st'=kindOf st/\arrOf st'=arrOf st/\pendingOf st'=pendingOf st/\failedOf st'=failedOf st
theorem Eqv.refl(st:SortSt):Eqv st st:=⟨rfl,rfl,rfl,rfl⟩
noncomputable def zl8:Nat->StateT SortSt Sem Unit:=sortPriv%PySem.Builtin.setMinGallop
theorem zef{st0:SortSt}{g:Nat}{Q:Unit->SortSt->Prop}(h:Eqv st0 st)(q:∀st',Eqv st0 st'->Q () st'):wpS (model prog w) A E s (zl8 g) Q st:=by
 refine wpS_modify (f:=λz=>SortSt.mk' (kindOf z) (arrOf z) (pendingOf z) g (failedOf z)) (q _ ?_)
 exact h
structure MSet(L:Keyed->Keyed->Bool)(a₀:List Keyed)(a b:Array Keyed):Prop where
 sa:PW L a.toList
 sb:PW L b.toList
 ma:∀x∈a.toList,x∈a₀
 mb:∀x∈b.toList,x∈a₀
 dj:∀x∈a.toList,∀y∈b.toList,x≠y
variable{a b o:Array Keyed}{ia ib:Nat}{tot:List Keyed}
structure Live(L:Keyed->Keyed->Bool)(tot:List Keyed)(a b:Array Keyed)(c0:Nat)(o:Array Keyed)(ia ib:Nat):Prop where
 mi:MI L tot a b o ia ib
 l1:ia+1<a.size
 l2:ib<b.size
 c:c0<=ia+ib
theorem zt{i:Nat}{x:Keyed}(h:a[i]?=some x):x∈a.toList:=by simpa using Array.mem_of_getElem? h
theorem zar{i:Nat}(h:i<a.size):∃x,a[i]?=some x:=⟨_,Array.getElem?_eq_getElem h⟩
theorem zil{l:List Keyed}(h:PW L l){i j:Nat}{x y:Keyed}(hij:i<j)(hx:l[i]?=some x)(hy:l[j]?=some y):L x y=true:=by
 obtain⟨h1,e1⟩:=List.getElem?_eq_some_iff.mp hx
 obtain⟨h2,e2⟩:=List.getElem?_eq_some_iff.mp hy
 have:=List.pairwise_iff_getElem.mp h i j h1 h2 hij
 rw[e1,e2] at this;exact this
theorem zev(h:PW L a.toList){i j:Nat}{x y:Keyed}(hij:i<j)(hx:a[i]?=some x)(hy:a[j]?=some y):L x y=true:=
 zil h hij (by rw[ξo];exact hx) (by rw[ξo];exact hy)
theorem zdb{i:Nat}{y:Keyed}(h:y∈a.toList.drop i):∃j,i<=j/\j<a.size/\a[j]?=some y:=by
 obtain⟨j,hj⟩:=List.mem_iff_getElem?.mp h
 rw[List.getElem?_drop,ξo] at hj
 exact⟨i+j,by omega,(Array.getElem?_eq_some_iff.mp hj).1,hj⟩
theorem zbp{i k:Nat}{y:Keyed}(h:y∈(a.toList.drop i).take k):∃j,j<k/\a[i+j]?=some y:=by
 obtain⟨j,hj⟩:=List.mem_iff_getElem?.mp h
 rw[List.getElem?_take] at hj
 split at hj
 ·rw[List.getElem?_drop,ξo] at hj;exact⟨j,by assumption,hj⟩
 ·exact absurd hj (by simp)
theorem zcC(Cm:Cmp prog w A s κ a₀ L)(hs:PW L a.toList)(hm:∀x∈a.toList,x∈a₀){i:Nat}{x z:Keyed}(hx:a[i]?=some x)(hz:z∈a₀)(h:L z x=true):∀y∈a.toList.drop i,L z y=true:=by
 intro y hy
 obtain⟨j,h1,h2,e⟩:=zdb hy
 by_cases c:j=i
 ·subst c;rw[hx] at e;injection e with e;subst e;exact h
 ·exact Cm.tr z hz x (hm x (zt hx)) y (hm y (zt e)) h (zev hs (by omega) hx e)
theorem neL(Cm:Cmp prog w A s κ a₀ L){x y:Keyed}(hx:x∈a₀)(hy:y∈a₀)(hn:x≠y)(h:L y x=false):L x y=true:=Cm.tot y hy x hx (λe=>hn e.symm) h
theorem zrL(o a:Array Keyed)(i:Nat):o ++a.extract i (i+0)=o:=by
 refine Array.toList_inj.mp ?_
 rw[ξn,zdZ];simp
theorem zY{α:Type}{c:Prop}[Decidable c]{x y:StateT SortSt Sem α}{Q:α->SortSt->Prop}(h1:c->wpS (model prog w) A E s x Q st)(h2:¬c->wpS (model prog w) A E s y Q st):wpS (model prog w) A E s (if c then x else y) Q st:=by
 split
 ·exact h1 (by assumption)
 ·exact h2 (by assumption)
theorem zG{α:Type}{m n:Nat}{x y:StateT SortSt Sem α}{Q:α->SortSt->Prop}(h1:m=n->wpS (model prog w) A E s x Q st)(h2:¬m=n->wpS (model prog w) A E s y Q st):wpS (model prog w) A E s (if(m==n)=true then x else y) Q st:=
 zY (λc=>h1 (by simpa using c)) (λc=>h2 (by simpa using c))
noncomputable abbrev LoC:=Option (Array Keyed)×Array Keyed×Nat×Nat×Nat×Nat×Nat
noncomputable def zrf(a b:Array Keyed)(g k n:Nat)(o:Array Keyed)(ia ib:Nat):StateT SortSt Sem (ForInStep LoC):=
 elem' a ia>>=λx=>if (ia+1+1==a.size)=true then pure (.done (some (o.push x ++b.extract ib b.size ++a.extract (ia+1) a.size),o.push x,ia+1,ib,g,k,n))else if(decide (k<7)&&decide (n<7))=true then pure (.done (none,o.push x,ia+1,ib,g,k,n))else pure (.yield (none,o.push x,ia+1,ib,g,k,n))
noncomputable def zqP(a b:Array Keyed)(g k bc:Nat)(o:Array Keyed)(ia ib:Nat):StateT SortSt Sem (ForInStep LoC):=
 elem' b ib>>=λy=>if (ib+1==b.size)=true then pure (.done (some (o.push y ++a.extract ia a.size ++b.extract (ib+1) b.size),o.push y,ia,ib+1,g,k,bc))else elem' a ia>>=λx=>zff true x b (ib+1) (b.size -(ib+1)) 0>>=λr=>match r with
  |some n=>if n>0 then(if(ib+1+n==b.size)=true then pure (.done (some (o.push y ++b.extract (ib+1) (ib+1+n)++a.extract ia a.size ++b.extract (ib+1+n) b.size),o.push y ++b.extract (ib+1) (ib+1+n),ia,ib+1+n,g,k,n))else zrf a b g k n (o.push y ++b.extract (ib+1) (ib+1+n)) ia (ib+1+n))else zrf a b g k n (o.push y) ia (ib+1)
  |_=>pure (.done (some (o.push y ++a.extract ia a.size ++b.extract (ib+1) b.size),o.push y,ia,ib+1,g,k,bc))
noncomputable def zrb(a b:Array Keyed)(g ac bc:Nat)(o:Array Keyed)(ia ib:Nat):StateT SortSt Sem (ForInStep LoC):=
 zl8 g>>=λ_=>elem' b ib>>=λy=>zff false y a ia (a.size -ia) 0>>=λr=>match r with
  |some k=>if k>0 then(if(ia+k+1==a.size)=true then pure (.done (some (o ++a.extract ia (ia+k)++b.extract ib b.size ++a.extract (ia+k) a.size),o ++a.extract ia (ia+k),ia+k,ib,g,k,bc))else if(ia+k==a.size)=true then pure (.done (some (o ++a.extract ia (ia+k)++a.extract (ia+k) a.size ++b.extract ib b.size),o ++a.extract ia (ia+k),ia+k,ib,g,k,bc))else zqP a b g k bc (o ++a.extract ia (ia+k)) (ia+k) ib)else zqP a b g k bc o ia ib
  |_=>pure (.done (some (o ++a.extract ia a.size ++b.extract ib b.size),o,ia,ib,g,ac,bc))
def LoP(L:Keyed->Keyed->Bool)(tot:List Keyed)(a b:Array Keyed)(st:SortSt)(c0 c1:Nat)(r:ForInStep LoC)(st':SortSt):Prop:=match r with
 | .done c=>Eqv st st'/\((∃r,c.1=some r/\Mrg L tot r)\/(c.1=none/\Live L tot a b c0 c.2.1 c.2.2.1 c.2.2.2.1))
 | .yield c=>Eqv st st'/\c.1=none/\Live L tot a b c1 c.2.1 c.2.2.1 c.2.2.2.1
structure LoX(prog:Program)(w:World)(A:Around)(s:Shared)(κ:SortKind)(a₀:List Keyed)(L:Keyed->Keyed->Bool)(st:SortSt)(a b:Array Keyed):Prop where
 cm:Cmp prog w A s κ a₀ L
 hk:kindOf st=κ
 S:MSet L a₀ a b
 hal:∀x,a[a.size -1]?=some x->∀y∈b.toList,L y x=true
variable{st2:SortSt}{c0 c1 g k n ac bc:Nat}
theorem LoX.last(X:LoX prog w A s κ a₀ L st a b)(h:MI L tot a b o ia ib)(e:ia+1=a.size):Mrg L tot (o ++b.extract ib b.size ++a.extract ia a.size):=by
 obtain⟨x,hx⟩:=zar (a:=a) (i:=ia) (by omega)
 exact h.lastA e hx (X.hal x (by rw[←e];exact hx))
theorem zjE(X:LoX prog w A s κ a₀ L st a b)(e:Eqv st st2)(m:MI L tot a b o ia ib)(hl:ia+1<a.size)(hb:ib<b.size)(f:∀x,a[ia]?=some x->∀z∈b.toList.drop ib,L x z=true)(hc:c1<=ia+1+ib)(h01:c0<=c1):wpS (model prog w) A E s (zrf a b g k n o ia ib) (LoP L tot a b st c0 c1) st2:=by
 obtain⟨x,hx⟩:=zar (a:=a) (i:=ia) (by omega)
 have m5:=m.ta1 hx (f x hx)
 refine wpS_bind (zP hx ?_)
 refine zG (λc9=>wpS_pure ⟨e, .inl ⟨_,rfl,X.last m5 c9⟩⟩) (λc9=>?_)
 have lv:Live L tot a b c1 (o.push x) (ia+1) ib:=⟨m5,by omega,hb,hc⟩
 exact zY (λ_=>wpS_pure ⟨e, .inr ⟨rfl,lv.mi,lv.l1,lv.l2,ξa h01 hc⟩⟩) (λ_=>wpS_pure ⟨e,rfl,lv⟩)
theorem zkj(X:LoX prog w A s κ a₀ L st a b)(e:Eqv st st2)(m:MI L tot a b o ia ib)(hl:ia+1<a.size)(hb:ib<b.size)(f:∀y,b[ib]?=some y->∀x∈a.toList.drop ia,L y x=true)(hc:c1<=ia+ib+2)(h01:c0<=c1):wpS (model prog w) A E s (zqP a b g k bc o ia ib) (LoP L tot a b st c0 c1) st2:=by
 have Cm:=X.cm
 have S:=X.S
 obtain⟨y,hy⟩:=zar (a:=b) hb
 have m3:=m.tb1 hy (f y hy)
 refine wpS_bind (zP hy ?_)
 refine zG (λc7=>wpS_pure ⟨e, .inl ⟨_,rfl,m3.doneB c7⟩⟩) (λc7=>?_)
 obtain⟨x,hx⟩:=zar (a:=a) (i:=ia) (by omega)
 have mx:=S.ma _ (zt hx)
 refine wpS_bind (zP hx ?_)
 refine wpS_bind (zbo (base:=ib+1) (n:=b.size -(ib+1)) (hint:=0) (arr:=b) Cm (e.1.trans X.hk) mx (λi hi=>?_) (λi j x' y' hij hj hx' hy'=>zev S.sb (Nat.add_lt_add_left hij _) hx' hy') (by omega) λn n1 n2 n3=>?_)
 ·obtain ⟨x',hx'⟩:=zar (a:=b) (i:=ib+1+i) (by omega)
  exact⟨x',hx',S.mb _ (zt hx')⟩
 have m4:=m3.tb (k:=n) (by omega) (λc hc x' hx'=>by
  obtain⟨j,hj,ej⟩:=zbp hc
  have h3:L c x=true:=by have:=n2 j hj c ej;simpa[zdu] using this
  exact zcC Cm S.sa S.ma hx (S.mb _ (zt ej)) h3 x' hx')
 have f4:∀x2,a[ia]?=some x2->∀z∈b.toList.drop (ib+1+n),L x2 z=true:=λx2 hx2 z hz=>by
  rw[hx] at hx2;injection hx2 with hx2;subst hx2
  obtain⟨j,j1,j2,ej⟩:=zdb hz
  have:=n3 (j -(ib+1)) (by omega) (by omega) z (by rw[←ej];congr 1;omega)
  exact neL Cm mx (S.mb _ (zt ej)) (S.dj _ (zt hx) _ (zt ej)) (by simpa[zdu] using this)
 refine zY (λhn0=>zG (λc8=>wpS_pure ⟨e, .inl ⟨_,rfl,m4.doneB c8⟩⟩) (λc8=>zjE X e m4 hl (by omega) f4 (by omega) h01)) (λhn0=>?_)
 have hz:n=0:=by omega
 subst hz
 rw[zrL] at m4
 exact zjE X e m4 hl (by omega) f4 (by omega) h01
theorem zjP(X:LoX prog w A s κ a₀ L st a b)(e0:Eqv st st2)(lv:Live L tot a b c0 o ia ib):wpS (model prog w) A E s (zrb a b g ac bc o ia ib) (LoP L tot a b st c0 (c0+1)) st2:=by
 have Cm:=X.cm
 have S:=X.S
 have hc:=lv.c;have hl1:=lv.l1;have hl2:=lv.l2;have mi:=lv.mi
 obtain⟨y,hy⟩:=zar (a:=b) hl2
 have my:=S.mb _ (zt hy)
 refine wpS_bind (zef e0 λst2 e2=>?_)
 refine wpS_bind (zP hy ?_)
 refine wpS_bind (zbo (base:=ia) (n:=a.size -ia) (hint:=0) (arr:=a) Cm (e2.1.trans X.hk) my (λi hi=>?_) (λi j x' y' hij hj hx' hy'=>zev S.sa (Nat.add_lt_add_left hij _) hx' hy') (by omega) λk k1 k2 k3=>?_)
 ·obtain ⟨x',hx'⟩:=zar (a:=a) (i:=ia+i) (by omega)
  exact⟨x',hx',S.ma _ (zt hx')⟩
 have m2:=mi.ta (k:=k) (by omega) (λc hc y' hy'=>by
  obtain⟨j,hj,ej⟩:=zbp hc
  have h3:L y c=false:=by have:=k2 j hj c ej;simpa[zdu] using this
  exact zcC Cm S.sb S.mb hy (S.ma _ (zt ej)) (neL Cm (S.ma _ (zt ej)) my (S.dj _ (zt ej) _ (zt hy)) h3) y' hy')
 have f2:∀y2,b[ib]?=some y2->∀x∈a.toList.drop (ia+k),L y2 x=true:=λy2 hy2 x hx=>by
  rw[hy] at hy2;injection hy2 with hy2;subst hy2
  obtain⟨j,j1,j2,ej⟩:=zdb hx
  have:=k3 (j -ia) (by omega) (by omega) x (by rw[←ej];congr 1;omega)
  simpa[zdu] using this
 refine zY (λhk0=>zG (λc5=>wpS_pure ⟨e2, .inl ⟨_,rfl,X.last m2 c5⟩⟩) (λc5=>zG (λc6=>wpS_pure ⟨e2, .inl ⟨_,rfl,m2.doneA c6⟩⟩) (λc6=>zkj X e2 m2 (by omega) hl2 f2 (by omega) (Nat.le_succ _)))) (λhk0=>?_)
 have hz:k=0:=by omega
 subst hz
 rw[zrL] at m2
 exact zkj X e2 m2 hl1 hl2 f2 (by omega) (Nat.le_succ _)
theorem ziE(Cm:Cmp prog w A s κ a₀ L)(hk:kindOf st=κ)(S:MSet L a₀ a b)(ha:1<=a.size)(hb:1<=b.size)(hb0:∀y,b[0]?=some y->∀x∈a.toList,L y x=true)(hal:∀x,a[a.size -1]?=some x->∀y∈b.toList,L y x=true)
 {Q:Array Keyed->SortSt->Prop} (q:∀r st',Eqv st st'->Mrg L (a.toList ++b.toList) r->Q r st'):wpS (model prog w) A E s (zni a b) Q st:=by
 generalize ht:a.toList ++b.toList=tot at q
 have h0:MI L tot a b #[] 0 0:=⟨⟨by simp[←ht],by simpa using S.sa,by simpa using S.sb⟩,ξi _,ξi _⟩
 obtain⟨y0,hy0⟩:=zar (a:=b) (i:=0) (by omega)
 have h1:MI L tot a b #[y0] 0 1:=h0.tb1 hy0 λx hx=>hb0 y0 hy0 x (by simpa using hx)
 have last:∀{o ia ib},MI L tot a b o ia ib->ia+1=a.size->Mrg L tot (o ++b.extract ib b.size ++a.extract ia a.size):=λ{o ia ib} h e=>by
  obtain⟨x,hx⟩:=zar (a:=a) (i:=ia) (by omega)
  exact h.lastA e hx (hal x (by rw[←e];exact hx))
 have done_a:∀{o ia ib x y},MI L tot a b o ia ib->a[ia]?=some x->b[ib]?=some y->L y x=true->MI L tot a b (o.push y) ia (ib+1):=λh hx hy hl=>h.tb1 hy (zcC Cm S.sa S.ma hx (S.mb _ (zt hy)) hl)
 have done_b:∀{o ia ib x y},MI L tot a b o ia ib->a[ia]?=some x->b[ib]?=some y->L y x=false->MI L tot a b (o.push x) (ia+1) ib:=λh hx hy hl=>
  h.ta1 hx (zcC Cm S.sb S.mb hy (S.ma _ (zt hx)) (neL Cm (S.ma _ (zt hx)) (S.mb _ (zt hy)) (S.dj _ (zt hx) _ (zt hy)) hl))
 refine wpS_bind (wpS_lift (wpAny_rule ⟨rfl,?_⟩))
 refine wpS_bind (zP hy0 ?_)
 refine zG (λ(c1:1=b.size)=>wpS_pure (q _ _ (Eqv.refl _) (h1.doneB c1))) (λ(c1:¬1=b.size)=>?_)
 refine zG (λ(c2:0+1=a.size)=>wpS_pure (q _ _ (Eqv.refl _) (last h1 c2))) (λ(c2:¬0+1=a.size)=>?_)
 refine wpS_bind (wpS_get ?_)
 refine wpS_bind (wpS_mono (wpS_forRange
  (I:=λit (c:Option (Array Keyed)×Array Keyed×Nat×Nat×Nat) st'=>Eqv st st'/\c.1=none/\Live L tot a b (it+1) c.2.1 c.2.2.1 c.2.2.2.1)
  (Q:=λ(c:Option (Array Keyed)×Array Keyed×Nat×Nat×Nat) st'=>Eqv st st'/\∃r,c.1=some r/\Mrg L tot r) ?_ ?_ ⟨Eqv.refl _,rfl,h1,by dsimp only;omega,by dsimp only;omega,by dsimp only;omega⟩) ?_)
 rotate_left
 ·rintro ⟨r,o,ia,ib,g⟩ st' ⟨e,_,lv⟩
  have:=lv.c;have:=lv.l1;have:=lv.l2
  dsimp only at *;omega
 ·rintro ⟨r,o,ia,ib,g⟩ st' ⟨e,r,rfl,hm⟩
  exact wpS_pure (q _ _ e hm)
 rintro it ⟨r,o,ia,ib,g⟩ st' _ hit ⟨e,rfl,lv⟩
 refine wpS_bind (wpS_mono (wpS_forRange
  (I:=λit2 (c:Option (Array Keyed)×Array Keyed×Nat×Nat×Nat×Nat) st'=>Eqv st st'/\c.1=none/\Live L tot a b (it+1+it2) c.2.1 c.2.2.1 c.2.2.2.1)
  (Q:=λ(c:Option (Array Keyed)×Array Keyed×Nat×Nat×Nat×Nat) st'=>Eqv st st'/\((∃r,c.1=some r/\Mrg L tot r)\/(c.1=none/\Live L tot a b (it+2) c.2.1 c.2.2.1 c.2.2.2.1))) ?_ ?_ ⟨e,rfl,lv⟩) ?_)
 ·rintro it2 ⟨r,o,ia,ib,ac,bc⟩ st' _ hit2 ⟨e,rfl,lv⟩
  have hc:=lv.c;have hl1:=lv.l1;have hl2:=lv.l2
  dsimp only at hc hl1 hl2
  obtain⟨y,hy⟩:=zar (a:=b) hl2
  obtain⟨x,hx⟩:=zar (a:=a) (i:=ia) (by omega)
  refine wpS_bind (zP hy (wpS_bind (zP hx (wpS_bind (Cm.lt (S.mb _ (zt hy)) (S.ma _ (zt hx)) (e.1.trans hk) ?_)))))
  cases hl:L y x with
  |true=>
   have m2:=done_a lv.mi hx hy hl
   refine wpS_bind (zP hy ?_)
   refine zG (λ(c3:ib+1=b.size)=>wpS_pure ⟨e, .inl ⟨_,rfl,m2.doneB c3⟩⟩) (λ(c3:¬ib+1=b.size)=>?_)
   exact zY (λ(c4:bc+1≥g)=>wpS_pure ⟨e, .inr ⟨rfl,m2,hl1,by dsimp only;omega,by dsimp only;omega⟩⟩) (λ_=>wpS_pure ⟨e,rfl,m2,hl1,by dsimp only;omega,by dsimp only;omega⟩)
  |false=>
   have m2:=done_b lv.mi hx hy hl
   refine wpS_bind (zP hx ?_)
   refine zG (λ(c3:ia+1+1=a.size)=>wpS_pure ⟨e, .inl ⟨_,rfl,last m2 c3⟩⟩) (λ(c3:¬ia+1+1=a.size)=>?_)
   exact zY (λ(c4:ac+1≥g)=>wpS_pure ⟨e, .inr ⟨rfl,m2,by dsimp only;omega,hl2,by dsimp only;omega⟩⟩) (λ_=>wpS_pure ⟨e,rfl,m2,by dsimp only;omega,hl2,by dsimp only;omega⟩)
 ·rintro ⟨r,o,ia,ib,ac,bc⟩ st' ⟨e,_,lv⟩
  have:=lv.c;have:=lv.l1;have:=lv.l2
  dsimp only at *;omega
 rintro⟨r,o,ia,ib,ac,bc⟩ st' ⟨e,hr⟩
 rcases hr with⟨r,rfl,hm⟩|⟨rfl,lv⟩
 ·exact wpS_pure ⟨e,_,rfl,hm⟩
 dsimp only at lv
 have goP:∀(it2:Nat) (c:LoC) (st':SortSt),LoP L tot a b st (it+2+it2) (it+2+it2+1) (.done c) st'->Eqv st st'/\((∃r,c.1=some r/\Mrg L tot r)\/(c.1=none/\Live L tot a b (it+2) c.2.1 c.2.2.1 c.2.2.2.1)):=λit2 c st' h=>⟨h.1,h.2.imp id λz=>⟨z.1,z.2.mi,z.2.l1,z.2.l2,ξa (Nat.le_add_right _ _) z.2.c⟩⟩
 refine wpS_bind (wpS_lift (wpAny_rule ⟨rfl,?_⟩))
 refine wpS_bind (wpS_mono (wpS_forRange
  (I:=λit2 (c:Option (Array Keyed)×Array Keyed×Nat×Nat×Nat×Nat×Nat) st'=>Eqv st st'/\c.1=none/\Live L tot a b (it+2+it2) c.2.1 c.2.2.1 c.2.2.2.1)
  (Q:=λ(c:Option (Array Keyed)×Array Keyed×Nat×Nat×Nat×Nat×Nat) st'=>Eqv st st'/\((∃r,c.1=some r/\Mrg L tot r)\/(c.1=none/\Live L tot a b (it+2) c.2.1 c.2.2.1 c.2.2.2.1))) ?_ ?_ ⟨e,rfl,lv⟩) ?_)
 ·rintro it2 ⟨r,o,ia,ib,mg,ac,bc⟩ st' _ hit2 ⟨e,rfl,lv⟩
  refine zY (λ_=>?_) (λ_=>?_)
  ·exact wpS_mono (m:=zrb a b (mg -1) ac bc o ia ib) (Q:=LoP L tot a b st (it+2+it2) (it+2+it2+1)) (zjP ⟨Cm,hk,S,hal⟩ e lv) λr st' h=>by cases r with|done c=>exact goP it2 c st' h|yield c=>exact h
  ·exact wpS_mono (m:=zrb a b mg ac bc o ia ib) (Q:=LoP L tot a b st (it+2+it2) (it+2+it2+1)) (zjP ⟨Cm,hk,S,hal⟩ e lv) λr st' h=>by cases r with|done c=>exact goP it2 c st' h|yield c=>exact h
 ·rintro ⟨r,o,ia,ib,mg,ac,bc⟩ st' ⟨e,_,lv⟩
  have:=lv.c;have:=lv.l1;have:=lv.l2
  dsimp only at *;omega
 rintro⟨r,o,ia,ib,mg,ac,bc⟩ st' ⟨e,hr⟩
 rcases hr with⟨r,rfl,hm⟩|⟨rfl,lv⟩
 ·exact wpS_pure ⟨e,_,rfl,hm⟩
 refine wpS_bind (zef e λst2 e2=>?_)
 exact wpS_pure ⟨e2,rfl,lv⟩
end
section
variable{prog:Program}{w:World}{A:Around}{E:Value->Shared->Prop}{s:Shared}{κ:SortKind}{a₀:List Keyed}{L:Keyed->Keyed->Bool}{st:SortSt}
noncomputable abbrev flL(L:Keyed->Keyed->Bool):Keyed->Keyed->Bool:=λx y=>L y x
theorem ziZ{l:List Keyed}(h:PW (flL L) l):PW L l.reverse:=List.pairwise_reverse.mpr h
theorem zkh{l:List Keyed}(h:PW L l):PW (flL L) l.reverse:=List.pairwise_reverse.mpr h
structure MH(L:Keyed->Keyed->Bool)(tot:List Keyed)(a b out:Array Keyed)(na nb:Nat):Prop where
 inv:MInv (flL L) tot out.toList (a.toList.take na).reverse (b.toList.take nb).reverse
 la:na<=a.size
 lb:nb<=b.size
variable{a b o:Array Keyed}{na nb:Nat}{tot:List Keyed}
theorem MH.sw(h:MH L tot a b o na nb):MH L tot b a o nb na:=⟨h.inv.swap,h.lb,h.la⟩
theorem MH.ta(h:MH L tot a b o na nb){t:Nat}(ht:t<=na)(hc:∀c∈(a.toList.take na).drop t,∀y∈b.toList.take nb,L y c=true):MH L tot a b (o ++(a.extract t na).reverse) t nb:=by
 refine⟨?_,ξa ht h.la,h.lb⟩
 have e1:(a.extract t na).toList=(a.toList.take na).drop t:=by
  rw[Array.toList_extract,List.extract_eq_drop_take,List.drop_take]
 rw[ξn,Array.toList_reverse,e1]
 refine MInv.chX (C:=((a.toList.take na).drop t).reverse) ?_ λc hc' y hy=>hc c (List.mem_reverse.mp hc') y (List.mem_reverse.mp hy)
 rw[←List.reverse_append,show a.toList.take t=(a.toList.take na).take t by rw[List.take_take,Nat.min_eq_left ht],ξr]
 exact h.inv
theorem zhR{n:Nat}{x:Keyed}(hn:1<=n)(hx:a[n -1]?=some x):a.toList.take n=a.toList.take (n -1)++ [x]:=by
 obtain⟨m,rfl⟩:∃m,n=m+1:=⟨n -1,by omega⟩
 rw[ξs]
 have hx':a[m]?=some x:=hx
 rw[ξo,hx']
 rfl
theorem MH.ta1(h:MH L tot a b o na nb){x:Keyed}(hn:1<=na)(hx:a[na -1]?=some x)(hc:∀y∈b.toList.take nb,L y x=true):MH L tot a b (o.push x) (na -1) nb:=by
 refine⟨?_,by have:=h.la;omega,h.lb⟩
 rw[Array.toList_push]
 refine MInv.chX (C:=[x]) ?_ (λc hc' y hy=>by rw[List.mem_singleton.mp hc'];exact hc y (List.mem_reverse.mp hy))
 have:=h.inv
 rw[zhR hn hx,List.reverse_append] at this
 exact this
theorem MH.tb(h:MH L tot a b o na nb){t:Nat}(ht:t<=nb)(hc:∀c∈(b.toList.take nb).drop t,∀x∈a.toList.take na,L x c=true):MH L tot a b (o ++(b.extract t nb).reverse) na t:=(h.sw.ta ht hc).sw
theorem MH.tb1(h:MH L tot a b o na nb){y:Keyed}(hn:1<=nb)(hy:b[nb -1]?=some y)(hc:∀x∈a.toList.take na,L x y=true):MH L tot a b (o.push y) na (nb -1):=(h.sw.ta1 hn hy hc).sw
theorem zcu(a:Array Keyed)(n:Nat):(a.extract 0 n).toList=a.toList.take n:=by
 rw[Array.toList_extract,List.extract_eq_drop_take,List.drop_zero];simp
theorem MH.doneA(h:MH L tot a b o na nb)(e:na=0):Mrg L tot (a.extract 0 na ++b.extract 0 nb ++o.reverse):=by
 subst e
 have:=h.inv
 have e2:(a.extract 0 0 ++b.extract 0 nb ++o.reverse).toList=(o.toList ++(b.toList.take nb).reverse).reverse:=by
  rw[ξn,ξn,zcu,zcu,Array.toList_reverse];simp
 have h2:=MInv.endX (by simpa using this)
 unfold Mrg;rw[e2];exact⟨(List.reverse_perm _).trans h2.1,ziZ h2.2⟩
theorem MH.doneB(h:MH L tot a b o na nb)(e:nb=0):Mrg L tot (a.extract 0 na ++b.extract 0 nb ++o.reverse):=by
 subst e
 have:=h.inv
 have e2:(a.extract 0 na ++b.extract 0 0 ++o.reverse).toList=(o.toList ++(a.toList.take na).reverse).reverse:=by
  rw[ξn,ξn,zcu,zcu,Array.toList_reverse];simp
 have h2:=MInv.endY (by simpa using this)
 unfold Mrg;rw[e2];exact⟨(List.reverse_perm _).trans h2.1,ziZ h2.2⟩
theorem MH.firstB(h:MH L tot a b o na nb)(e:nb=1){y:Keyed}(hy:b[0]?=some y)(hl:∀x∈a.toList,L y x=true):Mrg L tot (b.extract 0 nb ++a.extract 0 na ++o.reverse):=by
 subst e
 have:=h.inv
 have e1:b.toList.take 1=[y]:=by rw[zhR (ζt 1) hy];simp
 rw[e1] at this
 have e2:(b.extract 0 1 ++a.extract 0 na ++o.reverse).toList=(o.toList ++(a.toList.take na).reverse ++ [y]).reverse:=by
  rw[ξn,ξn,zcu,zcu,Array.toList_reverse,e1];simp
 have h2:=MInv.last (x:=y) (by simpa using this.swap) λx hx=>hl x (ξu (List.mem_reverse.mp hx))
 unfold Mrg;rw[e2];exact⟨(List.reverse_perm _).trans h2.1,ziZ h2.2⟩
structure LivH(L:Keyed->Keyed->Bool)(tot:List Keyed)(a b:Array Keyed)(c0:Nat)(o:Array Keyed)(na nb:Nat):Prop where
 mi:MH L tot a b o na nb
 l1:1<=na
 l2:2<=nb
 c:c0+na+nb<=a.size+b.size
theorem LivH.wk{c0 d:Nat}(h:LivH L tot a b (c0+d) o na nb):LivH L tot a b c0 o na nb:=⟨h.mi,h.l1,h.l2,by have:=h.c;omega⟩
theorem zc6{n:Nat}{y:Keyed}(h:y∈a.toList.take n):∃j,j<n/\a[j]?=some y:=by
 have:=zbp (a:=a) (i:=0) (k:=n) (y:=y) (by simpa using h)
 simpa using this
theorem zcs{n t:Nat}{y:Keyed}(h:y∈(a.toList.take n).drop t):∃j,t<=j/\j<n/\a[j]?=some y:=by
 obtain⟨j,hj⟩:=List.mem_iff_getElem?.mp h
 rw[List.getElem?_drop,List.getElem?_take] at hj
 split at hj
 ·rw[ξo] at hj;exact⟨t+j,by omega,by assumption,hj⟩
 ·exact absurd hj (by simp)
theorem zb9(Cm:Cmp prog w A s κ a₀ L)(hs:PW L a.toList)(hm:∀x∈a.toList,x∈a₀){n:Nat}{x z:Keyed}(hn:1<=n)(hx:a[n -1]?=some x)(hz:z∈a₀)(h:L x z=true):∀y∈a.toList.take n,L y z=true:=by
 intro y hy
 obtain⟨j,h1,e⟩:=zc6 hy
 by_cases c:j=n -1
 ·subst c;rw[hx] at e;injection e with e;subst e;exact h
 ·exact Cm.tr y (hm y (zt e)) x (hm x (zt hx)) z hz (zev hs (by omega) e hx) h
theorem zpQ(o a:Array Keyed)(i:Nat):o ++(a.extract i i).reverse=o:=by
 refine Array.toList_inj.mp ?_
 rw[ξn,Array.toList_reverse,show a.extract i i=a.extract i (i+0)from rfl,zdZ];simp
theorem zi9(Cm:Cmp prog w A s κ a₀ L)(hk:kindOf st=κ)(S:MSet L a₀ a b)(ha:1<=a.size)(hb:1<=b.size)(hb0:∀y,b[0]?=some y->∀x∈a.toList,L y x=true)(hal:∀x,a[a.size -1]?=some x->∀y∈b.toList,L y x=true)
 {Q:Array Keyed->SortSt->Prop} (q:∀r st',Eqv st st'->Mrg L (a.toList ++b.toList) r->Q r st'):wpS (model prog w) A E s (zlQ a b) Q st:=by
 generalize ht:a.toList ++b.toList=tot at q
 have h0:MH L tot a b #[] a.size b.size:=⟨⟨by
  rw[List.take_of_length_le (by simp),List.take_of_length_le (by simp),←ht]
  simp only[List.nil_append]
  exact(List.reverse_perm _).append (List.reverse_perm _),by
  rw[List.take_of_length_le (by simp)];simpa using zkh S.sa,by
  rw[List.take_of_length_le (by simp)];simpa using zkh S.sb⟩,ζt _,ζt _⟩
 obtain⟨x0,hx0⟩:=zar (a:=a) (i:=a.size -1) (by omega)
 obtain⟨y0,hy0⟩:=zar (a:=b) (i:=0) (by omega)
 have h1:MH L tot a b #[x0] (a.size -1) b.size:=h0.ta1 ha hx0 λy hy=>hal x0 hx0 y (ξu hy)
 have last:∀{o na nb},MH L tot a b o na nb->nb=1->Mrg L tot (b.extract 0 nb ++a.extract 0 na ++o.reverse):=λ{o na nb} h e=>h.firstB e hy0 (hb0 y0 hy0)
 have done_a:∀{o na nb x y},MH L tot a b o na nb->1<=na->1<=nb->a[na -1]?=some x->b[nb -1]?=some y->L y x=true->MH L tot a b (o.push x) (na -1) nb:=λh n1 n2 hx hy hl=>h.ta1 n1 hx (zb9 Cm S.sb S.mb n2 hy (S.ma _ (zt hx)) hl)
 have done_b:∀{o na nb x y},MH L tot a b o na nb->1<=na->1<=nb->a[na -1]?=some x->b[nb -1]?=some y->L y x=false->MH L tot a b (o.push y) na (nb -1):=λh n1 n2 hx hy hl=>
  h.tb1 n2 hy (zb9 Cm S.sa S.ma n1 hx (S.mb _ (zt hy)) (neL Cm (S.ma _ (zt hx)) (S.mb _ (zt hy)) (S.dj _ (zt hx) _ (zt hy)) hl))
 refine wpS_bind (wpS_lift (wpAny_rule ⟨rfl,?_⟩))
 refine wpS_bind (zP hx0 ?_)
 refine zG (λ(c1:a.size -1=0)=>wpS_pure (q _ _ (Eqv.refl _) (h1.doneA c1))) (λ(c1:¬a.size -1=0)=>?_)
 refine zG (λ(c2:b.size=1)=>wpS_pure (q _ _ (Eqv.refl _) (last h1 c2))) (λ(c2:¬b.size=1)=>?_)
 refine wpS_bind (wpS_get ?_)
 refine wpS_bind (wpS_mono (wpS_forRange
  (I:=λit (c:Option (Array Keyed)×Nat×Nat×Array Keyed×Nat) st'=>Eqv st st'/\c.1=none/\LivH L tot a b (it+1) c.2.2.2.1 c.2.1 c.2.2.1)
  (Q:=λ(c:Option (Array Keyed)×Nat×Nat×Array Keyed×Nat) st'=>Eqv st st'/\∃r,c.1=some r/\Mrg L tot r) ?_ ?_ ⟨Eqv.refl _,rfl,h1,by dsimp only;omega,by dsimp only;omega,by dsimp only;omega⟩) ?_)
 rotate_left
 ·rintro ⟨r,na,nb,o,g⟩ st' ⟨e,_,lv⟩
  have:=lv.c;have:=lv.l1;have:=lv.l2
  dsimp only at *;omega
 ·rintro ⟨r,na,nb,o,g⟩ st' ⟨e,r,rfl,hm⟩
  exact wpS_pure (q _ _ e hm)
 rintro it ⟨r,na,nb,o,g⟩ st' _ hit ⟨e,rfl,lv⟩
 refine wpS_bind (wpS_mono (wpS_forRange
  (I:=λit2 (c:Option (Array Keyed)×Nat×Nat×Array Keyed×Nat×Nat) st'=>Eqv st st'/\c.1=none/\LivH L tot a b (it+1+it2) c.2.2.2.1 c.2.1 c.2.2.1)
  (Q:=λ(c:Option (Array Keyed)×Nat×Nat×Array Keyed×Nat×Nat) st'=>Eqv st st'/\((∃r,c.1=some r/\Mrg L tot r)\/(c.1=none/\LivH L tot a b (it+2) c.2.2.2.1 c.2.1 c.2.2.1))) ?_ ?_ ⟨e,rfl,lv⟩) ?_)
 ·rintro it2 ⟨r,na,nb,o,ac,bc⟩ st' _ hit2 ⟨e,rfl,lv⟩
  have hc:=lv.c;have hl1:=lv.l1;have hl2:=lv.l2;have mi:=lv.mi;have ba:=lv.mi.la;have bb:=lv.mi.lb
  dsimp only at hc hl1 hl2 mi ba bb
  obtain⟨y,hy⟩:=zar (a:=b) (i:=nb -1) (by omega)
  obtain⟨x,hx⟩:=zar (a:=a) (i:=na -1) (by omega)
  refine wpS_bind (zP hy (wpS_bind (zP hx (wpS_bind (Cm.lt (S.mb _ (zt hy)) (S.ma _ (zt hx)) (e.1.trans hk) ?_)))))
  cases hl:L y x with
  |true=>
   have m2:=done_a mi hl1 (by omega) hx hy hl
   refine wpS_bind (zP hx ?_)
   refine zG (λ(c3:na -1=0)=>wpS_pure ⟨e, .inl ⟨_,rfl,m2.doneA c3⟩⟩) (λ(c3:¬na -1=0)=>?_)
   have lw:LivH L tot a b (it+1+(it2+1)) _ _ _:=⟨m2,by omega,hl2,by omega⟩
   exact zY (λ_=>wpS_pure ⟨e, .inr ⟨rfl,LivH.wk (d:=it2) (by rw[show it+2+it2=it+1+(it2+1) by omega];exact lw)⟩⟩) (λ_=>wpS_pure ⟨e,rfl,lw⟩)
  |false=>
   have m2:=done_b mi hl1 (by omega) hx hy hl
   refine wpS_bind (zP hy ?_)
   refine zG (λ(c3:nb -1=1)=>wpS_pure ⟨e, .inl ⟨_,rfl,last m2 c3⟩⟩) (λ(c3:¬nb -1=1)=>?_)
   exact zY (λ_=>wpS_pure ⟨e, .inr ⟨rfl,m2,hl1,by dsimp only;omega,by dsimp only;omega⟩⟩) (λ_=>wpS_pure ⟨e,rfl,m2,hl1,by dsimp only;omega,by dsimp only;omega⟩)
 ·rintro ⟨r,na,nb,o,ac,bc⟩ st' ⟨e,_,lv⟩
  have:=lv.c;have:=lv.l1;have:=lv.l2
  dsimp only at *;omega
 rintro⟨r,na,nb,o,ac,bc⟩ st' ⟨e,hr⟩
 rcases hr with⟨r,rfl,hm⟩|⟨rfl,lv⟩
 ·exact wpS_pure ⟨e,_,rfl,hm⟩
 dsimp only at lv
 refine wpS_bind (wpS_lift (wpAny_rule ⟨rfl,?_⟩))
 refine wpS_bind (wpS_mono (wpS_forRange
  (I:=λit2 (c:Option (Array Keyed)×Nat×Nat×Array Keyed×Nat×Nat×Nat) st'=>Eqv st st'/\c.1=none/\LivH L tot a b (it+2+it2) c.2.2.2.1 c.2.1 c.2.2.1)
  (Q:=λ(c:Option (Array Keyed)×Nat×Nat×Array Keyed×Nat×Nat×Nat) st'=>Eqv st st'/\((∃r,c.1=some r/\Mrg L tot r)\/(c.1=none/\LivH L tot a b (it+2) c.2.2.2.1 c.2.1 c.2.2.1))) ?_ ?_ ⟨e,rfl,lv⟩) ?_)
 ·rintro it2 ⟨r,na,nb,o,mg,ac,bc⟩ st' _ hit2 ⟨e,rfl,lv⟩
  have hc:=lv.c;have hl1:=lv.l1;have hl2:=lv.l2;have mi:=lv.mi;have ba:=lv.mi.la;have bb:=lv.mi.lb
  dsimp only at hc hl1 hl2 mi ba bb
  obtain⟨y,hy⟩:=zar (a:=b) (i:=nb -1) (by omega)
  have my:=S.mb _ (zt hy)
  refine zY (λ_=>?_) (λ_=>?_)
  all_goals
   refine wpS_bind (zef e λst2 e2=>?_)
   refine wpS_bind (zP hy ?_)
   refine wpS_bind (zbo (base:=0) (n:=na) (hint:=na -1) (arr:=a) Cm (e2.1.trans hk) my (λi hi=>?_) (λi j x' y' hij hj hx' hy'=>zev S.sa (by omega) hx' hy') (by omega) λt t1 t2 t3=>?_)
   ·obtain ⟨x',hx'⟩:=zar (a:=a) (i:=0+i) (by omega)
    exact⟨x',hx',S.ma _ (zt hx')⟩
   have m2:=mi.ta (t:=t) t1 (λc hc y' hy'=>by
    obtain⟨j,hj1,hj,ej⟩:=zcs hc
    have h3:L y c=true:=by have:=t3 j hj1 hj c (by rw[Nat.zero_add];exact ej);simpa[zdu] using this
    exact zb9 Cm S.sb S.mb (by omega) hy (S.ma _ (zt ej)) h3 y' hy')
   have f2:∀x∈a.toList.take t,L x y=true:=λx hx=>by
    obtain⟨j,j1,ej⟩:=zc6 hx
    have:=t2 j j1 x (by rw[Nat.zero_add];exact ej)
    exact neL Cm (S.ma _ (zt ej)) my (S.dj _ (zt ej) _ (zt hy)) (by simpa[zdu] using this)
   have m3:=m2.tb1 (by omega) hy f2
   refine zY (λ(hk0:na -t>0)=>?_) (λ(hk0:¬na -t>0)=>?_)
   all_goals first
    |refine zG (λ(c5:t=0)=>wpS_pure ⟨e2, .inl ⟨_,rfl,m2.doneA c5⟩⟩) (λ(c5:¬t=0)=>?_)
     have l1:1<=t:=by omega
     generalize o ++(a.extract t na).reverse=o1 at *
    |have hz:t=na:=by omega
     subst hz
     rw[zpQ] at m3
     have l1:1<=t:=hl1
     generalize o=o1 at *
   all_goals
    refine wpS_bind (zP hy ?_)
    refine zG (λ(c7:nb -1=1)=>wpS_pure ⟨e2, .inl ⟨_,rfl,last m3 c7⟩⟩) (λ(c7:¬nb -1=1)=>?_)
    obtain⟨x,hx⟩:=zar (a:=a) (i:=t -1) (by omega)
    have mx:=S.ma _ (zt hx)
    refine wpS_bind (zP hx ?_)
    refine wpS_bind (zbo (base:=0) (n:=nb -1) (hint:=nb -1 -1) (arr:=b) Cm (e2.1.trans hk) mx (λi hi=>?_) (λi j x' y' hij hj hx' hy'=>zev S.sb (by omega) hx' hy') (by omega) λu u1 u2 u3=>?_)
    ·obtain ⟨x',hx'⟩:=zar (a:=b) (i:=0+i) (by omega)
     exact⟨x',hx',S.mb _ (zt hx')⟩
    have m4:=m3.tb (t:=u) u1 (λc hc x' hx'=>by
     obtain⟨j,hj1,hj,ej⟩:=zcs hc
     have h3:L c x=false:=by have:=u3 j hj1 hj c (by rw[Nat.zero_add];exact ej);simpa[zdu] using this
     exact zb9 Cm S.sa S.ma (by omega) hx (S.mb _ (zt ej)) (neL Cm mx (S.mb _ (zt ej)) (S.dj _ (zt hx) _ (zt ej)) h3) x' hx')
    have f4:∀z∈b.toList.take u,L z x=true:=λz hz=>by
     obtain⟨j,j1,ej⟩:=zc6 hz
     have:=u2 j j1 z (by rw[Nat.zero_add];exact ej)
     simpa[zdu] using this
    have m5:=m4.ta1 (by omega) hx f4
    refine zY (λ(hn0:nb -1 -u>0)=>?_) (λ(hn0:¬nb -1 -u>0)=>?_)
    all_goals first
     |refine zG (λ(c8:u=1)=>wpS_pure ⟨e2, .inl ⟨_,rfl,last m4 c8⟩⟩) (λ(c8:¬u=1)=>?_)
      refine zG (λ(c8:u=0)=>wpS_pure ⟨e2, .inl ⟨_,rfl,m4.doneB c8⟩⟩) (λ(c8:¬u=0)=>?_)
     |have hz:u=nb -1:=by omega
      subst hz
      rw[zpQ] at m5
    all_goals
     refine wpS_bind (zP hx ?_)
     refine zG (λ(c9:t -1=0)=>wpS_pure ⟨e2, .inl ⟨_,rfl,m5.doneA c9⟩⟩) (λ(c9:¬t -1=0)=>?_)
     have lw:LivH L tot a b (it+2+(it2+1)) _ _ _:=⟨m5,by omega,by omega,by omega⟩
     exact zY (λ_=>wpS_pure ⟨e2, .inr ⟨rfl,lw.wk⟩⟩) (λ_=>wpS_pure ⟨e2,rfl,lw⟩)
 ·rintro ⟨r,na,nb,o,mg,ac,bc⟩ st' ⟨e,_,lv⟩
  have:=lv.c;have:=lv.l1;have:=lv.l2
  dsimp only at *;omega
 rintro⟨r,na,nb,o,mg,ac,bc⟩ st' ⟨e,hr⟩
 rcases hr with⟨r,rfl,hm⟩|⟨rfl,lv⟩
 ·exact wpS_pure ⟨e,_,rfl,hm⟩
 refine wpS_bind (zef e λst2 e2=>?_)
 exact wpS_pure ⟨e2,rfl,lv⟩
end
section
variable{prog:Program}{w:World}{A:Around}{E:Value->Shared->Prop}{s:Shared}{κ:SortKind}{a₀:List Keyed}{L:Keyed->Keyed->Bool}{st:SortSt}
theorem zie{off:Nat}:∀(l:List Keyed) (j:Nat) (a:Array Keyed),off+j+l.length<=a.size->
 ((l.zipIdx j).foldl (λa (x:Keyed×Nat)=>a.setIfInBounds (off+x.2) x.1) a).toList=a.toList.take (off+j)++l ++a.toList.drop (off+j+l.length)
 |[],j,a,h=>by simp
 |x::l,j,a,h=>by
  rw[List.zipIdx_cons,List.foldl_cons]
  have hl:off+(j+1)+l.length<=(a.setIfInBounds (off+j) x).size:=by rw[Array.size_setIfInBounds];simp at h;omega
  rw[zie l (j+1) _ hl,Array.toList_setIfInBounds]
  have hj:off+j<a.toList.length:=by simp at h⊢;omega
  have e1:(a.toList.set (off+j) x).take (off+(j+1))=a.toList.take (off+j)++ [x]:=by
   rw[show off+(j+1)=(off+j)+1 by omega,ξs,List.take_set_of_le (ζt _),List.getElem?_set_self hj];rfl
  have e2:(a.toList.set (off+j) x).drop (off+(j+1)+l.length)=a.toList.drop (off+j+(x::l).length):=by
   rw[List.drop_set_of_lt (by omega)]
   congr 1
   simp;omega
  rw[e1,e2]
  simp
variable{X Y P T:List Keyed}
theorem znq(Cm:Cmp prog w A s κ a₀ L){x1 x2 y1 y2 r:List Keyed}{b0 al:Keyed}(hx:PW L (x1 ++x2))(hy:PW L (y1 ++y2))(hm:∀z∈x1 ++x2 ++(y1 ++y2),z∈a₀)(mb0:b0∈a₀)(mal:al∈a₀)
 (h1:∀x∈x1,L x b0=true) (h2:∀y∈y1 ++y2,y=b0\/L b0 y=true) (h3:∀x∈x1 ++x2,x=al\/L x al=true) (h4:∀y∈y2,L al y=true) (pr:r.Perm (x2 ++y1)) (sr:PW L r):PW L (x1 ++r ++y2):=by
 have hx':=List.pairwise_append.mp hx
 have hy':=List.pairwise_append.mp hy
 have mx1:∀z∈x1,z∈a₀:=λz hz=>hm z (by simp[hz])
 have mx2:∀z∈x2,z∈a₀:=λz hz=>hm z (by simp[hz])
 have my1:∀z∈y1,z∈a₀:=λz hz=>hm z (by simp[hz])
 have my2:∀z∈y2,z∈a₀:=λz hz=>hm z (by simp[hz])
 have xy:∀x∈x1,∀y∈y1 ++y2,L x y=true:=λx hx y hy=>by
  rcases h2 y hy with e|e
  ·rw[e];exact h1 x hx
  ·exact Cm.tr x (mx1 x hx) b0 mb0 y (hm y (by rw[List.mem_append];exact .inr hy)) (h1 x hx) e
 have xy2:∀x∈x1 ++x2,∀y∈y2,L x y=true:=λx hx y hy=>by
  rcases h3 x hx with e|e
  ·rw[e];exact h4 y hy
  ·exact Cm.tr x (hm x (by rw[List.mem_append];exact .inl hx)) al mal y (my2 y hy) e (h4 y hy)
 rw[ξp]
 refine List.pairwise_append.mpr ⟨hx'.1,List.pairwise_append.mpr ⟨sr,hy'.2.1,λz hz y hy2=>?_⟩,λx hx1 z hz=>?_⟩
 ·rcases List.mem_append.mp (pr.mem_iff.mp hz)with c|c
  ·exact xy2 z (by simp[c]) y hy2
  ·exact hy'.2.2 z c y hy2
 ·rcases List.mem_append.mp hz with c|c
  ·rcases List.mem_append.mp (pr.mem_iff.mp c)with c|c
   ·exact hx'.2.2 x hx1 z c
   ·exact xy x hx1 z (by simp[c])
  ·exact xy x hx1 z (by simp[c])
theorem zmj{a:Array Keyed}{i:Nat}(e:a.toList=P ++X ++T)(h:i<X.length):a[P.length+i]?=X[i]?:=by
 rw[←ξo,e,ξp,ξm (by omega),ψa (by omega)]
 congr 1;omega
theorem zjS{a:Array Keyed}{i j:Nat}(e:a.toList=P ++X ++T)(hi:i=P.length)(hj:j=P.length+X.length):(a.extract i j).toList=X:=by
 subst hi;subst hj
 rw[zdZ,e,ξp,List.drop_left,List.take_left]
noncomputable def zeA(i:Nat)(p:Array (Nat×Nat×Nat))(z:Nat×Nat×Nat):Array (Nat×Nat×Nat):=(p.setIfInBounds i z).eraseIdxIfInBounds (i+1)
theorem zja(Cm:Cmp prog w A s κ a₀ L){i sa na sb nb pw pw2:Nat}(hk:kindOf st=κ)(hf:failedOf st=none)(hp:(arrOf st).toList.Perm a₀)(ea:(arrOf st).toList=P ++X ++(Y ++T))(lP:P.length=sa)(lX:X.length=na)(lY:Y.length=nb)(hsb:sb=sa+na)(n1:1<=na)(n2:1<=nb)
 (hX:PW L X) (hY:PW L Y) (p1:(pendingOf st)[i]?=some (sa,na,pw)) (p2:(pendingOf st)[i+1]?=some (sb,nb,pw2)) {Q:Bool->SortSt->Prop}
 (q:∀st' R,kindOf st'=κ->failedOf st'=none->(arrOf st').toList=P ++R ++T->R.Perm (X ++Y)->PW L R->pendingOf st'=zeA i (pendingOf st) (sa,na+nb,pw)->Q true st'):
 wpS (model prog w) A E s (mergeAt' i) Q st:=by
 have hall:∀z∈P ++X ++(Y ++T),z∈a₀:=λz hz=>hp.mem_iff.mp (by rw[ea];exact hz)
 have mX:∀z∈X,z∈a₀:=λz hz=>hall z (by simp[hz])
 have mY:∀z∈Y,z∈a₀:=λz hz=>hall z (by simp[hz])
 have nd:(P ++X ++(Y ++T)).Nodup:=by rw[←ea];exact hp.nodup_iff.mpr Cm.nd
 have dXY:∀x∈X,∀y∈Y,x≠y:=λx hx y hy=>by
  have:=(List.nodup_append.mp nd).2.2 x (by simp[hx]) y (by simp[hy])
  exact this
 have ea2:(arrOf st).toList=(P ++X)++Y ++T:=by rw[ea];simp
 have gX:∀j,j<na->(arrOf st)[sa+j]?=X[j]?:=λj hj=>by rw[←lP];exact zmj ea (by omega)
 have gY:∀j,j<nb->(arrOf st)[sb+j]?=Y[j]?:=λj hj=>by
  rw[show sb+j=(P ++X).length+j by simp;omega];exact zmj ea2 (by omega)
 obtain⟨b0,hb0⟩:∃b0,Y[0]?=some b0:=⟨_,ζd (by omega)⟩
 obtain⟨al,hal⟩:∃al,X[na -1]?=some al:=⟨_,ζd (by omega)⟩
 have mb0:=mY b0 (ζk hb0)
 have mal:=mX al (ζk hal)
 have gb0:(arrOf st)[sb]?=some b0:=by have:=gY 0 (by omega);rw[Nat.add_zero] at this;rw[this];exact hb0
 have f2:∀y∈Y,y=b0\/L b0 y=true:=λy hy=>by
  obtain⟨j,hj⟩:=List.mem_iff_getElem?.mp hy
  by_cases c:j=0
  ·subst c;rw[hb0] at hj;injection hj with hj;exact .inl hj.symm
  ·exact .inr (zil hY (by omega) hb0 hj)
 have f3:∀x∈X,x=al\/L x al=true:=λx hx=>by
  obtain⟨j,hj⟩:=List.mem_iff_getElem?.mp hx
  have hjl:j<na:=by rw[←lX];exact(List.getElem?_eq_some_iff.mp hj).1
  by_cases c:j=na -1
  ·subst c;rw[hal] at hj;injection hj with hj;exact .inl hj.symm
  ·exact .inr (zil hX (by omega) hj hal)
 refine wpS_bind (wpS_get ?_)
 have p1':=p1;have p2':=p2
 show wpS _ _ _ _ (match((pendingOf st)[i]?,(pendingOf st)[i+1]?)with|(some (sa,na,power),some (sb,nb,snd))=>_|_=>_) _ _
 rw[p1,p2]
 refine wpS_bind (wpS_modify (f:=λ_=>SortSt.mk' (kindOf st) (arrOf st) (zeA i (pendingOf st) (sa,na+nb,pw)) (gallopOf st) (failedOf st)) ?_)
 generalize hst1:SortSt.mk' (kindOf st) (arrOf st) (zeA i (pendingOf st) (sa,na+nb,pw)) (gallopOf st) (failedOf st)=st1
 have k1:kindOf st1=κ:=by rw[←hst1];exact hk
 have fl1:failedOf st1=none:=by rw[←hst1];exact hf
 have ar1:arrOf st1=arrOf st:=by rw[←hst1]
 have pe1:pendingOf st1=zeA i (pendingOf st) (sa,na+nb,pw):=by rw[←hst1]
 clear hst1
 refine wpS_bind (zP gb0 ?_)
 refine wpS_bind (zbo (base:=sa) (n:=na) (hint:=0) (arr:=arrOf st) Cm k1 mb0 (λj hj=>?_) (λi j x y hij hj hx hy=>?_) (by omega) λk k1n t2 t3=>?_)
 ·rw[gX j hj];exact⟨_,ζd (by omega),mX _ (List.getElem_mem _)⟩
 ·rw[gX i (by omega)] at hx;rw[gX j hj] at hy;exact zil hX hij hx hy
 have f1:∀x∈X.take k,L x b0=true:=λx hx=>by
  obtain⟨j,hj⟩:=List.mem_iff_getElem?.mp hx
  rw[List.getElem?_take] at hj
  split at hj
  ·have:=t2 j (by assumption) x (by rw[gX j (by omega)];exact hj)
   exact neL Cm (mX x (ζk hj)) mb0 (dXY x (ζk hj) b0 (ζk hb0)) (by simpa[zdu] using this)
  ·exact absurd hj (by simp)
 have f1':∀x∈X.drop k,L b0 x=true:=λx hx=>by
  obtain⟨j,hj⟩:=List.mem_iff_getElem?.mp hx
  rw[List.getElem?_drop] at hj
  have hjl:k+j<X.length:=(List.getElem?_eq_some_iff.mp hj).1
  have:=t3 (k+j) (by omega) (by omega) x (by rw[gX _ (by omega)];exact hj)
  simpa[zdu] using this
 refine zG (λ(c1:na -k=0)=>?_) (λ(c1:¬na -k=0)=>?_)
 ·have ek:X.take k=X:=List.take_of_length_le (by omega)
  refine wpS_pure (q _ (X ++Y) k1 fl1 (by rw[ar1,ea];simp) (List.Perm.refl _) (List.pairwise_append.mpr ⟨hX,hY,λx hx y hy=>?_⟩) pe1)
  rw[ek] at f1
  rcases f2 y hy with e|e
  ·rw[e];exact f1 x hx
  ·exact Cm.tr x (mX x hx) b0 mb0 y (mY y hy) (f1 x hx) e
 have gal:(arrOf st)[sa+k+(na -k) -1]?=some al:=by rw[show sa+k+(na -k) -1=sa+(na -1) by omega,gX _ (by omega)];exact hal
 refine wpS_bind (zP gal ?_)
 refine wpS_bind (zbo (base:=sb) (n:=nb) (hint:=nb -1) (arr:=arrOf st) Cm k1 mal (λj hj=>?_) (λi j x y hij hj hx hy=>?_) (by omega) λu u1 u2 u3=>?_)
 ·rw[gY j hj];exact⟨_,ζd (by omega),mY _ (List.getElem_mem _)⟩
 ·rw[gY i (by omega)] at hx;rw[gY j hj] at hy;exact zil hY hij hx hy
 have f4:∀y∈Y.drop u,L al y=true:=λy hy=>by
  obtain⟨j,hj⟩:=List.mem_iff_getElem?.mp hy
  rw[List.getElem?_drop] at hj
  have hjl:u+j<Y.length:=(List.getElem?_eq_some_iff.mp hj).1
  have:=u3 (u+j) (by omega) (by omega) y (by rw[gY _ (by omega)];exact hj)
  exact neL Cm mal (mY y (ζk hj)) (dXY al (ζk hal) y (ζk hj)) (by simpa[zdu] using this)
 have f4':∀y∈Y.take u,L y al=true:=λy hy=>by
  obtain⟨j,hj⟩:=List.mem_iff_getElem?.mp hy
  rw[List.getElem?_take] at hj
  split at hj
  ·have:=u2 j (by assumption) y (by rw[gY j (by omega)];exact hj)
   simpa[zdu] using this
  ·exact absurd hj (by simp)
 refine zG (λ(c2:u=0)=>?_) (λ(c2:¬u=0)=>?_)
 ·subst c2
  rw[List.drop_zero] at f4
  refine wpS_pure (q _ (X ++Y) k1 fl1 (by rw[ar1,ea];simp) (List.Perm.refl _) (List.pairwise_append.mpr ⟨hX,hY,λx hx y hy=>?_⟩) pe1)
  rcases f3 x hx with e|e
  ·rw[e];exact f4 y hy
  ·exact Cm.tr x (mX x hx) al mal y (mY y hy) e (f4 y hy)
 have ex:((arrOf st).extract (sa+k) sb).toList=X.drop k:=zjS (P:=P ++X.take k) (X:=X.drop k) (T:=Y ++T) (by rw[ξp P,ξr];exact ea) (by simp;omega) (by simp;omega)
 have ey:((arrOf st).extract sb (sb+u)).toList=Y.take u:=zjS (P:=P ++X) (X:=Y.take u) (T:=Y.drop u ++T) (by rw[ξp (P ++X),←ξp (Y.take u),ξr];exact ea) (by simp;omega) (by simp;omega)
 generalize (arrOf st).extract (sa+k) sb=xa at ex
 generalize (arrOf st).extract sb (sb+u)=ya at ey
 have S:MSet L a₀ xa ya:=⟨by rw[ex];exact hX.sublist (List.drop_sublist _ _),by rw[ey];exact hY.sublist (List.take_sublist _ _),by rw[ex];exact λz hz=>mX z (List.mem_of_mem_drop hz),by rw[ey];exact λz hz=>mY z (ξu hz),by rw[ex,ey];exact λx hx y hy=>dXY x (List.mem_of_mem_drop hx) y (ξu hy)⟩
 have zx:xa.size=na -k:=by rw[←ξq,ex];simp;omega
 have zy:ya.size=u:=by rw[←ξq,ey];simp;omega
 have hb0':∀y,ya[0]?=some y->∀x∈xa.toList,L y x=true:=λy hy x hx=>by
  rw[←ξo,ey,List.getElem?_take,if_pos (by omega),hb0] at hy
  injection hy with hy;subst hy
  rw[ex] at hx;exact f1' x hx
 have hal':∀x,xa[xa.size -1]?=some x->∀y∈ya.toList,L y x=true:=λx hx y hy=>by
  rw[←ξo,ex,List.getElem?_drop,show k+(xa.size -1)=na -1 by omega,hal] at hx
  injection hx with hx;subst hx
  rw[ey] at hy;exact f4' y hy
 have fin:∀(r:Array Keyed) (st2:SortSt),Eqv st1 st2->Mrg L (xa.toList ++ya.toList) r->∀st3,kindOf st3=kindOf st2->failedOf st3=failedOf st2->pendingOf st3=pendingOf st2->arrOf st3=(r.toList.zipIdx.foldl (λa (x:Keyed×Nat)=>a.setIfInBounds (sa+k+x.2) x.1) (arrOf st2))->Q true st3:=by
  intro r st2 e2 hm st3 g1 g2 g3 g4
  obtain⟨pr,sr⟩:=hm
  rw[ex,ey] at pr
  have lr:r.toList.length=na -k+u:=by rw[pr.length_eq];simp;omega
  have hz:(arrOf st).size=sa+na+nb+T.length:=by rw[←ξq,ea];simp;omega
  have g5:=congrArg Array.toList g4
  rw[e2.2.1,ar1,zie r.toList 0 _ (by rw[lr,hz];omega),ea,Nat.add_zero,lr] at g5
  have d1:(P ++X ++(Y ++T)).take (sa+k)=P ++X.take k:=by
   rw[ξp,List.take_append,List.take_of_length_le (by omega),List.take_append_of_le_length (by omega)]
   congr 2;omega
  have d2:(P ++X ++(Y ++T)).drop (sa+k+(na -k+u))=Y.drop u ++T:=by
   rw[List.drop_append,List.drop_eq_nil_of_le (by simp;omega),List.nil_append,List.drop_append_of_le_length (by simp;omega)]
   congr 2;simp;omega
  rw[d1,d2] at g5
  refine q st3 (X.take k ++r.toList ++Y.drop u) (g1.trans (e2.1.trans k1)) (g2.trans (e2.2.2.2.trans fl1)) (by rw[g5];simp) ?_ ?_ (g3.trans (e2.2.2.1.trans pe1))
  ·have h5:(X.take k ++r.toList ++Y.drop u).Perm (X.take k ++(X.drop k ++Y.take u)++Y.drop u):=(pr.append_left _).append_right _
   refine h5.trans ?_
   rw[←ξp (X.take k),ξp (X.take k ++X.drop k),ξr,ξr]
  ·refine znq Cm (b0:=b0) (al:=al) (x1:=X.take k) (x2:=X.drop k) (y1:=Y.take u) (y2:=Y.drop u) (by rw[ξr];exact hX) (by rw[ξr];exact hY) (by rw[ξr,ξr];exact λz hz=>(List.mem_append.mp hz).elim (mX z) (mY z)) mb0 mal f1 (by rw[ξr];exact f2) (by rw[ξr];exact f3) f4 pr sr
 refine zY (λ_=>?_) (λ_=>?_)
 ·refine wpS_bind (ziE Cm k1 S (by omega) (by omega) hb0' hal' λr st2 e2 hm=>?_)
  refine wpS_bind (wpS_modify (wpS_bind (wpS_get (wpS_pure ?_))))
  have h6:(failedOf st2).isNone=true:=by rw[e2.2.2.2,fl1];rfl
  show Q (failedOf st2).isNone _
  rw[h6]
  exact fin r st2 e2 hm _ rfl rfl rfl rfl
 ·refine wpS_bind (zi9 Cm k1 S (by omega) (by omega) hb0' hal' λr st2 e2 hm=>?_)
  refine wpS_bind (wpS_modify (wpS_bind (wpS_get (wpS_pure ?_))))
  have h6:(failedOf st2).isNone=true:=by rw[e2.2.2.2,fl1];rfl
  show Q (failedOf st2).isNone _
  rw[h6]
  exact fin r st2 e2 hm _ rfl rfl rfl rfl
end
section
variable{prog:Program}{w:World}{A:Around}{E:Value->Shared->Prop}{s:Shared}{κ:SortKind}{a₀:List Keyed}{L:Keyed->Keyed->Bool}{st:SortSt}
def SrtA(L:Keyed->Keyed->Bool)(a:Array Keyed)(lo hi:Nat):Prop:=∀i j x y,lo<=i->i<j->j<hi->a[i]?=some x->a[j]?=some y->L x y=true
structure Stt(κ:SortKind)(a₀:List Keyed)(lo:Nat)(st st':SortSt):Prop where
 k:kindOf st'=κ
 f:failedOf st'=none
 p:pendingOf st'=pendingOf st
 pm:(arrOf st').toList.Perm a₀
 fr:∀i<lo,(arrOf st')[i]?=(arrOf st)[i]?
theorem Stt.size{lo:Nat}{st st':SortSt}(h:Stt κ a₀ lo st st'):(arrOf st').size=a₀.length:=by rw[←ξq,h.pm.length_eq]
theorem Stt.get{lo:Nat}{st st':SortSt}(h:Stt κ a₀ lo st st'){i:Nat}(hi:i<a₀.length):∃x,(arrOf st')[i]?=some x/\x∈a₀:=by
 obtain⟨x,hx⟩:=zar (a:=arrOf st') (i:=i) (by rw[h.size];exact hi)
 exact⟨x,hx,h.pm.mem_iff.mp (zt hx)⟩
theorem Stt.ne(Cm:Cmp prog w A s κ a₀ L){lo:Nat}{st st':SortSt}(h:Stt κ a₀ lo st st'){i j:Nat}{x y:Keyed}(hij:i≠j)(hx:(arrOf st')[i]?=some x)(hy:(arrOf st')[j]?=some y):x≠y:=by
 have nd:(arrOf st').toList.Nodup:=h.pm.nodup_iff.mpr Cm.nd
 intro e
 subst e
 have h1:=(Array.getElem?_eq_some_iff.mp hx).1
 rw[←ξo] at hx hy
 exact hij ((List.getElem?_inj (by simpa using h1) nd).mp (hx.trans hy.symm))
theorem zds(Cm:Cmp prog w A s κ a₀ L){i j:Nat}{x y:Keyed}(hk:kindOf st=κ)(hx:(arrOf st)[i]?=some x)(hy:(arrOf st)[j]?=some y)(mx:x∈a₀)(my:y∈a₀){Q:Option Bool->SortSt->Prop}(q:Q (some (L x y)) st):wpS (model prog w) A E s (ltAt' i j) Q st:=by
 rw[ltAt'_eq]
 refine wpS_bind (wpS_get (wpS_bind (zP hx (wpS_bind (zP hy ?_)))))
 exact Cm.lt mx my hk q
theorem SrtA.snoc(Cm:Cmp prog w A s κ a₀ L){lo lo':Nat}{st0:SortSt}(S:Stt κ a₀ lo' st0 st){n:Nat}{x y:Keyed}(h1:1<=n)(h:SrtA L (arrOf st) lo (lo+n))(hx:(arrOf st)[lo+n -1]?=some x)(hy:(arrOf st)[lo+n]?=some y)(e:L x y=true):SrtA L (arrOf st) lo (lo+(n+1)):=by
 intro i j u v hi hij hj hu hv
 have mem:∀{i:Nat} {z:Keyed},(arrOf st)[i]?=some z->z∈a₀:=λhz=>S.pm.mem_iff.mp (zt hz)
 by_cases c:j<lo+n
 ·exact h i j u v hi hij c hu hv
 ·have ej:j=lo+n:=by omega
  subst ej
  rw[hy] at hv;injection hv with hv;subst hv
  by_cases c2:i=lo+n -1
  ·subst c2;rw[hx] at hu;injection hu with hu;subst hu;exact e
  ·exact Cm.tr u (mem hu) x (mem hx) y (mem hy) (h i (lo+n -1) u x hi (by omega) (by omega) hu hx) e
def DesA(L:Keyed->Keyed->Bool)(a:Array Keyed)(lo hi:Nat):Prop:=SrtA (flL L) a lo hi
theorem DesA.snoc(Cm:Cmp prog w A s κ a₀ L){lo lo':Nat}{st0:SortSt}(S:Stt κ a₀ lo' st0 st){n:Nat}{x y:Keyed}(h1:1<=n)(h:DesA L (arrOf st) lo (lo+n))(hx:(arrOf st)[lo+n -1]?=some x)(hy:(arrOf st)[lo+n]?=some y)(e:L y x=true):DesA L (arrOf st) lo (lo+(n+1)):=by
 intro i j u v hi hij hj hu hv
 have mem:∀{i:Nat} {z:Keyed},(arrOf st)[i]?=some z->z∈a₀:=λhz=>S.pm.mem_iff.mp (zt hz)
 by_cases c:j<lo+n
 ·exact h i j u v hi hij c hu hv
 ·have ej:j=lo+n:=by omega
  subst ej
  rw[hy] at hv;injection hv with hv;subst hv
  by_cases c2:i=lo+n -1
  ·subst c2;rw[hx] at hu;injection hu with hu;subst hu;exact e
  ·exact Cm.tr y (mem hy) x (mem hx) u (mem hu) e (h i (lo+n -1) u x hi (by omega) (by omega) hu hx)
theorem Stt.rev{lo n:Nat}{st st':SortSt}(S:Stt κ a₀ lo st st')(hn:lo+n<=a₀.length):Stt κ a₀ lo st (setArr st' (mirror (arrOf st') lo (lo+n) ((lo+n -lo)/2))):=
 ⟨S.k,S.f,S.p,(Array.perm_iff_toList_perm.mp (mirror_perm _ _ _ _)).trans S.pm,λi hi=>by
   show(mirror (arrOf st') lo (lo+n) ((lo+n -lo)/2))[i]?=_
   rw[getElem?_mirror_all (by rw[S.size];exact hn),if_neg (by omega)];exact S.fr i hi⟩
theorem DesA.rev{lo n:Nat}{a:Array Keyed}(hn:lo+n<=a.size)(h:DesA L a lo (lo+n)):SrtA L (mirror a lo (lo+n) ((lo+n -lo)/2)) lo (lo+n):=by
 intro i j u v hi hij hj hu hv
 rw[getElem?_mirror_all hn,if_pos (by omega)] at hu hv
 exact h (lo+(lo+n) -1 -j) (lo+(lo+n) -1 -i) v u (by omega) (by omega) (by omega) hv hu
theorem ziv(Cm:Cmp prog w A s κ a₀ L){lo nrem:Nat}{st0:SortSt}(S:Stt κ a₀ lo st0 st)(h1:1<=nrem)(hn:lo+nrem<=a₀.length){Q:Option Nat->SortSt->Prop}
 (q:∀n st',Stt κ a₀ lo st0 st'->1<=n->n<=nrem->SrtA L (arrOf st') lo (lo+n)->Q (some n) st'):wpS (model prog w) A E s (countRun' lo nrem) Q st:=by
 refine wpS_bind (wpS_mono (wpS_forRange (I:=λit (c:AscSt) st'=>st'=st/\c=(none,it)/\SrtA L (arrOf st) lo (lo+it))
  (Q:=λ(c:AscSt) st'=>st'=st/\c.1=none/\1<=c.2/\c.2<=nrem/\SrtA L (arrOf st) lo (lo+c.2)/\(c.2<nrem->∃x y,(arrOf st)[lo+c.2 -1]?=some x/\(arrOf st)[lo+c.2]?=some y/\L y x=true)) ?_ ?_ ⟨rfl,rfl,λi j x y a b c=>by omega⟩) ?_)
 ·rintro it c st' hit hit2 ⟨rfl,rfl,hs⟩
  obtain⟨x,hx,mx⟩:=S.get (i:=lo+it -1) (by omega)
  obtain⟨y,hy,my⟩:=S.get (i:=lo+it) (by omega)
  refine wpS_bind (zds Cm S.k hy hx my mx ?_)
  cases hl:L y x with
  |true=>exact wpS_pure ⟨rfl,rfl,hit,by dsimp only;omega,hs,λ_=>⟨x,y,hx,hy,hl⟩⟩
  |false=>exact wpS_pure ⟨rfl,rfl,hs.snoc Cm S hit hx hy (Cm.tot y my x mx (S.ne Cm (by omega) hy hx) hl)⟩
 ·rintro c st' ⟨rfl,rfl,hs⟩
  rw[Nat.max_eq_right h1] at hs⊢
  exact⟨rfl,rfl,h1,ζt _,hs,λh=>by dsimp only at h;omega⟩
 rintro⟨r,n⟩ st' ⟨rfl,rfl,n1,n2,hs,hd⟩
 dsimp only at n1 n2 hs hd
 refine zG (λ(c1:n=nrem)=>wpS_pure (q n _ S n1 n2 hs)) (λ(c1:¬n=nrem)=>?_)
 refine zY (λ(c2:n>1)=>?_) (λ(c2:¬n>1)=>?_)
 ·obtain ⟨x,hx,mx⟩:=S.get (i:=lo) (by omega)
  obtain⟨y,hy,my⟩:=S.get (i:=lo+n -1) (by omega)
  refine wpS_bind (zds Cm S.k hx hy mx my ?_)
  rw[hs lo (lo+n -1) x y (ζt _) (by omega) (by omega) hx hy]
  exact wpS_pure (q n _ S n1 n2 hs)
 ·have e1:n=1:=by omega
  subst e1
  obtain⟨x0,y0,hx0,hy0,hl0⟩:=hd (by omega)
  have d2:DesA L (arrOf st') lo (lo+(1+1)):=DesA.snoc Cm S (ζt 1) (λi j x y a b c=>by omega) hx0 hy0 hl0
  refine wpS_bind (wpS_lift (wpAny_rule ⟨rfl,?_⟩))
  refine wpS_bind (wpS_mono (wpS_forRange (I:=λit (c:DescSt) st''=>st''=st'/\c=(none,it,0)/\DesA L (arrOf st') lo (lo+it))
   (Q:=λ(c:DescSt) st''=>st''=st'/\∃n,c=(none,n,0)/\2<=n/\n<=nrem/\DesA L (arrOf st') lo (lo+n)) ?_ ?_ ⟨rfl,rfl,d2⟩) ?_)
  ·rintro it c st'' hit hit2 ⟨rfl,rfl,hs⟩
   obtain⟨x,hx,mx⟩:=S.get (i:=lo+it -1) (by omega)
   obtain⟨y,hy,my⟩:=S.get (i:=lo+it) (by omega)
   refine wpS_bind (zds Cm S.k hy hx my mx ?_)
   cases hl:L y x with
   |true=>exact wpS_pure ⟨rfl,rfl,DesA.snoc Cm S (by omega) hs hx hy hl⟩
   |false=>
    refine wpS_bind (zds Cm S.k hx hy mx my ?_)
    rw[Cm.tot y my x mx (S.ne Cm (by omega) hy hx) hl]
    exact wpS_pure ⟨rfl,it,rfl,by omega,by omega,hs⟩
  ·rintro c st'' ⟨rfl,rfl,hs⟩
   have e2:max (1+1) nrem=nrem:=by omega
   rw[e2] at hs⊢
   exact⟨rfl,nrem,rfl,by omega,ζt _,hs⟩
  rintro c st'' ⟨rfl,n,rfl,m1,m2,hs2⟩
  have S2:=S.rev (n:=n) (by omega)
  have hs3:=hs2.rev (by rw[S.size];omega)
  refine wpS_bind (wpS_reverse ?_)
  refine wpS_bind (wpS_mono (wpS_forRange (I:=λit (c:AscSt) st3=>st3=setArr st'' (mirror (arrOf st'') lo (lo+n) ((lo+n -lo)/2))/\c=(none,it)/\SrtA L (arrOf st3) lo (lo+it))
   (Q:=λ(c:AscSt) st3=>st3=setArr st'' (mirror (arrOf st'') lo (lo+n) ((lo+n -lo)/2))/\∃m,c=(none,m)/\1<=m/\m<=nrem/\SrtA L (arrOf st3) lo (lo+m)) ?_ ?_ ⟨rfl,rfl,hs3⟩) ?_)
  ·rintro it c st3 hit hit2 ⟨rfl,rfl,hs⟩
   have hit':n<=it:=hit
   obtain⟨x,hx,mx⟩:=S2.get (i:=lo+it -1) (by omega)
   obtain⟨y,hy,my⟩:=S2.get (i:=lo+it) (by omega)
   refine wpS_bind (zds Cm S2.k hy hx my mx ?_)
   cases hl:L y x with
   |true=>exact wpS_pure ⟨rfl,it,rfl,by omega,by omega,hs⟩
   |false=>exact wpS_pure ⟨rfl,rfl,hs.snoc Cm S2 (by omega) hx hy (Cm.tot y my x mx (S2.ne Cm (by omega) hy hx) hl)⟩
  ·rintro c st3 ⟨rfl,rfl,hs⟩
   rw[Nat.max_eq_right m2] at hs⊢
   exact⟨rfl,nrem,rfl,h1,ζt _,hs⟩
  rintro c st3 ⟨rfl,m,rfl,w1,w2,hs4⟩
  exact wpS_pure (q m _ S2 w1 w2 hs4)
theorem Stt.move{lo k l:Nat}{st st':SortSt}(S:Stt κ a₀ lo st st')(hk:lo+k<a₀.length)(hl:l<=k):Stt κ a₀ lo st (setArr st' (bubble (arrOf st') (lo+k) (lo+k -(lo+l)))):=
 ⟨S.k,S.f,S.p,(Array.perm_iff_toList_perm.mp (bubble_perm _ _ _)).trans S.pm,λi hi=>by
   show(bubble (arrOf st') (lo+k) (lo+k -(lo+l)))[i]?=_
   rw[getElem?_bubble (by rw[S.size];exact hk) _ (by omega),if_neg (by omega),if_neg (by omega)];exact S.fr i hi⟩
theorem SrtA.move{lo k l:Nat}{a:Array Keyed}(hk:lo+k<a.size)(hl:l<=k)(h:SrtA L a lo (lo+k)){z:Keyed}(hz:a[lo+k]?=some z)(h1:∀i<l,∀x,a[lo+i]?=some x->L x z=true)(h2:∀i,l<=i->i<k->∀x,a[lo+i]?=some x->L z x=true):
 SrtA L (bubble a (lo+k) (lo+k -(lo+l))) lo (lo+(k+1)):=by
 have g:∀i,(bubble a (lo+k) (lo+k -(lo+l)))[i]?=if i=lo+l then a[lo+k]? else if lo+l<i/\i<=lo+k then a[i -1]? else a[i]?:=λi=>by
  rw[getElem?_bubble hk _ (by omega),show lo+k -(lo+k -(lo+l))=lo+l by omega]
 intro i j u v hi hij hj hu hv
 rw[g] at hu hv
 split at hu
 ·rw[if_neg (by omega),if_pos (by omega)] at hv
  rw[hz] at hu;injection hu with hu;subst hu
  exact h2 (j -1 -lo) (by omega) (by omega) v (by rw[show lo+(j -1 -lo)=j -1 by omega];exact hv)
 ·split at hu
  ·rw[if_neg (by omega),if_pos (by omega)] at hv
   exact h (i -1) (j -1) u v (by omega) (by omega) (by omega) hu hv
  ·split at hv
   ·rw[hz] at hv;injection hv with hv;subst hv
    exact h1 (i -lo) (by omega) u (by rw[show lo+(i -lo)=i by omega];exact hu)
   ·split at hv
    ·exact h i (j -1) u v hi (by omega) (by omega) hu hv
    ·exact h i j u v hi hij (by omega) hu hv
theorem zf3(Cm:Cmp prog w A s κ a₀ L){lo n ok:Nat}{st0:SortSt}(S:Stt κ a₀ lo st0 st)(h1:1<=ok)(h2:ok<=n)(hn:lo+n<=a₀.length)(hs:SrtA L (arrOf st) lo (lo+ok)){Q:Bool->SortSt->Prop}
 (q:∀st',Stt κ a₀ lo st0 st'->SrtA L (arrOf st') lo (lo+n)->Q true st'):wpS (model prog w) A E s (binarySort' lo n ok) Q st:=by
 refine wpS_bind (wpS_mono (wpS_forRange (I:=λk (c:Option Bool×Unit) st'=>c.1=none/\Stt κ a₀ lo st0 st'/\SrtA L (arrOf st') lo (lo+k))
  (Q:=λ(c:Option Bool×Unit) st'=>c.1=none/\Stt κ a₀ lo st0 st'/\SrtA L (arrOf st') lo (lo+n)) ?_ ?_ ⟨rfl,S,by rw[Nat.max_eq_left h1];exact hs⟩) ?_)
 ·rintro k ⟨c,u⟩ st' hk1 hk2 ⟨rfl,S,hs⟩
  have hk1':1<=k:=by omega
  obtain⟨z,hz,mz⟩:=S.get (i:=lo+k) (by omega)
  refine wpS_bind (wpS_mono (wpS_forRange (I:=λit (c:Option Bool×Nat×Nat) st''=>st''=st'/\c.1=none/\c.2.1<=c.2.2/\c.2.2<=k/\c.2.2 -c.2.1+it<=k/\(∀i<c.2.1,∀x,(arrOf st')[lo+i]?=some x->L x z=true)/\(∀i,c.2.2<=i->i<k->∀x,(arrOf st')[lo+i]?=some x->L z x=true))
   (Q:=λ(c:Option Bool×Nat×Nat) st''=>st''=st'/\c.1=none/\c.2.1<=k/\(∀i<c.2.1,∀x,(arrOf st')[lo+i]?=some x->L x z=true)/\(∀i,c.2.1<=i->i<k->∀x,(arrOf st')[lo+i]?=some x->L z x=true)) ?_ ?_ ⟨rfl,rfl,ξi _,ζt _,ζt _,λi hi=>by dsimp only at hi;omega,λi hi hik=>by dsimp only at hi;omega⟩) ?_)
  ·rintro it ⟨r,l,h⟩ st'' _ hit ⟨rfl,rfl,g1,g2,g3,g4,g5⟩
   dsimp only at g1 g2 g3 g4 g5
   refine zY (λ(c:l≥h)=>wpS_pure ⟨rfl,rfl,by dsimp only;omega,g4,λi hi hik=>g5 i (by dsimp only at hi;omega) hik⟩) (λ(c:¬l≥h)=>?_)
   obtain⟨x,hx,mx⟩:=S.get (i:=lo+(l+h)/2) (by omega)
   refine wpS_bind (zds Cm S.k hz hx mz mx ?_)
   have mem:∀{i:Nat} {z:Keyed},(arrOf st'')[i]?=some z->z∈a₀:=λhz=>S.pm.mem_iff.mp (zt hz)
   cases hl:L z x with
   |true=>
    refine wpS_pure ⟨rfl,rfl,by dsimp only;omega,by dsimp only;omega,by dsimp only;omega,g4,λi hi hik y hy=>?_⟩
    dsimp only at hi
    by_cases c2:i=(l+h)/2
    ·subst c2;rw[hx] at hy;injection hy with hy;subst hy;exact hl
    ·exact Cm.tr z mz x mx y (mem hy) hl (hs _ _ x y (by omega) (by omega) (by omega) hx hy)
   |false=>
    have hl':=Cm.tot z mz x mx (S.ne Cm (by omega) hz hx) hl
    refine wpS_pure ⟨rfl,rfl,by dsimp only;omega,g2,by dsimp only;omega,λi hi y hy=>?_,g5⟩
    dsimp only at hi
    by_cases c2:i=(l+h)/2
    ·subst c2;rw[hx] at hy;injection hy with hy;subst hy;exact hl'
    ·exact Cm.tr y (mem hy) x mx z mz (hs _ _ y x (by omega) (by omega) (by omega) hy hx) hl'
  ·rintro ⟨r,l,h⟩ st'' ⟨rfl,rfl,g1,g2,g3,g4,g5⟩
   dsimp only at g1 g2 g3 g4 g5
   exact⟨rfl,rfl,by dsimp only;omega,g4,λi hi hik=>g5 i (by dsimp only at hi;omega) hik⟩
  rintro⟨r,l,h⟩ st'' ⟨rfl,rfl,g1,g2,g3⟩
  dsimp only at g1 g2 g3
  refine wpS_bind (show wpS _ _ _ _ (moveDown' (lo+k) (lo+l)) _ _ from ?_)
  rw[moveDown'_eq]
  refine wpS_modify (wpS_pure ⟨rfl,S.move (by omega) g1,hs.move (by rw[S.size];omega) g1 hz g2 g3⟩)
 ·rintro ⟨c,u⟩ st' ⟨rfl,S,hs⟩
  rw[show max (max ok 1) n=n by omega] at hs
  exact⟨rfl,S,hs⟩
 rintro⟨c,u⟩ st' ⟨rfl,S,hs⟩
 exact wpS_pure (q st' S hs)
end
section
variable{prog:Program}{w:World}{A:Around}{E:Value->Shared->Prop}{s:Shared}{κ:SortKind}{a₀:List Keyed}{L:Keyed->Keyed->Bool}{st:SortSt}
noncomputable abbrev Pnd:=Nat×Nat×Nat
def Rn(L:Keyed->Keyed->Bool):Nat->List Pnd->List (List Keyed)->Prop
 |_,[],[]=>True
 |off,z::p,g::gs=>z.1=off/\z.2.1=g.length/\1<=g.length/\PW L g/\Rn L (off+g.length) p gs
 |_,_,_=>False
theorem zmH:∀{p1 p2:List Pnd} {gs:List (List Keyed)} {off:Nat},Rn L off (p1 ++p2) gs->∃g1 g2,gs=g1 ++g2/\Rn L off p1 g1/\Rn L (off+g1.flatten.length) p2 g2/\g1.length=p1.length
 |[],p2,gs,off,h=>⟨[],gs,rfl,trivial,by simpa using h,rfl⟩
 |z::p1,p2,[],off,h=>by cases h
 |z::p1,p2,g::gs,off,h=>by
  obtain⟨h1,h2,h3,h4,h5⟩:=h
  obtain⟨g1,g2,rfl,r1,r2,r3⟩:=zmH (p1:=p1) h5
  refine⟨g::g1,g2,rfl,⟨h1,h2,h3,h4,r1⟩,?_,by simp[r3]⟩
  rw[List.flatten_cons,ζe,←Nat.add_assoc];exact r2
theorem zm0:∀{p1 p2:List Pnd} {g1 g2:List (List Keyed)} {off:Nat},Rn L off p1 g1->Rn L (off+g1.flatten.length) p2 g2->Rn L off (p1 ++p2) (g1 ++g2)
 |[],p2,[],g2,off,_,h=>by simpa using h
 |[],_,_::_,_,_,h,_=>by cases h
 |_::_,_,[],_,_,h,_=>by cases h
 |z::p1,p2,g::g1,g2,off,⟨h1,h2,h3,h4,h5⟩,h=>by
  refine⟨h1,h2,h3,h4,zm0 h5 ?_⟩
  rw[List.flatten_cons,ζe,←Nat.add_assoc] at h;exact h
theorem zi0:∀{p:List Pnd} {gs:List (List Keyed)} {off:Nat},Rn L off p gs->p.length=gs.length/\p.length<=gs.flatten.length
 |[],[],_,_=>⟨rfl,ζt _⟩
 |[],_::_,_,h=>by cases h
 |_::_,[],_,h=>by cases h
 |z::p,g::gs,off,⟨h1,h2,h3,h4,h5⟩=>by
  have:=zi0 h5
  simp only[ζv,List.flatten_cons,ζe]
  omega
structure Good(κ:SortKind)(L:Keyed->Keyed->Bool)(a₀ T:List Keyed)(gs:List (List Keyed))(st:SortSt):Prop where
 k:kindOf st=κ
 f:failedOf st=none
 pm:(arrOf st).toList.Perm a₀
 ar:(arrOf st).toList=gs.flatten ++T
 rn:Rn L 0 (pendingOf st).toList gs
variable{T:List Keyed}{gs:List (List Keyed)}
theorem zlM:∀{l:List Pnd} {i:Nat},i+1<l.length->∃p1 z1 z2 p2,l=p1 ++z1::z2::p2/\p1.length=i
 |[],_,h=>by simp at h
 |[_],_,h=>by simp at h
 |z1::z2::l,0,_=>⟨[],z1,z2,l,rfl,rfl⟩
 |z1::z2::l,i+1,h=>by
  obtain⟨p1,a,b,p2,e,e2⟩:=zlM (l:=z2::l) (i:=i) (by simp at h⊢;omega)
  exact⟨z1::p1,a,b,p2,by rw[e];rfl,by simp[e2]⟩
theorem zhY{p:Array Pnd}{p1 p2:List Pnd}{z1 z2 z:Pnd}(e:p.toList=p1 ++z1::z2::p2):(zeA p1.length p z).toList=p1 ++z::p2:=by
 have ep:p=(p1 ++z1::z2::p2).toArray:=by rw[←e]
 subst ep
 unfold zeA
 rw[List.setIfInBounds_toArray,List.eraseIdxIfInBounds_toArray]
 show List.eraseIdx _ _=_
 rw[List.set_append_right _ _ (ζt _),Nat.sub_self,List.set_cons_zero,List.eraseIdx_append_of_length_le (by omega)]
 rw[show p1.length+1 -p1.length=1 by omega];rfl
theorem zdA(Cm:Cmp prog w A s κ a₀ L)(G:Good κ L a₀ T gs st){i:Nat}(hi:i+1<(pendingOf st).size){Q:Bool->SortSt->Prop}
 (q:∀st' gs',Good κ L a₀ T gs' st'->gs'.flatten.length=gs.flatten.length->(pendingOf st').size+1=(pendingOf st).size->Q true st'):wpS (model prog w) A E s (mergeAt' i) Q st:=by
 obtain⟨p1,⟨sa,na,pw⟩,⟨sb,nb,pw2⟩,p2,e,rfl⟩:=zlM (l:=(pendingOf st).toList) (i:=i) (by simpa using hi)
 have rn:=G.rn
 rw[e] at rn
 obtain⟨g1,g2,rfl,r1,r2,r3⟩:=zmH rn
 rw[Nat.zero_add] at r2
 match g2,r2 with
 |[],r2=>cases r2
 |[_],r2=>exact absurd r2.2.2.2.2 (λh=>by cases h)
 |X::Y::g3,r2=>
  obtain⟨a1,a2,a3,a4,b1,b2,b3,b4,b5⟩:=r2
  dsimp only at a1 a2 b1 b2
  have gi:(pendingOf st)[p1.length]?=some (sa,na,pw):=by rw[←ξo,e,ξm (ζt _),Nat.sub_self];rfl
  have gj:(pendingOf st)[p1.length+1]?=some (sb,nb,pw2):=by rw[←ξo,e,ξm (by omega),show p1.length+1 -p1.length=1 by omega];rfl
  refine zja Cm G.k G.f G.pm (P:=g1.flatten) (X:=X) (Y:=Y) (T:=g3.flatten ++T) (by rw[G.ar];simp) a1.symm a2.symm b2.symm (by omega) (by omega) (by omega) a4 b4 gi gj λst' R k f ar pr sr pe=>?_
  have el:(pendingOf st').toList=p1 ++(sa,na+nb,pw)::p2:=by rw[pe];exact zhY e
  have lR:R.length=X.length+Y.length:=by rw[pr.length_eq,ζe]
  refine q st' (g1 ++R::g3) ⟨k,f,?_,by rw[ar];simp,?_⟩ ?_ ?_
  ·refine List.Perm.trans ?_ G.pm
   rw[ar,G.ar]
   have:(g1.flatten ++R ++(g3.flatten ++T)).Perm (g1.flatten ++(X ++Y)++(g3.flatten ++T)):=(pr.append_left _).append_right _
   refine this.trans ?_
   simp
  ·rw[el]
   refine zm0 r1 ⟨by simpa using a1,?_,by omega,sr,?_⟩
   ·show na+nb=R.length;omega
   ·rw[lR,Nat.zero_add,←Nat.add_assoc];exact b5
  ·simp[lR];omega
  ·rw[←ξq,el,←ξq,e];simp;omega
theorem zk5{a:Array Keyed}{lo n:Nat}(h:SrtA L a lo (lo+n)):PW L ((a.toList.drop lo).take n):=by
 refine List.pairwise_iff_getElem.mpr λi j hi hj hij=>?_
 have l1:i<n/\lo+i<a.size:=by simp at hi;omega
 have l2:j<n/\lo+j<a.size:=by simp at hj;omega
 refine h (lo+i) (lo+j) _ _ (by omega) (by omega) (by omega) ?_ ?_
 ·rw[Array.getElem?_eq_getElem l1.2];simp
 ·rw[Array.getElem?_eq_getElem l2.2];simp
theorem Stt.good{lo:Nat}{st st':SortSt}(G:Good κ L a₀ T gs st)(hlo:gs.flatten.length=lo)(S:Stt κ a₀ lo st st'):Good κ L a₀ ((arrOf st').toList.drop lo) gs st':=by
 refine⟨S.k,S.f,S.pm,?_,by rw[S.p];exact G.rn⟩
 have e:gs.flatten=(arrOf st').toList.take lo:=by
  have e1:gs.flatten=(arrOf st).toList.take lo:=by rw[G.ar,←hlo,List.take_left]
  rw[e1]
  refine List.ext_getElem? λi=>?_
  rw[List.getElem?_take,List.getElem?_take]
  split
  ·rw[ξo,ξo];exact(S.fr i (by assumption)).symm
  ·rfl
 rw[e,ξr]
theorem zj5:∀{p p':List Pnd} {gs:List (List Keyed)} {off:Nat},p.map (λz=>(z.1,z.2.1))=p'.map (λz=>(z.1,z.2.1))->Rn L off p gs->Rn L off p' gs
 |[],[],_,_,_,h=>h
 |[],_::_,_,_,e,_=>by simp at e
 |_::_,[],_,_,e,_=>by simp at e
 |z::p,z'::p',[],_,_,h=>by cases h
 |z::p,z'::p',g::gs,off,e,⟨h1,h2,h3,h4,h5⟩=>by
  rw[ξt,ξt] at e
  injection e with e1 e2
  injection e1 with e3 e4
  exact⟨e3.symm.trans h1,e4.symm.trans h2,h3,h4,zj5 e2 h5⟩
theorem zhF(p:Array Pnd)(i pw:Nat):(p.modify i λz=>(z.1,z.2.1,pw)).toList.map (λz=>(z.1,z.2.1))=p.toList.map (λz=>(z.1,z.2.1)):=by
 refine List.ext_getElem? λj=>?_
 rw[ζp,ζp,Array.toList_modify,List.getElem?_modify]
 split
 ·cases p.toList[j]?<;>rfl
 ·cases p.toList[j]?<;>rfl
theorem Good.last(G:Good κ L a₀ T gs st)(i pw:Nat):Good κ L a₀ T gs (setPending st ((pendingOf st).modify i λz=>(z.1,z.2.1,pw))):=
 ⟨G.k,G.f,G.pm,G.ar,zj5 (zhF _ _ _).symm G.rn⟩
theorem Good.push(G:Good κ L a₀ T gs st){n:Nat}(h1:1<=n)(h2:n<=T.length)(hs:PW L (T.take n))(pw:Nat):Good κ L a₀ (T.drop n) (gs ++ [T.take n]) (setPending st ((pendingOf st).push (gs.flatten.length,n,pw))):=by
 refine⟨G.k,G.f,G.pm,?_,?_⟩
 ·show (arrOf st).toList=_
  rw[G.ar];simp
 ·show Rn L 0 ((pendingOf st).push _).toList _
  rw[Array.toList_push]
  exact zm0 G.rn ⟨by simp,by simp;omega,by simp;omega,hs,trivial⟩
theorem zhG(Cm:Cmp prog w A s κ a₀ L)(G0:Good κ L a₀ a₀ [] st){Q:Unit->SortSt->Prop}(q:∀st',(arrOf st').toList.Perm a₀->PW L (arrOf st').toList->failedOf st'=none->Q () st'):wpS (model prog w) A E s sortRuns' Q st:=by
 rw[sortRuns'_eq]
 refine wpS_bind (wpS_get ?_)
 have hz:(arrOf st).size=a₀.length:=by rw[←ξq,G0.pm.length_eq]
 dsimp only
 rw[hz]
 generalize hmr:minRun' a₀.length a₀.length 0=minrun
 refine wpS_bind (wpS_mono (wpS_forRange (I:=λit (c:Option Unit×Nat) st'=>c.1=none/\it<=c.2/\∃gs T,Good κ L a₀ T gs st'/\gs.flatten.length=c.2)
  (Q:=λ(c:Option Unit×Nat) st'=>c.1=none/\∃gs,Good κ L a₀ [] gs st') ?_ ?_ ⟨rfl,ζt _,[],a₀,G0,rfl⟩) ?_)
 ·rintro it ⟨r,lo⟩ st' _ hit ⟨rfl,h1,gs,T,G,hl⟩
  dsimp only at h1 hl
  have hT:gs.flatten.length+T.length=a₀.length:=by rw[←ζe,←G.ar,G.pm.length_eq]
  refine zY (λ(c:lo≥a₀.length)=>wpS_pure ⟨rfl,gs,?_⟩) (λ(c:¬lo≥a₀.length)=>?_)
  ·have:T=[]:=List.length_eq_zero_iff.mp (by omega)
   subst this;exact G
  refine wpS_bind (ziv Cm (lo:=lo) (nrem:=a₀.length -lo) (st0:=st') ⟨G.k,G.f,rfl,G.pm,λ_ _=>rfl⟩ (by omega) (by omega) λn st2 S2 n1 n2 hs=>?_)
  have made:∀(n:Nat) (st3 st4:SortSt) (gs4:List (List Keyed)),Stt κ a₀ lo st' st3->1<=n->n<=a₀.length -lo->SrtA L (arrOf st3) lo (lo+n)->Good κ L a₀ ((arrOf st3).toList.drop lo) gs4 st4->gs4.flatten.length=lo->
   ∃gs T,Good κ L a₀ T gs (setPending st4 ((pendingOf st4).push (lo,n,0)))/\gs.flatten.length=lo+n:=λn st3 st4 gs4 S3 n1 n2 hs G4 h4=>by
   have lT:((arrOf st3).toList.drop lo).length=a₀.length -lo:=by rw[ζq,S3.pm.length_eq]
   have:=G4.push (n:=n) n1 (by omega) (zk5 hs) 0
   rw[h4] at this
   exact⟨_,_,this,by rw[List.flatten_append,ζe,h4];simp only[List.flatten_cons,List.flatten_nil,ξw,ζl];omega⟩
  refine zY (λ(c2:n<minrun)=>?_) (λ(c2:¬n<minrun)=>?_)
  ·refine wpS_bind (wpS_lift (wpAny_rule ⟨rfl,?_⟩))
   refine wpS_bind (zf3 Cm (lo:=lo) (n:=min (a₀.length -lo) minrun) (ok:=n) S2 n1 (by omega) (by omega) hs λst3 S3 hs3=>?_)
   generalize hm:min (a₀.length -lo) minrun=m at hs3
   have m1:1<=m:=by omega
   have m2:m<=a₀.length -lo:=by omega
   have G3:=Stt.good G hl S3
   refine wpS_bind (wpS_get ?_)
   cases hb:(pendingOf st3).back? with
   |none=>
    obtain⟨gs5,T5,G5,l5⟩:=made m st3 st3 gs S3 m1 m2 hs3 G3 hl
    exact wpS_bind (wpS_modify (wpS_pure ⟨rfl,by dsimp only;omega,gs5,T5,G5,l5⟩))
   |some z=>
    refine wpS_bind (wpS_mono (wpS_forRange (I:=λit (c:Option Unit×Unit) st4=>c.1=none/\∃gs4,Good κ L a₀ ((arrOf st3).toList.drop lo) gs4 st4/\gs4.flatten.length=lo)
     (Q:=λ(c:Option Unit×Unit) st4=>c.1=none/\∃gs4,Good κ L a₀ ((arrOf st3).toList.drop lo) gs4 st4/\gs4.flatten.length=lo) ?_ (λc st4 h=>h) ⟨rfl,gs,G3,hl⟩) ?_)
    ·rintro it2 ⟨r,u⟩ st4 _ _ ⟨rfl,gs4,G4,l4⟩
     refine wpS_bind (wpS_get ?_)
     by_cases hp:(pendingOf st4).size>1
     ·obtain ⟨z2,hz2⟩:∃z2,(pendingOf st4)[(pendingOf st4).size -2]?=some z2:=⟨_,Array.getElem?_eq_getElem (by omega)⟩
      rw[if_pos hp,hz2]
      refine zY (λ_=>wpS_pure ⟨rfl,gs4,G4,l4⟩) (λ_=>?_)
      refine wpS_bind (zdA Cm G4 (by omega) λst5 gs5 G5 l5 _=>?_)
      exact wpS_pure ⟨rfl,gs5,G5,l5.trans l4⟩
     ·rw[if_neg hp]
      exact wpS_pure ⟨rfl,gs4,G4,l4⟩
    ·rintro ⟨r,u⟩ st4 ⟨rfl,gs4,G4,l4⟩
     refine wpS_bind (wpS_modify ?_)
     have G4':=G4.last ((pendingOf st4).size -1) (power' a₀.length (2*z.1+z.2.1) (2*z.1+z.2.1+z.2.1+m) a₀.length)
     obtain⟨gs5,T5,G5,l5⟩:=made m st3 _ gs4 S3 m1 m2 hs3 G4' l4
     refine wpS_bind (wpS_modify (wpS_pure ⟨rfl,by dsimp only;omega,gs5,T5,?_,l5⟩))
     exact G5
  ·have G3:=Stt.good G hl S2
   refine wpS_bind (wpS_get ?_)
   cases hb:(pendingOf st2).back? with
   |none=>
    obtain⟨gs5,T5,G5,l5⟩:=made n st2 st2 gs S2 n1 n2 hs G3 hl
    exact wpS_bind (wpS_modify (wpS_pure ⟨rfl,by dsimp only;omega,gs5,T5,G5,l5⟩))
   |some z=>
    refine wpS_bind (wpS_mono (wpS_forRange (I:=λit (c:Option Unit×Unit) st4=>c.1=none/\∃gs4,Good κ L a₀ ((arrOf st2).toList.drop lo) gs4 st4/\gs4.flatten.length=lo)
     (Q:=λ(c:Option Unit×Unit) st4=>c.1=none/\∃gs4,Good κ L a₀ ((arrOf st2).toList.drop lo) gs4 st4/\gs4.flatten.length=lo) ?_ (λc st4 h=>h) ⟨rfl,gs,G3,hl⟩) ?_)
    ·rintro it2 ⟨r,u⟩ st4 _ _ ⟨rfl,gs4,G4,l4⟩
     refine wpS_bind (wpS_get ?_)
     by_cases hp:(pendingOf st4).size>1
     ·obtain ⟨z2,hz2⟩:∃z2,(pendingOf st4)[(pendingOf st4).size -2]?=some z2:=⟨_,Array.getElem?_eq_getElem (by omega)⟩
      rw[if_pos hp,hz2]
      refine zY (λ_=>wpS_pure ⟨rfl,gs4,G4,l4⟩) (λ_=>?_)
      refine wpS_bind (zdA Cm G4 (by omega) λst5 gs5 G5 l5 _=>?_)
      exact wpS_pure ⟨rfl,gs5,G5,l5.trans l4⟩
     ·rw[if_neg hp]
      exact wpS_pure ⟨rfl,gs4,G4,l4⟩
    ·rintro ⟨r,u⟩ st4 ⟨rfl,gs4,G4,l4⟩
     refine wpS_bind (wpS_modify ?_)
     have G4':=G4.last ((pendingOf st4).size -1) (power' a₀.length (2*z.1+z.2.1) (2*z.1+z.2.1+z.2.1+n) a₀.length)
     obtain⟨gs5,T5,G5,l5⟩:=made n st2 _ gs4 S2 n1 n2 hs G4' l4
     exact wpS_bind (wpS_modify (wpS_pure ⟨rfl,by dsimp only;omega,gs5,T5,G5,l5⟩))
 ·rintro ⟨r,lo⟩ st' ⟨rfl,h1,gs,T,G,hl⟩
  dsimp only at h1 hl
  have:T=[]:=by
   have:=G.pm.length_eq
   rw[G.ar,ζe] at this
   exact List.length_eq_zero_iff.mp (by omega)
  subst this
  exact⟨rfl,gs,G⟩
 rintro⟨r,lo⟩ st' ⟨rfl,gs,G⟩
 refine wpS_bind (wpS_mono (wpS_forRange (I:=λit (c:Option Unit×Unit) st'=>c.1=none/\(∃gs,Good κ L a₀ [] gs st')/\(pendingOf st').size+it<=a₀.length)
  (Q:=λ(c:Option Unit×Unit) st'=>c.1=none/\(∃gs,Good κ L a₀ [] gs st')/\(pendingOf st').size<=1) ?_ ?_ ⟨rfl,⟨gs,G⟩,?_⟩) ?_)
 ·rintro it ⟨c,u⟩ st2 _ hit ⟨rfl,⟨gs,G⟩,hp⟩
  refine wpS_bind (wpS_get ?_)
  refine zY (λc=>wpS_pure ⟨rfl,⟨gs,G⟩,c⟩) (λ(c:¬(pendingOf st2).size<=1)=>?_)
  refine wpS_bind (zdA Cm G ?_ λst3 gs3 G3 _ hs=>?_)
  ·have aux:∀(b:Bool) (n:Nat),2<=n->(if b=true then n -2 -1 else n -2)+1<n:=λb n h=>by split<;>omega
   exact aux _ _ (by omega)
  ·exact wpS_pure ⟨rfl,⟨gs3,G3⟩,by omega⟩
 ·rintro ⟨c,u⟩ st2 ⟨rfl,G,hp⟩
  exact⟨rfl,G,by omega⟩
 ·have h3:=zi0 G.rn
  have h4:=G.pm.length_eq
  rw[G.ar] at h4
  simp at h4 h3
  show(pendingOf st').size+0<=_;omega
 rintro⟨c,u⟩ st2 ⟨rfl,⟨gs,G⟩,hp⟩
 refine wpS_pure (q st2 G.pm ?_ G.f)
 have h3:=zi0 G.rn
 rw[G.ar,ξw]
 match gs,h3,G.rn with
 |[],_,_=>exact List.Pairwise.nil
 |[g],_,h=>
  cases e:(pendingOf st2).toList with
  |nil=>rw[e] at h;cases h
  |cons z p=>rw[e] at h;simpa using h.2.2.2.1
 |_::_::_,h,_=>simp at h;omega
end
end RS
namespace RS
open PySem PySem.W PyProof.Rows RW
section
variable{prog:Program}{w:World}{A:Around}{E:Value->Shared->Prop}{s:Shared}{κ:SortKind}
noncomputable def idxV (vs:List Value) (v:Value):Nat:=by
 classical exact if h:∃i,vs[i]?=some v then h.choose else 0
theorem zjD{vs:List Value}(hn:vs.Nodup){i:Nat}{v:Value}(h:vs[i]?=some v):idxV vs v=i:=by
 unfold idxV
 have hex:∃i,vs[i]?=some v:=⟨i,h⟩
 rw[dif_pos hex]
 have h2:=hex.choose_spec
 have hl:=(List.getElem?_eq_some_iff.mp h2).1
 exact(List.getElem?_inj hl hn).mp (h2.trans h.symm)
theorem big_run{vs:List Value}{lt:Nat->Nat->Bool}(hn:vs.Nodup)(hs:Strict vs.length lt)(hk:∀i j,i<vs.length->j<vs.length->∀C:Bool->Shared->Prop,C (lt i j) s->wpAny (model prog w) A (keyLt' κ (vs.getD i Value.none) (vs.getD j Value.none)) C (λ_ _=>False) s)
 {Q:SortSt->Shared->Prop} (q:∀st' (p:Array Nat),PermN vs.length p->Sor lt p vs.length->(arrOf st').map (·.2)=List.toArray (p.toList.map λi=>vs.getD i Value.none)->failedOf st'=none->Q st' s):
 wpAny (model prog w) A ((sortRuns').run (SortSt.mk' κ (vs.toArray.zip vs.toArray) #[] 7 none)) (λr s'=>Q r.2 s') E s:=by
 have ea:(vs.toArray.zip vs.toArray).toList=vs.map λv=>(v,v):=by
  rw[Array.toList_zip]
  show vs.zip vs=_
  clear hn hs hk q
  induction vs with
  |nil=>rfl
  |cons v vs ih=>rw[List.zip_cons_cons,ξt,ih]
 have mem:∀x∈vs.map (λv=>(v,v)),∃i,i<vs.length/\vs[i]?=some x.1/\x=(x.1,x.1)/\idxV vs x.1=i/\vs.getD i Value.none=x.1:=λx hx=>by
  obtain⟨v,hv,rfl⟩:=List.mem_map.mp hx
  obtain⟨i,hi⟩:=List.mem_iff_getElem?.mp hv
  exact⟨i,(List.getElem?_eq_some_iff.mp hi).1,hi,rfl,zjD hn hi,by rw[List.getD_eq_getElem?_getD,hi];rfl⟩
 have Cm:Cmp prog w A s κ (vs.map λv=>(v,v)) (λx y=>lt (idxV vs x.1) (idxV vs y.1)):=by
  refine⟨λx hx y hy hne e=>?_,λx hx y hy z hz e1 e2=>?_,λx hx y hy e=>?_,?_,λx hx y hy C hC=>?_⟩
  ·obtain ⟨i,i1,i2,i3,i4,i5⟩:=mem x hx
   obtain⟨j,j1,j2,j3,j4,j5⟩:=mem y hy
   rw[i4,j4] at e⊢
   refine hs.tot i j i1 j1 (λz=>hne ?_) e
   subst z
   rw[i2] at j2;injection j2 with j2
   rw[i3,j3,j2]
  ·obtain ⟨i,i1,i2,i3,i4,i5⟩:=mem x hx
   obtain⟨j,j1,j2,j3,j4,j5⟩:=mem y hy
   obtain⟨k,k1,k2,k3,k4,k5⟩:=mem z hz
   rw[i4,j4] at e1;rw[j4,k4] at e2;rw[i4,k4]
   exact hs.tr i j k i1 j1 k1 e1 e2
  ·obtain ⟨i,i1,i2,i3,i4,i5⟩:=mem x hx
   obtain⟨j,j1,j2,j3,j4,j5⟩:=mem y hy
   rw[i4,j4] at e;rw[j4,i4]
   exact hs.asy i j i1 j1 e
  ·exact List.pairwise_map.mpr (hn.imp λh z=>h (by injection z))
  ·obtain ⟨i,i1,i2,i3,i4,i5⟩:=mem x hx
   obtain⟨j,j1,j2,j3,j4,j5⟩:=mem y hy
   rw[i4,j4] at hC
   have:=hk i j i1 j1 C hC
   rw[i5,j5] at this
   exact this
 have run:=zhG (E:=E) Cm (st:=SortSt.mk' κ (vs.toArray.zip vs.toArray) #[] 7 none) ⟨rfl,rfl,by show(vs.toArray.zip vs.toArray).toList.Perm _;rw[ea],by show(vs.toArray.zip vs.toArray).toList=_;rw[ea];rfl,trivial⟩
  (Q:=λ_ st'=>∃p:Array Nat,PermN vs.length p/\Sor lt p vs.length/\(arrOf st').map (·.2)=List.toArray (p.toList.map λi=>vs.getD i Value.none)/\failedOf st'=none) λst' hp hw hf=>?_
 ·exact ψc run (λr s' ⟨e,p,a,b,c,d⟩=>by subst e;exact q r.2 p a b c d) λ_ _ e=>e
 ·have memA:∀x∈(arrOf st').toList,_:=λx hx=>mem x (hp.mem_iff.mp hx)
  have hP:PermN vs.length ((arrOf st').map λx=>idxV vs x.1):=by
   show((arrOf st').map λx=>idxV vs x.1).toList.Perm _
   rw[Array.toList_map]
   refine(hp.map _).trans ?_
   rw[List.map_map]
   have:vs.map ((λx:Keyed=>idxV vs x.1)∘λv=>(v,v))=List.range vs.length:=by
    refine List.ext_getElem? λi=>?_
    rw[ζp]
    rcases ζw i vs.length with h|h
    ·rw[ζd h,List.getElem?_range h]
     show some (idxV vs vs[i])=some i
     rw[zjD hn (ζd h)]
    ·rw[ζi h,ζi (by simpa using h)];rfl
   rw[this]
  refine⟨(arrOf st').map λx=>idxV vs x.1,hP,λi j hij hj=>?_,?_,hf⟩
  ·have hz:=hP.size
   rw[gd_get (by omega),gd_get (by omega)]
   have hz2:(arrOf st').size=vs.length:=by rw[←hz];simp
   have:=List.pairwise_iff_getElem.mp hw i j (by simpa[hz2] using(by omega:i<vs.length)) (by simpa[hz2] using hj) hij
   simpa using this
  ·refine Array.toList_inj.mp ?_
   rw[Array.toList_map,Array.toList_map,List.map_map]
   refine List.map_congr_left λx hx=>?_
   obtain⟨i,i1,i2,i3,i4,i5⟩:=memA x hx
   show x.2=vs.getD (idxV vs x.1) Value.none
   rw[i4,i5,i3]
end
end RS
namespace L2
open PySem PySem.W PySem.Spec PyProof.Rows
section
variable{prog:Program}{w:World}{A:Around}{E:Value->Shared->Prop}{s:Shared}
theorem zlb{a:Addr}{vs:List Value}{n:Nat}{R:PySem.Fin->Shared->Prop}{κ:SortKind}{lt:Nat->Nat->Bool}(ho:s.heap.get? a=some (seqObj "list" vs.toArray n))(hz:vs.length<=1000)(hn:vs.Nodup)(hs:RW.Strict vs.length lt)
 (hk:2<=vs.length->∀s1:Shared,Kp a s s1->(∀C:SortKind->Shared->Prop,C κ s1->wpAny (model prog w) A (keyKind' vs.toArray) C E s1)/\∀i j,i<vs.length->j<vs.length->∀C:Bool->Shared->Prop,C (lt i j) s1->wpAny (model prog w) A (keyLt' κ (vs.getD i Value.none) (vs.getD j Value.none)) C (λ_ _=>False) s1)
 (q:∀(out:List Value) (h':Heap) (c:Nat),(∃p:Array Nat,RW.PermN vs.length p/\RW.Sor lt p vs.length/\out=p.toList.map λi=>vs.getD i Value.none)->(∀b o,b≠a->s.heap.get? b=some o->h'.get? b=some o)->
   h'.get? a=some (seqObj "list" out.toArray c)->R (.done (.ret .none)) {s with heap:=h'}):wpAny (model prog w) A (Builtin.«list.sort» ⟨[.ref a],[]⟩) R E s:=by
 have la:a<s.heap.objs.size:=ζm ho
 have lz:vs.toArray.size=vs.length:=ζu ..
 have u1:=Heap.SameBut.update s.heap a (Obj.mapSeq λ_=>(#[]:Array Value))
 obtain⟨e1,g1⟩:∃e1,(s.heap.update a (Obj.mapSeq λ_=>(#[]:Array Value))).get? a=some (seqObj "list" #[] e1):=⟨_,get?_update_seq ho λ_=> #[]⟩
 rw[list_sort_plain]
 refine ζb (listItems_at ho rfl (ζb (listUpdate_at ho rfl (ζb (seqEpoch_at g1 rfl (ζb (wpAny_newTuple (ζb (wpAny_newList (ψd ?_) (ξi _))) (by show vs.length<=_;rw[sizeLine_eq];omega))))) (by rw[lz,sizeLine_eq];omega) (ξi _))))
 generalize hs1:({s with heap:=((s.heap.update a (Obj.mapSeq λ_=>(#[]:Array Value))).push (seqObj "tuple" vs.toArray 0)).push (seqObj "list" #[] 0)}:Shared)=s1
 have kp:∀b o,(s.heap.update a (Obj.mapSeq λ_=>(#[]:Array Value))).get? b=some o->s1.heap.get? b=some o:=λb o e=>by rw[←hs1];exact ζc _ (ζc _ e)
 have k1:Kp a s s1:=⟨by rw[←hs1],λb o nb e=>kp b o ((u1.2 b nb).trans e)⟩
 have g2:s1.heap.get? a=some (seqObj "list" #[] e1):=kp a _ g1
 dsimp only
 have fin:∀(st:SortSt) (out:List Value),(arrOf st).map (·.2)=out.toArray->failedOf st=none->out.length<=1000->(∃p:Array Nat,RW.PermN vs.length p/\RW.Sor lt p vs.length/\out=p.toList.map λi=>vs.getD i Value.none)->
  wpAny (model prog w) A (do
   let touched:=(←seqEpoch a) !=e1
   Builtin.List.listUpdate (.ref a) λ_=>(arrOf st).map (·.2)
   if let some e:=failedOf st then rule "list.sort.comparison-raised";throw e
   if touched then rule "list.sort.modified";raiseError "ValueError" "list modified during sort"
   ret .none) R E s1:=by
  intro st out ho hf hl hc
  rw[ho]
  have u2:=Heap.SameBut.update s1.heap a (Obj.mapSeq λ_=>out.toArray)
  obtain⟨c2,g3⟩:∃c2,(s1.heap.update a (Obj.mapSeq λ_=>out.toArray)).get? a=some (seqObj "list" out.toArray c2):=⟨_,get?_update_seq g2 λ_=>out.toArray⟩
  refine ζb (seqEpoch_at g2 rfl (ζb (listUpdate_at g2 rfl ?_ (ξi _) (by show out.toArray.size<=_;rw[ζu,sizeLine_eq];omega))))
  rw[hf]
  simp only[bne_self_eq_false,Bool.false_eq_true,if_false]
  have:=q out _ c2 hc (λb o nb e=>(u2.2 b nb).trans (k1.2 b o nb e)) g3
  rw[k1.1]
  exact ζr this
 by_cases h2:vs.toArray.size<2
 ·rw[if_pos h2,if_pos h2]
  refine ζb (ζr ?_)
  rw[StateT.run_pure]
  refine ζb (ζr ?_)
  have hr:vs=(List.range vs.length).map λi=>vs.getD i Value.none:=by
   refine List.ext_getElem? λi=>?_
   rw[ζp]
   rcases ζw i vs.length with h|h
   ·rw[List.getElem?_range h,ζd h];simp[h]
   ·rw[ζi h,ζi (by simpa using h)];rfl
  refine fin _ vs ?_ rfl hz ⟨(List.range vs.length).toArray,List.Perm.refl _,λi j hij hj=>by omega,hr⟩
  apply Array.toList_inj.mp
  show((vs.toArray.zip vs.toArray).map (·.2)).toList=_
  rw[Array.toList_map,Array.toList_zip]
  exact List.map_snd_zip (ζt _)
 ·rw[if_neg h2,if_neg h2]
  obtain⟨hkk,hw⟩:=hk (by omega) s1 k1
  refine ζb (hkk _ ?_)
  refine ζb (ψc (RS.big_run (E:=E) (Q:=λst' s'=>s'=s1/\∃p:Array Nat,RW.PermN vs.length p/\RW.Sor lt p vs.length/\(arrOf st').map (·.2)=List.toArray (p.toList.map λi=>vs.getD i Value.none)/\failedOf st'=none) hn hs hw (λst' p x1 x2 x3 x4=>⟨rfl,p,x1,x2,x3,x4⟩)) ?_ λ_ _ e=>e)
  rintro⟨⟨⟩,st'⟩ s' ⟨rfl,p,hp,hso,har,hf⟩
  refine fin st' (p.toList.map λi=>vs.getD i Value.none) har hf ?_ ⟨p,hp,hso,rfl⟩
  rw[ζa,ξq,hp.size];exact hz
end
end L2
namespace L2
open PySem PySem.Spec PySem.W PyProof.Rows
section
variable{prog:Program}{w:World}{A:Around}{E:Value->Shared->Prop}{s:Shared}
theorem zhZ{l:Addr}{T:String}{o:Obj}{n:Nat}{ks:List Value}{R:Value->Shared->Prop}{κ:SortKind}{lt:Nat->Nat->Bool}(hT:T="list"\/T="tuple")(ho:s.heap.get? l=some o)(hc:o.cls= .type T)(hd:o.data= .seq ks.toArray n)(h64:ks.length<=1000)(hnd:ks.Nodup)(hst:RW.Strict ks.length lt)
 (hk:2<=ks.length->∀s1:Shared,(∀b o,s.heap.get? b=some o->s1.heap.get? b=some o)->(∀C:SortKind->Shared->Prop,C κ s1->wpAny (model prog w) A.in1.in1 (keyKind' ks.toArray) C (λ_ _=>False) s1)/\∀i j,i<ks.length->j<ks.length->∀C:Bool->Shared->Prop,C (lt i j) s1->wpAny (model prog w) A.in1.in1 (keyLt' κ (ks.getD i Value.none) (ks.getD j Value.none)) C (λ_ _=>False) s1)
 (q:∀(D:Addr) (out:List Value) (h':Heap) (c:Nat),(∃p:Array Nat,RW.PermN ks.length p/\RW.Sor lt p ks.length/\out=p.toList.map λi=>ks.getD i Value.none)->(∀b o,s.heap.get? b=some o->h'.get? b=some o)->
   s.heap.objs.size<=D->h'.get? D=some (seqObj "list" out.toArray c)->R (.ref D) {s with heap:=h'}):wpAny (model prog w) A (call (.builtin "sorted") [.ref l]) R E s:=by
 refine Calls.call_function_entry kind_sorted plain_sorted entry_sorted (args_sorted1 _) ?_
 unfold Builtin.«sorted»
 refine ζb (m:=checkCount "sorted" 1 1 _) (ζr (ζb (zcX hT ho hc hd (by rw[sizeLine_eq];omega) λh1 kp gr0=>?_)))
 refine ζb (wpAny_newList ?_ (by rw[sizeLine_eq];omega))
 have hD:(h1.push (seqObj "list" ks.toArray 0)).get? h1.objs.size=some (seqObj "list" ks.toArray 0):=ζj _ rfl
 have k2:∀b o,s.heap.get? b=some o->(h1.push (seqObj "list" ks.toArray 0)).get? b=some o:=λb o e=>ζc _ (kp b o e)
 have gr:s.heap.objs.size<=h1.objs.size:=ξg gr0
 show wpAny _ _ _ _ _ {s with heap:=h1.push (seqObj "list" ks.toArray 0)}
 refine ζb (ψd (wpAny_call_entry slot_list_sort ⟨_,hD,rfl⟩ entry_list_sort (zlb (lt:=lt) (κ:=κ) (s:={s with heap:=h1.push (seqObj "list" ks.toArray 0)}) hD h64 hnd hst (λh2 s1 k1=>?_) λout h' c hc hkp hg=>?_) (args_list_sort _)))
 ·obtain ⟨x1,x2⟩:=hk h2 s1 λb o e=>k1.2 b o (ξj (ξf (ζm e) gr)) (k2 b o e)
  exact⟨λC hC=>ψc (x1 C hC) (λ_ _ z=>z) λ_ _ z=>z.elim,x2⟩
 ·exact ⟨_,rfl,ζr ⟨_,rfl,q h1.objs.size out h' c hc (λb o e=>hkp b o (ξj (ξf (ζm e) gr)) (k2 b o e)) gr hg⟩⟩
end
section
variable{X:Cx}{K:ξk}
def zoH(K:ξk):List V->Hp->VK->Prop:=λxs H Q=>∃(p:Addr) (vs:List V) (ps:List (List Str)),xs=[.ref p]/\(SqL K H p vs\/SqT K H p vs)/\zaq H vs ps/\(∀q∈ps,0<q.length)/\ps.Nodup/\ps.length<=900/\
 ∀(ps':List (List Str)) (vs':List V) l,ps'.Perm ps->ps'.Pairwise (λa b=>ltL a b=true)->zaq H vs' ps'->H l=none->Q (.ref l) (upd H l (.lst vs'))
theorem zge:CallR X (.builtin "sorted") (zoH X.K):=by
 intro pins s σ H xs us Q I r h
 obtain⟨p,vs,ps,rfl,hq,ht,hp0,hnd,h9,q⟩:=h
 obtain⟨u,rfl,ru⟩:=zbG r
 cases ru
 have key:∀{its:List Value} {T:String} {o:Obj} {n:Nat},T="list"\/T="tuple"->s.heap.get? p=some o->o.cls= .type T->o.data= .seq its.toArray n->Vals vs its->wpAny (model X.prog X.w) X.A (call (.builtin "sorted") [.ref p]) (EP X pins σ Q) X.xe s:=by
  intro its T o n hT ho hc hd rv
  have hl:=rv.length
  have hlp:its.length=ps.length:=by rw[←hl];exact ht.1
  have keyA:∀(i:Nat) (u:Value) (q:List Str),its[i]?=some u->ps[i]?=some q->∃b,u= .ref b/\H b=some (.tup (q.map V.str)):=λi u q e1 e2=>by
   have hi:i<vs.length:=by
    rcases ζw i vs.length with z|z
    ·exact z
    ·rw[ζi (by omega)] at e1;cases e1
   obtain⟨b,e3,hb⟩:=ht.2 i vs[i] q (by simp[hi]) e2
   obtain⟨u',hu',ru'⟩:=rv.get (i:=i) (x:=vs[i]) (by simp[hi])
   rw[e1] at hu'
   cases hu'
   rw[e3] at ru'
   cases ru'
   exact⟨b,rfl,hb⟩
  have keyT:∀(i:Nat) (u:Value) (q:List Str),its[i]?=some u->ps[i]?=some q->TupL s.heap u q:=λi u q e1 e2=>by
   obtain⟨b,rfl,hb⟩:=keyA i u q e1 e2
   obtain⟨_,jts,rj,⟨o',g',c',n',d'⟩,_⟩:=(show ObjOk X.prog X.w H s.heap b (.tup (q.map V.str))from I.hok b _ hb)
   exact⟨b,o',n',_,rfl,g',c',d',by simpa using rj⟩
  have ndI:its.Nodup:=by
   refine List.pairwise_iff_getElem.mpr λi j hi hj hij z=>?_
   obtain⟨b,e1,h1⟩:=keyA i its[i] ps[i] (ζd hi) (ζd (by omega))
   obtain⟨b',e2,h2⟩:=keyA j its[j] ps[j] (ζd hj) (ζd (by omega))
   rw[z,e2] at e1
   injection e1 with e1
   subst e1
   rw[h1] at h2
   injection h2 with h2
   injection h2 with h2
   have h3:ps[i]=ps[j]:=List.map_inj_right (λa b e=>by injection e)|>.mp h2
   exact absurd ((List.getElem_inj hnd).mp h3) (by omega)
  refine zhZ (A:=X.A) (lt:=λi j=>ltL (lAt ps i) (lAt ps j)) (κ:=tuples' true) hT ho hc hd (by omega) ndI (by rw[hlp];exact zeS hnd) (λh2 s1 k1=>?_) (λD out h' c ho' kp hD gD=>?_)
  ·have keyT1:∀(i:Nat) (u:Value) (q:List Str),its[i]?=some u->ps[i]?=some q->TupL s1.heap u q:=λi u p e1 e2=>(keyT i u p e1 e2).keeps k1
   obtain⟨fs,ft,fl,fa⟩:=zfL hlp hp0 keyT1
   refine⟨λC hC=>kat_kind (T:= .type "str") ft (by omega) (λf hf=>?_) rfl hC,λi j hi hj C hC=>?_⟩
   ·obtain ⟨x,t,rfl⟩:=fa f hf
    exact Looks.of_pure rfl
   ·have gi:∀i,i<ps.length->TupL s1.heap (its.getD i Value.none) (lAt ps i):=λi hi=>by
     have hi':i<its.length:=by omega
     refine keyT1 i _ _ ?_ ?_
     ·simp[hi']
     ·unfold lAt;simp[hi]
    exact zik (gi i (by omega)) (gi j (by omega)) hC
  ·have nD:H D=none:=I.hok.fresh hD
   obtain⟨ps',hperm,hpw,hlen,hout⟩:∃ps':List (List Str),ps'.Perm ps/\ps'.Pairwise (λa b=>ltL a b=true)/\out.length=ps'.length/\∀(i:Nat) (u:Value) (q:List Str),out[i]?=some u->ps'[i]?=some q->∃b,u= .ref b/\H b=some (.tup (q.map V.str)):=by
    obtain⟨p,hP,hS,rfl⟩:=ho'
    rw[hlp] at hP hS
    refine⟨p.toList.map (lAt ps),?_,?_,by simp,λi u q e1 e2=>?_⟩
    ·have h1:=hP.map (lAt ps)
     rwa[zj4] at h1
    ·have hz:=hP.size
     rw[List.pairwise_iff_getElem]
     intro i j hi hj hij
     have hi':i<p.size:=by simpa using hi
     have hj':j<p.size:=by simpa using hj
     have h:=hS i j hij (by omega)
     rw[RW.gd_get hi',RW.gd_get hj'] at h
     simpa using h
    ·rw[ζp] at e1 e2
     cases e3:p.toList[i]? with
     |none=>rw[e3] at e1;cases e1
     |some j=>
      rw[e3] at e1 e2
      have hj:j<ps.length:=by
       have:j∈p.toList:=ζk e3
       have:=(hP.mem_iff (a:=j)).mp this
       simpa using this
      have hj':j<its.length:=by omega
      refine keyA j u q ?_ ?_
      ·rw[←e1];simp[hj']
      ·rw[←e2];unfold lAt;simp[hj]
   let vs':List V:=out.map λu=>match u with| .ref b=>V.ref b|_=>V.non
   have hv:∀(i:Nat) (q:List Str),ps'[i]?=some q->∃b,out[i]?=some (.ref b)/\vs'[i]?=some (.ref b)/\H b=some (.tup (q.map V.str)):=λi q e=>by
    have hi:i<out.length:=by
     rcases ζw i ps'.length with z|z
     ·omega
     ·rw[ζi z] at e;cases e
    obtain⟨b,e1,hb⟩:=hout i out[i] q (by simp[hi]) e
    exact⟨b,by rw[ζd hi,e1],by show(out.map _)[i]?=_;rw[ζp,ζd hi,e1];rfl,hb⟩
   have hlv:vs'.length=out.length:=by show(out.map _).length=_;rw[ζa]
   have hpl:ps'.length<901:=by rw[hperm.length_eq];omega
   have T':zaq H vs' ps':=⟨by omega,λi v q e1 e2=>by
    obtain⟨b,_,e3,hb⟩:=hv i q e2
    rw[e1] at e3;cases e3
    exact⟨b,rfl,hb⟩⟩
   refine⟨.ref D,_,I.laid (a:=D) (o:= .lst vs') (t':=s.toks) kp hD ⟨?_,out,c,?_,gD⟩,rfl,q ps' vs' D hperm hpw T' nD⟩
   ·rw[hlv,hlen];exact ξg (zj (by omega))
   ·refine zfB hlv λi v u e1 e2=>?_
    have hi:i<ps'.length:=by
     rcases ζw i ps'.length with z|z
     ·exact z
     ·rw[ζi (by omega)] at e2;cases e2
    obtain⟨b,e3,e4,_⟩:=hv i ps'[i] (by simp[hi])
    rw[e3] at e2;cases e2
    rw[e4] at e1;cases e1
    rfl
 rcases hq with hq|hq
 ·obtain ⟨its,rv,pl,hz⟩:=I.list hq
  obtain⟨o,ho,hc,n,hd⟩:=pl.isList
  exact key (.inl rfl) ho hc hd rv
 ·obtain ⟨its,rv,pl,hz⟩:=I.tuple hq
  obtain⟨o,ho,hc,n,hd⟩:=pl
  exact key (.inr rfl) ho hc hd rv
end
end L2
namespace RW
open PySem PySem.Spec PyProof.Rows L2
section
variable{g:Str}{hs:List Str}{ps:List (Str×Str)}{lks hds:List D}
noncomputable def zcS(hs:List Str)(ps:List (Str×Str)):List (Str×Str):=hs.flatMap λx=>(due hs ps x).map λy=>(x,y)
theorem zgQ{x y:Str}(T:TownOk g hs ps lks hds):y∈due hs ps x↔(x,y)∈ps\/(y,x)∈ps:=by
 unfold due
 rw[List.mem_filter,Bool.or_eq_true,ζg,ζg]
 exact⟨λh=>h.2,λh=>⟨h.elim (λz=>(T.ties _ z).2.1) (λz=>(T.ties _ z).1),h⟩⟩
theorem zfA(T:TownOk g hs ps lks hds){q:Str×Str}:q∈zcS hs ps↔q∈ps\/(q.2,q.1)∈ps:=by
 unfold zcS
 rw[List.mem_flatMap]
 constructor
 ·rintro ⟨x,hx,h⟩
  obtain⟨y,hy,rfl⟩:=List.mem_map.mp h
  exact(zgQ T).mp hy
 ·intro h
  refine⟨q.1,h.elim (λz=>(T.ties _ z).1) (λz=>(T.ties _ z).2.1),List.mem_map.mpr ⟨q.2,(zgQ T).mpr h,rfl⟩⟩
theorem zpo{x a b:Str}(h:ltS a b=true):ltP (x,a) (x,b)=true:=by unfold ltP;rw[if_pos rfl,if_neg (λz=>by rw[show a=b from z,zcd] at h;cases h)];exact h
theorem zph{x y a b:Str}(h:ltS x y=true):ltP (x,a) (y,b)=true:=by
 unfold ltP
 rw[if_neg (λz=>by rw[show x=y from z,zcd] at h;cases h)];exact h
theorem zjy(T:TownOk g hs ps lks hds):(zcS hs ps).Pairwise (λa b=>ltP a b=true):=by
 unfold zcS
 refine List.pairwise_flatMap.mpr ⟨λx hx=>?_,T.rise.imp λh p hp q hq=>?_⟩
 ·exact List.pairwise_map.mpr ((T.rise.filter _).imp λh=>zpo h)
 ·obtain ⟨y,hy,rfl⟩:=List.mem_map.mp hp
  obtain⟨z,hz,rfl⟩:=List.mem_map.mp hq
  exact zph h
theorem zqr{qs:List (Str×Str)}(h:qs.Pairwise (λa b=>ltP a b=true)):qs.Nodup:=h.imp λh z=>by rw[z,zcx] at h;cases h
theorem zgH:∀{as bs:List (Str×Str)},as.Pairwise (λa b=>ltP a b=true)->bs.Pairwise (λa b=>ltP a b=true)->(∀x,x∈as↔x∈bs)->as=bs
 |[],[],_,_,_=>rfl
 |[],b::bs,_,_,h=>absurd ((h b).mpr ζo) (by simp)
 |a::as,[],_,_,h=>absurd ((h a).mp ζo) (by simp)
 |a::as,b::bs,p1,p2,h=>by
  obtain⟨a1,a2⟩:=List.pairwise_cons.mp p1
  obtain⟨b1,b2⟩:=List.pairwise_cons.mp p2
  have e:a=b:=by
   rcases List.mem_cons.mp ((h a).mp ζo)with e|e
   ·exact e
   ·rcases List.mem_cons.mp ((h b).mpr ζo)with e'|e'
    ·exact e'.symm
    ·have h1:=b1 a e;have h2:=a1 b e';rw[znP h1] at h2;cases h2
  subst e
  congr 1
  refine zgH a2 b2 λx=>⟨λhx=>?_,λhx=>?_⟩
  ·rcases List.mem_cons.mp ((h x).mp (ξc _ hx))with e|e
   ·have h1:=a1 x hx;rw[e,zcx] at h1;cases h1
   ·exact e
  ·rcases List.mem_cons.mp ((h x).mpr (ξc _ hx))with e|e
   ·have h1:=b1 x hx;rw[e,zcx] at h1;cases h1
   ·exact e
theorem zof(T:TownOk g hs ps lks hds){qs:List (Str×Str)}(hp:qs.Perm (ps ++ps.map λp=>(p.2,p.1)))(pw:qs.Pairwise (λa b=>ltP a b=true)):qs=zcS hs ps:=by
 refine zgH pw (zjy T) λx=>?_
 rw[zfA T,hp.mem_iff,List.mem_append,List.mem_map]
 constructor
 ·rintro (h|⟨p,hp,rfl⟩)
  ·exact .inl h
  ·exact .inr hp
 ·rintro (h|h)
  ·exact .inl h
  ·exact .inr ⟨_,h,rfl⟩
theorem zhb(T:TownOk g hs ps lks hds){x:Str}(hx:x∈hs):(due hs ps x).length<=9:=by
 have nx:x∉due hs ps x:=λh=>by
  rcases(zgQ T).mp h with z|z<;>(have:=(T.ties _ z).2.2;rw[zcd] at this;cases this)
 have:=zbT (l:=x::due hs ps x) (m:=hs) (List.nodup_cons.mpr ⟨nx,T.hs_nd.filter _⟩) λy hy=>by
  rcases List.mem_cons.mp hy with rfl|hy
  ·exact hx
  ·exact (List.mem_filter.mp hy).1
 have:=T.ten
 simp at *;omega
theorem ziG{f:Str->List (Str×Str)}{c:Nat}:∀{xs:List Str},(∀x∈xs,(f x).length<=c)->(xs.flatMap f).length<=xs.length*c
 |[],_=>ξi _
 |x::xs,h=>by
  rw[List.flatMap_cons,ζe,ζv,Nat.add_mul,Nat.one_mul]
  have h1:=h x ζo
  have h2:=ziG (f:=f) (c:=c) (xs:=xs) λy hy=>h y (ξc _ hy)
  omega
theorem ziz(T:TownOk g hs ps lks hds):(zcS hs ps).length<=90:=by
 have h1:(zcS hs ps).length<=hs.length*9:=ziG λx hx=>by rw[ζa];exact zhb T hx
 have:=T.ten
 omega
noncomputable def za0(g:Str)(hs:List Str)(hds:List D)(q:Str×Str):zaH:=(q.1,q.2,none,if q.1=g then(match zcU hs hds (some ([g],[])) q.2 with|none=> []|some w=> [some w])else [])
noncomputable def zcn(g:Str)(hs:List Str)(ps:List (Str×Str))(hds:List D):List zaH:=(zcS hs ps).map (za0 g hs hds)
theorem zjM{to:Str}{w:List Str}(h:zcU hs hds (some ([g],[])) to=some w):w=[g]:=by
 unfold zcU at h
 dsimp only at h
 split at h
 ·cases h
 ·exact (ξh h).symm
theorem zoN{q:Str×Str}:∀x∈(za0 g hs hds q).2.2.2,x=some [q.1]:=by
 intro x hx
 unfold za0 at hx
 dsimp only at hx
 by_cases c:q.1=g
 ·rw[if_pos c] at hx
  cases ho:zcU hs hds (some ([g],[])) q.2 with
  |none=>rw[ho] at hx;cases hx
  |some w=>
   rw[ho] at hx
   rw[List.mem_singleton.mp hx,zjM ho,c]
 ·rw[if_neg c] at hx;cases hx
theorem zhq{q:Str×Str}:(za0 g hs hds q).2.2.2.length<=1:=by
 unfold za0
 dsimp only
 split
 ·split<;>simp
 ·simp
theorem zhi(T:TownOk g hs ps lks hds):StOk hs (zcn g hs ps hds):=by
 refine⟨λr hr=>?_,?_,by unfold zcn;rw[ζa];exact ziz T⟩
 ·obtain ⟨q,hq,rfl⟩:=List.mem_map.mp hr
  have hq':=(zfA T).mp hq
  have ha:q.1∈hs:=hq'.elim (λz=>(T.ties _ z).1) (λz=>(T.ties _ z).2.1)
  have hb:q.2∈hs:=hq'.elim (λz=>(T.ties _ z).2.1) (λz=>(T.ties _ z).1)
  refine⟨ha,hb,trivial,λx hx=>?_,ξa zhq (by decide)⟩
  rw[zoN x hx]
  exact⟨⟨[],rfl⟩,λz hz=>by rw[List.mem_singleton.mp hz];exact ha,by simp⟩
 ·unfold zcn
  rw[List.map_map]
  have:(zcS hs ps).map ((λr:zaH=>(r.1,r.2.1))∘za0 g hs hds)=zcS hs ps:=(List.map_congr_left λq _=>rfl).trans (List.map_id _)
  rw[this];exact zqr (zjy T)
theorem zk0{x:Str}:(zd8 g hs lks hds x (zcn g hs ps hds)).map (·.1)=if x=g then some [g] else none:=by
 unfold zd8
 by_cases c:x=g
 ·rw[if_pos c,if_pos c,c];rfl
 ·rw[if_neg c,if_neg c]
  have:za1 hs lks hds x (zcn g hs ps hds)=[]:=by
   unfold za1 zcn
   rw[List.filterMap_map]
   refine List.filterMap_eq_nil_iff.mpr λq _=>?_
   show zeQ hs lks hds x (za0 g hs hds q)=none
   unfold zeQ za0
   dsimp only
   split<;>rfl
  rw[this];rfl
end
end RW
namespace K52
open PySem PySem.Spec PyProof.Rows L2
noncomputable def top(i:Nat):Stmt:=PySem.Challenge.pw_restways_k52_first_states.main.body.getD i (.Pass ⟨0,0,0,0⟩)
noncomputable abbrev zdt:Stmt:=top 1
noncomputable abbrev zn2:List Str:=["cond","way","marks","to","word","about"]
noncomputable abbrev zbQ:List Str:=["cond","way","marks","to"]
theorem c_holds:FnScope zn2 zbQ (zc zdt):=⟨rfl,rfl,rfl,by decide +kernel,rfl,by decide +kernel,by decide +kernel⟩
noncomputable abbrev zbn:Stmt:=top 2
noncomputable abbrev zjx:List Str:=["conds","way","marks","to","cond"]
noncomputable abbrev zaY:List Str:=["conds","way","marks","to"]
theorem c_all_hold:FnScope zjx zaY (zc zbn):=⟨rfl,rfl,rfl,by decide +kernel,rfl,by decide +kernel,by decide +kernel⟩
noncomputable abbrev zaL:Stmt:=top 4
noncomputable abbrev zhm:List Str:=["town","house"]
noncomputable abbrev zbc:List Str:=["town","house"]
theorem zgV:FnScope zhm zbc (zc zaL):=⟨rfl,rfl,rfl,by decide +kernel,rfl,by decide +kernel,by decide +kernel⟩
noncomputable abbrev zbl:Stmt:=top 5
noncomputable abbrev zjd:List Str:=["town","house"]
noncomputable abbrev zbW:List Str:=["town","house"]
theorem zjg:FnScope zjd zbW (zc zbl):=⟨rfl,rfl,rfl,by decide +kernel,rfl,by decide +kernel,by decide +kernel⟩
noncomputable abbrev zda:Stmt:=top 6
noncomputable abbrev ziM:List Str:=["town","house","ties"]
noncomputable abbrev zfz:List Str:=["town","house"]
theorem c_tied:FnScope ziM zfz (zc zda):=⟨rfl,rfl,rfl,by decide +kernel,rfl,by decide +kernel,by decide +kernel⟩
noncomputable def zmx:Scope:={kind:= .function,names:=[(".0", .local),("a", .local),("b", .local),("house", .free)],isGenerator:=false,isCoroutine:=false,more:=[]}
theorem o_tied_1:CompOk ziM (zc zda) ["a","b","house"] [none,none,some 1] zmx:=⟨rfl,by decide +kernel,by decide +kernel,by decide +kernel,by decide +kernel,rfl,by decide +kernel⟩
noncomputable def zm9:Scope:={kind:= .function,names:=[(".0", .local),("a", .local),("b", .local),("house", .free)],isGenerator:=false,isCoroutine:=false,more:=[]}
theorem o_tied_2:CompOk ziM (zc zda) ["a","b","house"] [none,none,some 1] zm9:=⟨rfl,by decide +kernel,by decide +kernel,by decide +kernel,by decide +kernel,rfl,by decide +kernel⟩
noncomputable abbrev zad:Stmt:=top 8
noncomputable abbrev zc8:List Str:=["marks","act","word","mark","others"]
noncomputable abbrev zaG:List Str:=["marks","act"]
theorem c_marks_behind:FnScope zc8 zaG (zc zad):=⟨rfl,rfl,rfl,by decide +kernel,rfl,by decide +kernel,by decide +kernel⟩
noncomputable def zer:Scope:={kind:= .function,names:=[(".0", .local),("one", .local),("mark", .free)],isGenerator:=false,isCoroutine:=false,more:=[]}
theorem o_marks_behind_1:CompOk zc8 (zc zad) ["one","mark"] [none,some 3] zer:=⟨rfl,by decide +kernel,by decide +kernel,by decide +kernel,by decide +kernel,rfl,by decide +kernel⟩
noncomputable abbrev zcj:Stmt:=top 9
noncomputable abbrev zmu:List Str:=["town","way","marks","to","told","conds","act"]
noncomputable abbrev zb1:List Str:=["town","way","marks","to"]
theorem c_handed:FnScope zmu zb1 (zc zcj):=⟨rfl,rfl,rfl,by decide +kernel,rfl,by decide +kernel,by decide +kernel⟩
noncomputable abbrev zdk:Stmt:=top 11
noncomputable abbrev zoY:List Str:=["town","way","marks","conds","told"]
noncomputable abbrev zdj:List Str:=["town","way","marks"]
theorem c_worth:FnScope zoY zdj (zc zdk):=⟨rfl,rfl,rfl,by decide +kernel,rfl,by decide +kernel,by decide +kernel⟩
noncomputable abbrev zaS:Stmt:=top 12
noncomputable abbrev zho:List Str:=["town","way","marks"]
noncomputable abbrev zbg:List Str:=["town","way","marks"]
theorem zhn:FnScope zho zbg (zc zaS):=⟨rfl,rfl,rfl,by decide +kernel,rfl,by decide +kernel,by decide +kernel⟩
noncomputable abbrev zaz:Stmt:=top 14
noncomputable abbrev zgc:List Str:=["town","way","marks","house","told"]
noncomputable abbrev zaX:List Str:=["town","way","marks","house"]
theorem c_marks_ahead:FnScope zgc zaX (zc zaz):=⟨rfl,rfl,rfl,by decide +kernel,rfl,by decide +kernel,by decide +kernel⟩
noncomputable abbrev zbv:Stmt:=top 15
noncomputable abbrev ziS:List Str:=["town","way","told","at"]
noncomputable abbrev zbt:List Str:=["town","way"]
theorem c_marks_of:FnScope ziS zbt (zc zbv):=⟨rfl,rfl,rfl,by decide +kernel,rfl,by decide +kernel,by decide +kernel⟩
noncomputable abbrev zU:Stmt:=zfb (top 17) 0
noncomputable abbrev zdF:List Str:=["self","town"]
noncomputable abbrev zR:List Str:=["self","town"]
theorem zdI:FnScope zdF zR (zc zU):=⟨rfl,rfl,rfl,by decide +kernel,rfl,by decide +kernel,by decide +kernel⟩
noncomputable abbrev z9:Stmt:=zfb (top 17) 1
noncomputable abbrev zeq:List Str:=["self","way","marks"]
noncomputable abbrev zap:List Str:=["self","way"]
theorem c_Likings_key_of:FnScope zeq zap (zc z9):=⟨rfl,rfl,rfl,by decide +kernel,rfl,by decide +kernel,by decide +kernel⟩
noncomputable abbrev zM:Stmt:=zfb (top 17) 2
noncomputable abbrev zbs:List Str:=["self","house","ways","keys","open_to"]
noncomputable abbrev zam:List Str:=["self","house","ways"]
theorem c_Likings_way_by:FnScope zbs zam (zc zM):=⟨rfl,rfl,rfl,by decide +kernel,rfl,by decide +kernel,by decide +kernel⟩
noncomputable def zdL:Scope:={kind:= .function,names:=[(".0", .local),("way", .local),("house", .free),("self", .free)],isGenerator:=false,isCoroutine:=false,more:=[]}
theorem o_Likings_way_by_1:CompOk zbs (zc zM) ["way","house","self"] [none,some 1,some 0] zdL:=⟨rfl,by decide +kernel,by decide +kernel,by decide +kernel,by decide +kernel,rfl,by decide +kernel⟩
noncomputable def zdE:Scope:={kind:= .function,names:=[(".0", .local),("key", .local)],isGenerator:=false,isCoroutine:=false,more:=[]}
theorem o_Likings_way_by_2:CompOk zbs (zc zM) ["key"] [none] zdE:=⟨rfl,by decide +kernel,by decide +kernel,by decide +kernel,by decide +kernel,rfl,by decide +kernel⟩
noncomputable abbrev zV:Stmt:=zfb (top 17) 3
noncomputable abbrev zdJ:List Str:=["self","way","to","told"]
noncomputable abbrev zac:List Str:=["self","way","to"]
theorem c_Likings_offer_of:FnScope zdJ zac (zc zV):=⟨rfl,rfl,rfl,by decide +kernel,rfl,by decide +kernel,by decide +kernel⟩
noncomputable abbrev zdh:Stmt:=top 18
noncomputable abbrev zoQ:List Str:=["town","likings","rows","house","other","offer"]
noncomputable abbrev zd2:List Str:=["town"]
theorem c_begun:FnScope zoQ zd2 (zc zdh):=⟨rfl,rfl,rfl,by decide +kernel,rfl,by decide +kernel,by decide +kernel⟩
noncomputable abbrev zbk:Stmt:=top 19
noncomputable abbrev zgi:List Str:=["state"]
noncomputable abbrev zch:List Str:=["state"]
theorem zlx:FnScope zgi zch (zc zbk):=⟨rfl,rfl,rfl,by decide +kernel,rfl,by decide +kernel,by decide +kernel⟩
noncomputable def zit:Scope:={kind:= .function,names:=[(".0", .local),("one", .local),("to", .local),("last", .local),("waits", .local),("k", .local),("range", .globalImplicit),("len", .globalImplicit)],isGenerator:=false,isCoroutine:=false,more:=[]}
theorem o_comings_1:CompOk zgi (zc zbk) ["one","to","last","waits","k"] [none,none,none,none,none] zit:=⟨rfl,by decide +kernel,by decide +kernel,by decide +kernel,by decide +kernel,rfl,by decide +kernel⟩
noncomputable abbrev zaw:Stmt:=top 20
noncomputable abbrev zd4:List Str:=["state","house"]
noncomputable abbrev zbh:List Str:=["state","house"]
theorem zha:FnScope zd4 zbh (zc zaw):=⟨rfl,rfl,rfl,by decide +kernel,rfl,by decide +kernel,by decide +kernel⟩
noncomputable def zft:Scope:={kind:= .function,names:=[(".0", .local),("one", .local),("to", .local),("last", .local),("waits", .local),("house", .free)],isGenerator:=false,isCoroutine:=false,more:=[]}
theorem o_ways_heard_1:CompOk zd4 (zc zaw) ["one","to","last","waits","house"] [none,none,none,none,some 1] zft:=⟨rfl,by decide +kernel,by decide +kernel,by decide +kernel,by decide +kernel,rfl,by decide +kernel⟩
noncomputable abbrev zaK:Stmt:=top 21
noncomputable abbrev zeZ:List Str:=["town","state","likings"]
noncomputable abbrev zbJ:List Str:=["town","state"]
theorem c_choice_of:FnScope zeZ zbJ (zc zaK):=⟨rfl,rfl,rfl,by decide +kernel,rfl,by decide +kernel,by decide +kernel⟩
noncomputable def zgf:Scope:={kind:= .function,names:=[(".0", .local),("house", .local),("ways_heard", .globalImplicit),("likings", .free),("state", .free)],isGenerator:=false,isCoroutine:=false,more:=[]}
theorem o_choice_of_1:CompOk zeZ (zc zaK) ["house","likings","state"] [none,some 2,some 1] zgf:=⟨rfl,by decide +kernel,by decide +kernel,by decide +kernel,by decide +kernel,rfl,by decide +kernel⟩
noncomputable abbrev za6:Stmt:=top 23
noncomputable abbrev zhV:List Str:=["_law_script","_law_k","_law_cell"]
noncomputable abbrev zbz:List Str:=["_law_script","_law_k"]
theorem c__law_hand:FnScope zhV zbz (zc za6):=⟨rfl,rfl,rfl,by decide +kernel,rfl,by decide +kernel,by decide +kernel⟩
noncomputable abbrev za3:Stmt:=top 24
noncomputable abbrev ziw:List Str:=["_law_hand_here","_law_many","_law_digit","_law_turn","_law_mixed","_law_rest_of"]
noncomputable abbrev z6:List Str:=["_law_hand_here","_law_many"]
theorem c__law_take:FnScope ziw z6 (zc za3):=⟨rfl,rfl,rfl,by decide +kernel,rfl,by decide +kernel,by decide +kernel⟩
noncomputable abbrev za5:Stmt:=top 25
noncomputable abbrev zhK:List Str:=["_law_hand_here","_law_some"]
noncomputable abbrev z8:List Str:=["_law_hand_here","_law_some"]
theorem zh2:FnScope zhK z8 (zc za5):=⟨rfl,rfl,rfl,by decide +kernel,rfl,by decide +kernel,by decide +kernel⟩
noncomputable abbrev zau:Stmt:=top 26
noncomputable abbrev zd9:List Str:=["_law_hand_here","_law_many","_law_letters","_law_first","_law_step","_law_names_here","_law_kept","_law_spot","_law_k"]
noncomputable abbrev zba:List Str:=["_law_hand_here","_law_many"]
theorem c__law_names:FnScope zd9 zba (zc zau):=⟨rfl,rfl,rfl,by decide +kernel,rfl,by decide +kernel,by decide +kernel⟩
noncomputable def zfw:Scope:={kind:= .function,names:=[(".0", .local),("_law_k", .local),("_law_first", .free),("_law_letters", .free),("_law_step", .free)],isGenerator:=false,isCoroutine:=false,more:=[]}
theorem o__law_names_1:CompOk zd9 (zc zau) ["_law_k","_law_first","_law_letters","_law_step"] [none,some 3,some 2,some 4] zfw:=⟨rfl,by decide +kernel,by decide +kernel,by decide +kernel,by decide +kernel,rfl,by decide +kernel⟩
noncomputable abbrev za4:Stmt:=top 27
noncomputable abbrev zh9:List Str:=["_law_hand_here","_law_houses","_law_marks","_law_to","_law_way","_law_cond_here"]
noncomputable abbrev zbF:List Str:=["_law_hand_here","_law_houses","_law_marks","_law_to"]
theorem c__law_cond:FnScope zh9 zbF (zc za4):=⟨rfl,rfl,rfl,by decide +kernel,rfl,by decide +kernel,by decide +kernel⟩
noncomputable abbrev zat:Stmt:=top 28
noncomputable abbrev zee:List Str:=["_law_hand_here","_law_houses","_law_marks","_law_to","_law_many"]
noncomputable abbrev zaN:List Str:=["_law_hand_here","_law_houses","_law_marks","_law_to"]
theorem c__law_conds:FnScope zee zaN (zc zat):=⟨rfl,rfl,rfl,by decide +kernel,rfl,by decide +kernel,by decide +kernel⟩
noncomputable def zfn:Scope:={kind:= .function,names:=[(".0", .local),("_law_k", .local),("_law_cond", .globalImplicit),("_law_hand_here", .free),("_law_houses", .free),("_law_marks", .free),("_law_to", .free)],isGenerator:=false,isCoroutine:=false,more:=[]}
theorem o__law_conds_1:CompOk zee (zc zat) ["_law_k","_law_hand_here","_law_houses","_law_marks","_law_to"] [none,some 0,some 1,some 2,some 3] zfn:=⟨rfl,by decide +kernel,by decide +kernel,by decide +kernel,by decide +kernel,rfl,by decide +kernel⟩
noncomputable abbrev zao:Stmt:=top 29
noncomputable abbrev zfo:List Str:=["_law_hand_here","_law_houses","_law_marks","_law_other","_law_some","_law_k","_law_number"]
noncomputable abbrev zaE:List Str:=["_law_hand_here","_law_houses","_law_marks","_law_other"]
theorem c__law_likings:FnScope zfo zaE (zc zao):=⟨rfl,rfl,rfl,by decide +kernel,rfl,by decide +kernel,by decide +kernel⟩
noncomputable abbrev zaQ:Stmt:=top 30
noncomputable abbrev zg2:List Str:=["_law_hand_here","_law_houses","_law_marks","_law_goal","_law_some","_law_k","_law_act"]
noncomputable abbrev za9:List Str:=["_law_hand_here","_law_houses","_law_marks","_law_goal"]
theorem c__law_hands:FnScope zg2 za9 (zc zaQ):=⟨rfl,rfl,rfl,by decide +kernel,rfl,by decide +kernel,by decide +kernel⟩
noncomputable abbrev zas:Stmt:=top 31
noncomputable abbrev zdd:List Str:=["_law_hand_here","_law_sizes","_law_many","_law_names_here","_law_houses","_law_marks","_law_rising","_law_ties","_law_k","_law_likings_here","_law_hands_here","_law_house","_law_others"]
noncomputable abbrev zbE:List Str:=["_law_hand_here","_law_sizes"]
theorem c__law_town:FnScope zdd zbE (zc zas):=⟨rfl,rfl,rfl,by decide +kernel,rfl,by decide +kernel,by decide +kernel⟩
noncomputable def zf8:Scope:={kind:= .function,names:=[(".0", .local),("_law_j", .local),("_law_take", .globalImplicit),("_law_hand_here", .free),("_law_k", .free),("_law_rising", .free)],isGenerator:=false,isCoroutine:=false,more:=[]}
theorem o__law_town_1:CompOk zdd (zc zas) ["_law_j","_law_hand_here","_law_k","_law_rising"] [none,some 0,some 8,some 6] zf8:=⟨rfl,by decide +kernel,by decide +kernel,by decide +kernel,by decide +kernel,rfl,by decide +kernel⟩
noncomputable def zgg:Scope:={kind:= .function,names:=[(".0", .local),("_law_one", .local),("_law_house", .free),("_law_houses", .free)],isGenerator:=false,isCoroutine:=false,more:=[]}
theorem o__law_town_2:CompOk zdd (zc zas) ["_law_one","_law_house","_law_houses"] [none,some 11,some 4] zgg:=⟨rfl,by decide +kernel,by decide +kernel,by decide +kernel,by decide +kernel,rfl,by decide +kernel⟩
noncomputable abbrev zaM:Stmt:=top 32
noncomputable abbrev zhr:List Str:=["_law_cond_here","_law_way","_law_marks","_law_to"]
noncomputable abbrev zag:List Str:=["_law_cond_here","_law_way","_law_marks","_law_to"]
theorem zej:FnScope zhr zag (zc zaM):=⟨rfl,rfl,rfl,by decide +kernel,rfl,by decide +kernel,by decide +kernel⟩
noncomputable abbrev z7:Stmt:=top 33
noncomputable abbrev zcg:List Str:=["_law_town_here","_law_way","_law_marks","_law_to","_law_conds_here","_law_act"]
noncomputable abbrev zaW:List Str:=["_law_town_here","_law_way","_law_marks","_law_to"]
theorem c__law_handed:FnScope zcg zaW (zc z7):=⟨rfl,rfl,rfl,by decide +kernel,rfl,by decide +kernel,by decide +kernel⟩
noncomputable def ze1:Scope:={kind:= .function,names:=[(".0", .local),("_law_cond_here", .local),("_law_holds", .globalImplicit),("_law_marks", .free),("_law_to", .free),("_law_way", .free)],isGenerator:=false,isCoroutine:=false,more:=[]}
theorem o__law_handed_1:CompOk zcg (zc z7) ["_law_cond_here","_law_marks","_law_to","_law_way"] [none,some 2,some 3,some 1] ze1:=⟨rfl,by decide +kernel,by decide +kernel,by decide +kernel,by decide +kernel,rfl,by decide +kernel⟩
noncomputable def ze0:Scope:={kind:= .function,names:=[(".0", .local),("_law_mark", .local),("_law_act", .free)],isGenerator:=false,isCoroutine:=false,more:=[]}
theorem o__law_handed_2:CompOk zcg (zc z7) ["_law_mark","_law_act"] [none,some 5] ze0:=⟨rfl,by decide +kernel,by decide +kernel,by decide +kernel,by decide +kernel,rfl,by decide +kernel⟩
noncomputable abbrev zav:Stmt:=top 34
noncomputable abbrev zed:List Str:=["_law_town_here"]
noncomputable abbrev za8:List Str:=["_law_town_here"]
theorem zgT:FnScope zed za8 (zc zav):=⟨rfl,rfl,rfl,by decide +kernel,rfl,by decide +kernel,by decide +kernel⟩
noncomputable def zfS:Scope:={kind:= .function,names:=[(".0", .local),("_law_a", .local),("_law_b", .local)],isGenerator:=false,isCoroutine:=false,more:=[]}
theorem o__law_pairs_1:CompOk zed (zc zav) ["_law_a","_law_b"] [none,none] zfS:=⟨rfl,by decide +kernel,by decide +kernel,by decide +kernel,by decide +kernel,rfl,by decide +kernel⟩
noncomputable abbrev zaO:Stmt:=top 35
noncomputable abbrev zhu:List Str:=["_law_town_here","_law_rows","_law_a","_law_b","_law_told"]
noncomputable abbrev zbb:List Str:=["_law_town_here"]
theorem c__law_begun:FnScope zhu zbb (zc zaO):=⟨rfl,rfl,rfl,by decide +kernel,rfl,by decide +kernel,by decide +kernel⟩
noncomputable abbrev zaa:Stmt:=top 36
noncomputable abbrev zc7:List Str:=["_law_state","_law_found","_law_a","_law_b","_law_heard","_law_waits"]
noncomputable abbrev zaJ:List Str:=["_law_state"]
theorem c__law_comings:FnScope zc7 zaJ (zc zaa):=⟨rfl,rfl,rfl,by decide +kernel,rfl,by decide +kernel,by decide +kernel⟩
noncomputable def zeK:Scope:={kind:= .function,names:=[(".0", .local),("_law_k", .local),("_law_a", .free),("_law_b", .free)],isGenerator:=false,isCoroutine:=false,more:=[]}
theorem o__law_comings_1:CompOk zc7 (zc zaa) ["_law_k","_law_a","_law_b"] [none,some 2,some 3] zeK:=⟨rfl,by decide +kernel,by decide +kernel,by decide +kernel,by decide +kernel,rfl,by decide +kernel⟩
noncomputable abbrev zc9:Stmt:=top 37
noncomputable abbrev zpt:List Str:=["_law_script","_law_k","_law_town_here","_law_due","_law_choice","_law_turn","_law_found","_law_some"]
noncomputable abbrev zkk:List Str:=["_law_script"]
theorem c_law:FnScope zpt zkk (zc zc9):=⟨rfl,rfl,rfl,by decide +kernel,rfl,by decide +kernel,by decide +kernel⟩
noncomputable def zpr:Scope:={kind:= .function,names:=[(".0", .local),("_law_house", .local)],isGenerator:=false,isCoroutine:=false,more:=[]}
theorem o_law_1:CompOk zpt (zc zc9) ["_law_house"] [none] zpr:=⟨rfl,by decide +kernel,by decide +kernel,by decide +kernel,by decide +kernel,rfl,by decide +kernel⟩
set_option genInjectivity false in
set_option genSizeOfSpec false in
set_option genSizeOf false in
structure Ev(K:ξk)(mg:Str->Option Value) where
 c_Likings:Addr
 k_Likings:Cls K c_Likings
 m_Likings:mg "Likings"=some (.ref c_Likings)
 n_Likings_place:NoAttr K c_Likings "place"
 n_Likings_known_keys:NoAttr K c_Likings "known_keys"
 n_Likings_known_offers:NoAttr K c_Likings "known_offers"
 a_holds:Addr
 d_holds:FuncData
 holds:RW.AtD K mg "holds" zdt zbQ a_holds d_holds
 a_all_hold:Addr
 d_all_hold:FuncData
 all_hold:RW.AtD K mg "all_hold" zbn zaY a_all_hold d_all_hold
 a_likings_of:Addr
 d_likings_of:FuncData
 likings_of:RW.At K mg "likings_of" zaL zbc a_likings_of d_likings_of
 a_hands_of:Addr
 d_hands_of:FuncData
 hands_of:RW.At K mg "hands_of" zbl zbW a_hands_of d_hands_of
 a_tied:Addr
 d_tied:FuncData
 tied:RW.At K mg "tied" zda zfz a_tied d_tied
 a_marks_behind:Addr
 d_marks_behind:FuncData
 marks_behind:RW.At K mg "marks_behind" zad zaG a_marks_behind d_marks_behind
 a_handed:Addr
 d_handed:FuncData
 handed:RW.At K mg "handed" zcj zb1 a_handed d_handed
 a_worth:Addr
 d_worth:FuncData
 worth:RW.At K mg "worth" zdk zdj a_worth d_worth
 a_liking_key:Addr
 d_liking_key:FuncData
 liking_key:RW.At K mg "liking_key" zaS zbg a_liking_key d_liking_key
 a_marks_ahead:Addr
 d_marks_ahead:FuncData
 marks_ahead:RW.At K mg "marks_ahead" zaz zaX a_marks_ahead d_marks_ahead
 a_marks_of:Addr
 d_marks_of:FuncData
 marks_of:RW.At K mg "marks_of" zbv zbt a_marks_of d_marks_of
 a_Likings___init__:Addr
 d_Likings___init__:FuncData
 Likings___init__:RW.MAt K c_Likings "__init__" "Likings.__init__" zU zR a_Likings___init__ d_Likings___init__
 a_Likings_key_of:Addr
 d_Likings_key_of:FuncData
 Likings_key_of:RW.MAt K c_Likings "key_of" "Likings.key_of" z9 zap a_Likings_key_of d_Likings_key_of
 a_Likings_way_by:Addr
 d_Likings_way_by:FuncData
 Likings_way_by:RW.MAt K c_Likings "way_by" "Likings.way_by" zM zam a_Likings_way_by d_Likings_way_by
 a_Likings_offer_of:Addr
 d_Likings_offer_of:FuncData
 Likings_offer_of:RW.MAt K c_Likings "offer_of" "Likings.offer_of" zV zac a_Likings_offer_of d_Likings_offer_of
 a_begun:Addr
 d_begun:FuncData
 begun:RW.At K mg "begun" zdh zd2 a_begun d_begun
 a_comings:Addr
 d_comings:FuncData
 comings:RW.At K mg "comings" zbk zch a_comings d_comings
 a_ways_heard:Addr
 d_ways_heard:FuncData
 ways_heard:RW.At K mg "ways_heard" zaw zbh a_ways_heard d_ways_heard
 a_choice_of:Addr
 d_choice_of:FuncData
 choice_of:RW.At K mg "choice_of" zaK zbJ a_choice_of d_choice_of
 a__law_hand:Addr
 d__law_hand:FuncData
 _law_hand:RW.At K mg "_law_hand" za6 zbz a__law_hand d__law_hand
 a__law_take:Addr
 d__law_take:FuncData
 _law_take:RW.At K mg "_law_take" za3 z6 a__law_take d__law_take
 a__law_pick:Addr
 d__law_pick:FuncData
 _law_pick:RW.At K mg "_law_pick" za5 z8 a__law_pick d__law_pick
 a__law_names:Addr
 d__law_names:FuncData
 _law_names:RW.At K mg "_law_names" zau zba a__law_names d__law_names
 a__law_cond:Addr
 d__law_cond:FuncData
 _law_cond:RW.At K mg "_law_cond" za4 zbF a__law_cond d__law_cond
 a__law_conds:Addr
 d__law_conds:FuncData
 _law_conds:RW.At K mg "_law_conds" zat zaN a__law_conds d__law_conds
 a__law_likings:Addr
 d__law_likings:FuncData
 _law_likings:RW.At K mg "_law_likings" zao zaE a__law_likings d__law_likings
 a__law_hands:Addr
 d__law_hands:FuncData
 _law_hands:RW.At K mg "_law_hands" zaQ za9 a__law_hands d__law_hands
 a__law_town:Addr
 d__law_town:FuncData
 _law_town:RW.At K mg "_law_town" zas zbE a__law_town d__law_town
 a__law_holds:Addr
 d__law_holds:FuncData
 _law_holds:RW.At K mg "_law_holds" zaM zag a__law_holds d__law_holds
 a__law_handed:Addr
 d__law_handed:FuncData
 _law_handed:RW.At K mg "_law_handed" z7 zaW a__law_handed d__law_handed
 a__law_pairs:Addr
 d__law_pairs:FuncData
 _law_pairs:RW.At K mg "_law_pairs" zav za8 a__law_pairs d__law_pairs
 a__law_begun:Addr
 d__law_begun:FuncData
 _law_begun:RW.At K mg "_law_begun" zaO zbb a__law_begun d__law_begun
 a__law_comings:Addr
 d__law_comings:FuncData
 _law_comings:RW.At K mg "_law_comings" zaa zaJ a__law_comings d__law_comings
 a_law:Addr
 d_law:FuncData
 law:RW.At K mg "law" zc9 zkk a_law d_law
 mk_Likings:Mk K c_Likings a_Likings___init__
 isinstance:mg "isinstance"=none
 len:mg "len"=none
 int:mg "int"=none
 tuple:mg "tuple"=none
 range:mg "range"=none
 max:mg "max"=none
 min:mg "min"=none
 sorted:mg "sorted"=none
 all:mg "all"=none
 list:mg "list"=none
 reversed:mg "reversed"=none
 repr:mg "repr"=none
 dict:mg "dict"=none
end K52
namespace K52
open PySem PySem.Spec PyProof.Rows L2 RW
local macro_rules | `(tactic|walk_at "cond")=> `(tactic|first|assumption|decide|omega|exact few rfl|exact .inl ⟨by decide,by decide⟩|exact .inr ⟨by decide,by decide⟩|exact .inl ⟨by omega,by omega⟩|exact .inr ⟨by omega,by omega⟩|exact⟨by omega,by omega⟩|exact⟨by assumption,by assumption⟩|exact⟨by decide,by decide,by decide⟩|exact .inr ⟨by split<;>decide,by split<;>decide⟩)
local macro_rules | `(tactic|walk_at "rd")=> `(tactic|first|with_reducible_and_instances refine⟨_,rfl,?_⟩|refine⟨_,rfl,?_⟩|refine⟨_,_,rfl,rfl,?_⟩|refine⟨_,_,_,_,rfl,rfl,SqL.of (by assumption),rfl,?_⟩|refine⟨_,_,_,_,rfl,rfl,(by assumption),rfl,?_⟩|refine .inl ⟨_,rfl,?_⟩|refine .inr ⟨_,rfl,?_⟩|refine .inl ⟨_,_,rfl, .inl (by assumption),?_⟩|refine⟨(by walk_at "cond"),?_⟩)
local macro_rules | `(tactic|walk_at "dsp")=> `(tactic|repeat' (first|exact dsp_str (by decide)|exact znI|exact dsp_bl|exact zoo|exact zoT|exact zlV|exact dsp_dnew|exact dsp_disp rfl|exact zn1 rfl (by assumption)|refine zk7 ?_ ?_|refine dsp_tup ?_ ?_|refine dsp_lst' ?_|refine n_cons ?_ ?_|exact n_nil|exact v_c|exact v_var rfl|refine v_tup ?_|refine zmo ?_ ?_|refine dspl_cat ?_ ?_ ?_|exact dspl_var rfl (by assumption) (by assumption)|exact Nat.le_of_ble_eq_true rfl))
local macro_rules | `(tactic|walk_at "each")=> `(tactic|repeat' (first|exact zjf|refine List.forall_mem_append.mpr ⟨?_,?_⟩|refine List.forall_mem_cons.mpr ⟨?_,?_⟩))
section
variable{P:Program}{w:World}{K:ξk}{mg:Str->Option Value}{base:Heap}
noncomputable def zdD:Sp:=λvs H Q _=>∃(a:Addr) (k n:Int),vs=[.ref a, .int k]/\Hand H a n/\n<2^40/\0<k/\k<1073741824/\∀d H',0<=d->d<k->Hand H' a (n+1)->Keep a H H'->Q (.int d) H'
theorem zdp(Y:Ev K mg):FnOk P w K mg base CX0 1 Y.a__law_take Y.d__law_take z6 zdD:=by
 refine Y._law_take.fn.okQ c__law_take (λvs H Q E h=>?_) (λcdv A outer s H vs Q E hr h=>?_)
 ·obtain ⟨a,k,n,rfl,_⟩:=h
  rfl
 ·obtain ⟨a,k,n,rfl,⟨x,m,t,hH,m0,m1,t0,t1⟩,hn,k0,k1,q⟩:=h
  refine⟨_,(zg (zaP (zC zgw (zN ix_list (qv 0) zf) zf) (zg (zgs (zD (za (zS zfe (zN ix_list (qv 0) zf) (qv 1)) (za (zS zcE (zN ix_list (qv 0) zf) (qv 1)) zd))) (zdx 2 rfl (zu (zlS (qv 0) zf zfk) (zu (zr 2 c__law_take.nd) zbe))))
   (zm (zz (qv 2)))) zab)
   (zg (zgs (zS zaB (zN ix_list (qv 0) zf) zf) (zlS (qv 0) zf zfk))
   (zg (zO 3 c__law_take.nd (zN ix_list (qv 0) zf))
   (zg (zO 4 c__law_take.nd (zS zcE (zS zbw (zN ix_list (qv 0) zf) (zS zaB (zS zaB zf (zS zbw (zS zbw zf (qv 3)) (qv 3))) (zS zbw zf (qv 3)))) zf))
   (zg (zO 5 c__law_take.nd (zS zaB (zS zaB (zS zcE (qv 4) zf) (zS zbw (qv 3) zf)) zf))
   (zg (zO 4 c__law_take.nd (zS zcE (zS zbw (qv 4) (qv 5)) zf))
   (zm (zz (zS zcE (zS zaB (zS zfe (qv 4) zf) (zS zfe (qv 4) zf)) (qv 1)))))))))),?_⟩
  repeat walk_at "rd"
  refine zbi (λhx=>?_) (λhx=>?_)
  ·repeat walk_at "rd"
   intro p hp
   have h2:upd H p (.tup [.int (x/k), .int (x%k)]) a=some (.lst [.int x, .int m, .int t]):=by rw[zi (ze hH hp)];exact hH
   refine ex2 p _ ⟨rfl, .inl (.inl zb),rfl,ex2 _ _ ⟨rfl,vr rfl (ex4 a _ _ _ ⟨rfl,rfl,h2,rfl,ex2 _ _ ⟨rfl,rfl,?_⟩⟩)⟩⟩
   exact vr rfl (q _ _ (Int.emod_nonneg _ (by omega)) (Int.emod_lt_of_pos _ k0) ⟨_,m,t,zb,m0,m1,t0,by omega⟩ ((Keep.new hp).trans (Keep.upd _ _ _)))
  ·refine vr rfl (ixL hH rfl (ex2 _ _ ⟨rfl,rfl,vr rfl (ex4 a _ _ _ ⟨rfl,rfl,hH,rfl,?_⟩)⟩))
   have h2:upd H a (.lst [.int x, .int m, .int (t+1)]) a=some (.lst [.int x, .int m, .int (t+1)]):=zb
   repeat walk_at "rd"
   exact q _ _ (Int.emod_nonneg _ (by omega)) (Int.emod_lt_of_pos _ k0) ⟨_,m,_,zb,m0,m1,by omega,by omega⟩ (Keep.upd _ _ _)
noncomputable def zcB(K:ξk):Sp:=λvs H Q _=>∃(a:Addr) (n:Int),Hand H a n/\n<2^40/\
 ((∃(b:Addr) (xs:List V),vs=[.ref a, .ref b]/\b≠a/\SqL K H b xs/\0<xs.length/\xs.length<1000/\∀v H',v∈xs->Hand H' a (n+1)->Keep a H H'->Q v H')\/
  (∃z:Str,vs=[.ref a, .str z]/\0<z.length/\z.length<1000/\∀c H',c∈z.cps.toList->Hand H' a (n+1)->Keep a H H'->Q (.str (one c)) H'))
theorem zdg(Y:Ev K mg):FnOk P w K mg base CX0 2 Y.a__law_pick Y.d__law_pick z8 (zcB K):=by
 have G__law_take:FnOk P w K mg base CX0 1 Y.a__law_take Y.d__law_take z6 zdD:=zdp Y
 refine Y._law_pick.fn.okQ zh2 (λvs H Q E h=>?_) (λcdv A outer s H vs Q E hr h=>?_)
 ·obtain ⟨a,n,_,_,⟨b,xs,rfl,_⟩|⟨z,rfl,_⟩⟩:=h<;>rfl
 ·obtain ⟨a,n,hH,hn,h⟩:=h
  have hl:∀m:Nat,m<1000->m<=sizeLine:=λm h=>ξg (zj (ξg h))
  rcases h with⟨b,xs,rfl,hb,hS,x0,x1,q⟩|⟨z,rfl,z0,z1,q⟩
  ·refine ⟨_,(zm (zz (zN zl6 (qv 1) (zn G__law_take (hr.mono (by decide)) Y._law_take.mg Y._law_take.kp Y._law_take.b .nil zq (za (qv 0) (za (zE zae Y.len zbL (za (qv 1) zd)) zd)))))),?_⟩
   refine vr rfl (vr rfl (vr rfl (.inl (ex2 b xs ⟨rfl, .inl hS,ex3 a _ n ⟨rfl,hH,hn,by omega,by omega,λd H' h0 h1 hH' kp=>?_⟩⟩))))
   obtain⟨v,e,hv⟩:=ze7 h0 h1
   exact .inl (ex4 b xs d v ⟨rfl,rfl,kp.sqL hb hS,e,q v H' hv hH' kp⟩)
  ·refine ⟨_,(zm (zz (zN zl6 (qv 1) (zn G__law_take (hr.mono (by decide)) Y._law_take.mg Y._law_take.kp Y._law_take.b .nil zq (za (qv 0) (za (zE zae Y.len zbL (za (qv 1) zd)) zd)))))),?_⟩
   refine vr rfl (vr rfl (vr rfl (.inr ⟨z,rfl,hl _ z1,ex3 a _ n ⟨rfl,hH,hn,by omega,by omega,λd H' h0 h1 hH' kp=>?_⟩⟩)))
   obtain⟨c,e,hc⟩:=ze7 (xs:=z.cps.toList) h0 (by simpa[Str.length] using h1)
   exact .inr (.inr (ex3 z d c ⟨rfl,rfl,hl _ z1,e,q c H' hc hH' kp⟩))
noncomputable def zl3(K:ξk):Sp:=λvs H Q _=>∃(b:Addr) (ns:List Int) (k:Int),vs=[.ref b, .int k]/\SqL K H b (ns.map V.int)/\0<=k/\k<1000/\∀a H',H a=none->Hand H' a 0->Same H H'->Q (.ref a) H'
theorem zop(Y:Ev K mg):FnOk P w K mg base CX0 1 Y.a__law_hand Y.d__law_hand zbz (zl3 K):=by
 refine Y._law_hand.fn.okQ c__law_hand (λvs H Q E h=>?_) (λcdv A outer s H vs Q E hr h=>?_)
 ·obtain ⟨a,k,n,rfl,_⟩:=h
  rfl
 ·obtain ⟨b,ns,k,rfl,hS,k0,k1,q⟩:=h
  refine⟨_,(zg (zO 2 c__law_hand.nd zf)
   (zg (zaP (zC zrw (qv 1) (zE zae Y.len zbL (za (qv 0) zd))) (zm (zO 2 c__law_hand.nd (zN ix_list (qv 0) (qv 1)))) zab)
   (zm (zz (zcO (za (zS zbw (qv 2) (zL zbU Y.int zep (za (zbH zpu (qv 2) (zS zqn zf zf)) zd))) (za (zS zaB (zS zaB (zS zcE (qv 2) zf) (zS zbw zf (qv 1))) zf) (za zf zd)))))))),?_⟩
  refine vr rfl (vr rfl (.inl (ex2 b _ ⟨rfl, .inl hS,ex2 _ _ ⟨rfl,rfl,vr rfl ?_⟩⟩)))
  refine zbi (λhx=>?_) (λhx=>?_)
  ·have hx':k<((ns.map V.int).length:Int):=ζh hx
   obtain⟨v,e,hv⟩:=ze7 k0 hx'
   obtain⟨c,_,rfl⟩:=List.mem_map.mp hv
   refine vr rfl (vr rfl (ex4 b _ k _ ⟨rfl,rfl,hS,e,?_⟩))
   repeat walk_at "rd"
   intro p hp
   exact q p _ hp ⟨_,_,_,zb,by omega,by omega,by decide,by decide⟩ (λb' o hb'=>by rw[zi (ze hb' hp)];exact hb')
  ·repeat walk_at "rd"
   intro p hp
   exact q p _ hp ⟨_,_,_,zb,by omega,by omega,by decide,by decide⟩ (λb' o hb'=>by rw[zi (ze hb' hp)];exact hb')
end
section
variable{P:Program}{w:World}{K:ξk}{mg:Str->Option Value}{base:Heap}
noncomputable def zhM:Sp:=λvs H Q _=>∃(a:Addr) (n:Int) (m:Nat),vs=[.ref a, .int m]/\Hand H a n/\n<2^39/\m<=13/\∀(l:Addr) (xs:List Str) (H':Hp),H l=none->H' l=some (.lst (xs.map V.str))->xs.length=m->(∀x∈xs,zh x=true)->xs.Nodup->(∀x∈xs,x≠"nowhere")->Hand H' a (n+4)->Keep a H H'->Q (.ref l) H'
theorem zkZ(Y:Ev K mg):FnOk P w K mg base CX0 3 Y.a__law_names Y.d__law_names zba zhM:=by
 have G__law_take:FnOk P w K mg base CX0 1 Y.a__law_take Y.d__law_take z6 zdD:=zdp Y
 have G__law_pick:FnOk P w K mg base CX0 2 Y.a__law_pick Y.d__law_pick z8 (zcB K):=zdg Y
 refine Y._law_names.fn.okQ c__law_names (λvs H Q E h=>?_) (λcdv A outer s H vs Q E hr h=>?_)
 ·obtain ⟨a,n,m,rfl,_⟩:=h;rfl
 ·obtain ⟨a,n,m,rfl,hH,hn,m13,q⟩:=h
  refine⟨_,(zg (zdG 2 c__law_names.nd zah)
   (zg (zdG 3 c__law_names.nd (zn G__law_take (hr.mono (by decide)) Y._law_take.mg Y._law_take.kp Y._law_take.b .nil zq (za (qv 0) (za zf zd))))
   (zg (zdG 4 c__law_names.nd (zn G__law_pick (hr.mono (by decide)) Y._law_pick.mg Y._law_pick.kp Y._law_pick.b .nil zq (za (qv 0) (za (zey [V.int 1,V.int 3,V.int 5,V.int 7,V.int 9,V.int 11] (by decide +kernel)) zd))))
   (zg (zdl 5 (src:=[none,some 3,some 2,some 4]) o__law_names_1 rfl rfl c__law_names.nd (zbY Y.range (za (qv 1) zd)) (λ_ _ _ _ _=>(zr 0 o__law_names_1.nd)) (λ_ _ _ _ _=>zdN) (λ_ _ _ _ _=>(zS zhX (zN zlP (qc 2) (zS zcE (zS zaB (qc 1) (zS zbw (qc 3) (qv 0))) zf)) (zS zaB zf (zS zcE (zS zaB (zS zbw (qv 0) (qv 0)) (qc 1)) zf)))))
   (zgp (zaP (zC z5 (zn G__law_take (hr.mono (by decide)) Y._law_take.mg Y._law_take.kp Y._law_take.b .nil zq (za (qv 0) (za zf zd))) zf) (zg (zO 6 c__law_names.nd (zey [V.str "goal",V.str "to",V.str "by",V.str "houses",V.str "tie",V.str "like",V.str "hand",V.str "keep",V.str "put",V.str "mark",V.str "long",V.str "from",V.str "strike"] (by decide +kernel)))
   (zg (zO 7 c__law_names.nd (zn G__law_take (hr.mono (by decide)) Y._law_take.mg Y._law_take.kp Y._law_take.b .nil zq (za (qv 0) (za zf zd))))
   (zm (zbO PassesOwn.never rfl (zbY Y.range (za (zE (zgL rfl) Y.min ziN (za (qv 1) (za zf zd))) zd)) (zr 8 c__law_names.nd) (zm (zgs (zN ix_list (qv 6) (zS zcE (zS zaB (qv 7) (zS zbw zf (qv 8))) zf)) (zlS (qv 5) (qv 8) zfk))))))) zab)
   (zm (zz (qv 5)))))))),?_⟩
  refine vr rfl (ex3 a 26 n ⟨rfl,hH,by omega,by decide,by decide,λf' H1 f0 f26 hH1 k1=>?_⟩)
  obtain⟨f,rfl⟩:∃f:Nat,f'=(f:Int):=⟨f'.toNat,by omega⟩
  refine vr rfl ⟨by decide,λpl hpl=>⟨a,n+1,hH1.new hpl,by omega, .inl (ex2 pl _ ⟨rfl,hH1.ne hpl,SqL.of zb,by decide,by decide,λv H2 hv hH2 k2=>?_⟩)⟩⟩
  obtain⟨st,rfl,st0,st11⟩:∃st:Nat,v= .int (st:Int)/\st∈zmc/\st<=11:=by
   simp only[List.mem_cons,ψb,or_false] at hv
   rcases hv with rfl|rfl|rfl|rfl|rfl|rfl
   ·exact ⟨1,rfl,by decide,by decide⟩
   ·exact ⟨3,rfl,by decide,by decide⟩
   ·exact ⟨5,rfl,by decide,by decide⟩
   ·exact ⟨7,rfl,by decide,by decide⟩
   ·exact ⟨9,rfl,by decide,by decide⟩
   ·exact ⟨11,rfl,by decide,by decide⟩
  have kp2:Keep a H H2:=k1.trans ((Keep.new hpl).trans k2)
  refine vr rfl ⟨m,rfl,by omega,by omega,?_⟩
  refine zaR zbZ (λl i ys σ' H'=>(∃o,σ'=[o,some (.int (f:Int)),some (.str lettersS),some (.int (st:Int))])/\ys=((List.range i).map (nmS f st)).map V.str/\Hand H' a (n+1+1)/\Keep a H2 H') ?_ (λ_ _ _ _ _ _ _=>trivial) ?_ ?_
  ·exact λl hl=>⟨⟨_,rfl⟩,rfl,hH2.new hl,Keep.new hl⟩
  ·rintro l i y ys σ' H' hl hi rfl ⟨⟨o,rfl⟩,rfl,hH',k'⟩ hl'
   have hi13:i<13:=by have:i<m:=by omega
                      omega
   have hr26:(f+st*i)%26<26:=Nat.mod_lt _ (by decide)
   have ei:((f:Int)+(st:Int)*(0+(i:Int)))%26=(((f+st*i)%26:Nat):Int):=by rw[Int.zero_add];push_cast;rfl
   have ec:atI lettersS.cps.toList (((f:Int)+(st:Int)*(0+(i:Int)))%26)=some (97+(f+st*i)%26):=by
    rw[ei];exact zQ (zfM _ (List.mem_range.mpr hr26))
   have en:(1+((0+(i:Int))*(0+(i:Int))+(f:Int))%8)=((1+(i*i+f)%8:Nat):Int):=by rw[Int.zero_add];push_cast;rfl
   have g8:(i*i+f)%8<8:=Nat.mod_lt _ (by decide)
   refine⟨_,rfl,_,rfl,_,rfl,_,rfl,_,_,rfl,rfl, .inl ⟨by omega,by omega⟩,_,_,rfl,rfl,_,_,rfl,rfl,(by decide:(0:Int)<26),lettersS,_,_,rfl,rfl,by rw[zin];decide,ec,_,rfl,_,rfl,_,_,rfl,rfl, .inl ⟨by omega,by omega⟩,_,rfl,_,_,rfl,rfl,_,_,rfl,rfl,(by decide:(0:Int)<8),_,_,rfl,rfl,one (97+(f+st*i)%26),_,rfl,rfl,by rw[en];omega,by rw[en];omega,by rw[zka];decide,by rw[zka];decide,?_⟩
   have nl:=hH2.ne hl
   refine⟨hl',?_,⟨_,rfl⟩,?_,hH'.updNe nl,k'.updNew hl⟩
   ·rw[ζa,ζa,List.length_range];exact zj (by omega)
   ·rw[en,Int.toNat_natCast,List.range_succ,ξb,ξb];rfl
  ·rintro l ys σ' H3 hl ⟨⟨o,rfl⟩,rfl,hH3,k3⟩ hl'
   have nl:=hH2.ne hl
   rw[Int.toNat_natCast] at hl'
   have e0:(List.range m).map (nmS f st)=(List.range m).map (zbd f st 0 0):=by
    apply List.map_congr_left
    intro k _
    unfold zbd
    rw[if_neg (by omega)]
   have hln:H l=none:=by
    cases e:H l with
    |none=>rfl
    |some o=>exact absurd (kp2 l o nl e) (by rw[hl];exact λz=>nomatch z)
   refine⟨λσ' H'=>(∃o6 o7 o8,σ'=[some (.ref a),some (.int m),some (.str lettersS),some (.int (f:Int)),some (.int (st:Int)),some (.ref l),o6,o7,o8])/\(∃sp j:Nat,H' l=some (.lst (((List.range m).map (zbd f st sp j)).map V.str))/\sp<13/\j<=4)/\Hand H' a (n+4)/\Keep a H H',?_,?_⟩
   ·refine vr rfl ⟨a,6,n+1+1,rfl,hH3,by omega,by decide,by decide,λd H4 d0 d6 hH4 k4=>⟨rfl,vr rfl (zbi (λ_=>?_) (λ_=>?_))⟩⟩
    ·have hl4:=k4 _ _ nl hl'
     have kp4:Keep a H H4:=(kp2.trans k3).trans k4
     refine⟨by decide,λpk hpk=>?_⟩
     have npl:pk≠l:=λz=>by rw[z,hl4] at hpk;cases hpk
     have npa:=hH4.ne hpk
     refine vr rfl ⟨a,13,n+1+1+1,rfl,hH4.new hpk,by omega,by decide,by decide,λsp' H5 sp0 sp13 hH5 k5=>?_⟩
     obtain⟨sp,rfl⟩:∃f:Nat,sp'=(f:Int):=⟨sp'.toNat,by omega⟩
     refine vr rfl (ex2 _ _ ⟨rfl,vr rfl ⟨?_,?_,?_⟩⟩)
     ·split<;>omega
     ·split<;>omega
     have e4:(if(4:Int)<(m:Int)then(4:Int)else(m:Int)).toNat=min 4 m:=by split<;>omega
     rw[e4]
     refine zaU zbZ (λi σ' H'=>(∃o8,σ'=[some (.ref a),some (.int m),some (.str lettersS),some (.int (f:Int)),some (.int (st:Int)),some (.ref l),some (.ref pk),some (.int (sp:Int)),o8])/\H' l=some (.lst (((List.range m).map (zbd f st sp i)).map V.str))/\Hand H' a (n+4)/\Keep a H H'/\H' pk=some (.lst (keptL.map V.str))) ?_ (λ_ _ _ _=>trivial) ?_ ?_
     ·refine ⟨⟨_,rfl⟩,?_,hH5.mono (by omega),kp4.trans ((Keep.new hpk).trans k5),k5 _ _ npa zb⟩
      have e0':(List.range m).map (nmS f st)=(List.range m).map (zbd f st sp 0):=by
       apply List.map_congr_left
       intro k _
       unfold zbd
       rw[if_neg (by omega)]
      rw[←e0']
      exact k5 _ _ nl (by rw[zi (Ne.symm npl)];exact hl4)
     ·rintro i y σ' H6 hi4 rfl ⟨⟨o8,rfl⟩,hz,hH6,k6,hp6⟩
      have ek:((sp:Int)+3*(0+(i:Int)))%13=(((sp+3*i)%13:Nat):Int):=by rw[Int.zero_add];push_cast;rfl
      have ev:atI (keptL.map V.str) (((sp:Int)+3*(0+(i:Int)))%13)=some (.str (kwS sp i)):=by
       rw[ek];exact zQ (by rw[ζp,zoS];rfl)
      have hix:ixN (((List.range m).map (zbd f st sp i)).map V.str).length (0+(i:Int))=some i:=by
       unfold ixN
       rw[if_pos (by omega),if_pos (by rw[ζa,ζa,List.length_range];omega)]
       congr 1
       omega
      refine vr rfl (vr rfl (vr rfl (ex2 _ _ ⟨rfl,rfl, .inl ⟨by decide,by decide⟩,ex2 _ _ ⟨rfl,rfl,ex2 _ _ ⟨rfl,rfl,(by decide:(0:Int)<13),ixL hp6 ev (vr rfl (vr rfl (ex4 l _ _ i ⟨rfl,rfl,hz,hix,?_⟩)))⟩⟩⟩)))
      refine⟨⟨_,rfl⟩,?_,hH6.updNe nl,k6.updNew hln,by rw[zi npl];exact hp6⟩
      rw[zb,←List.map_set,zm1 (by omega)]
     ·rintro σ' H6 ⟨⟨o8,rfl⟩,hz,hH6,k6,_⟩
      exact⟨(ex3 _ _ _ rfl),⟨sp,min 4 m,hz,by omega,by omega⟩,hH6,k6⟩
    ·rw[e0] at hl'
     exact⟨(ex3 _ _ _ rfl),⟨0,0,k4 _ _ nl hl',by decide,by decide⟩,hH4.mono (by omega),(kp2.trans k3).trans k4⟩
   ·rintro σ' H' ⟨⟨o6,o7,o8,rfl⟩,⟨sp,j,hz,hsp,hj⟩,hH',k'⟩
    refine vr rfl (q l _ H' hln hz (by rw[ζa,List.length_range]) (λx hx=>?_) (zhU (by omega) st0 hsp hj m13) (λx hx=>?_) hH' k')
    ·obtain ⟨k,_,rfl⟩:=List.mem_map.mp hx
     exact zoc _ _ _ _ _
    ·obtain ⟨k,_,rfl⟩:=List.mem_map.mp hx
     exact zlk _ _ _ _ _
end
section
variable{P:Program}{w:World}{K:ξk}{mg:Str->Option Value}{base:Heap}
def NL(O:List Str)(H:Hp)(l:Addr):Prop:=∃xs:List Str,H l=some (.lst (xs.map V.str))/\0<xs.length/\xs.length<=100/\∀x∈xs,zh x=true/\x∈O
theorem NL.keep{O:List Str}{H H':Hp}{a l:Addr}(h:NL O H l)(k:Keep a H H')(n:l≠a):NL O H' l:=let⟨xs,e,r⟩:=h;⟨xs,k _ _ n e,r⟩
theorem NL.same{O:List Str}{H H':Hp}{l:Addr}(h:NL O H l)(k:Same H H'):NL O H' l:=let⟨xs,e,r⟩:=h;⟨xs,k _ _ e,r⟩
theorem zcl{O:List Str}{H:Hp}{a l:Addr}{n:Int}{Q:VK}(hH:Hand H a n)(hn:n<2^40)(hl:NL O H l)(hla:l≠a)(q:∀x H',(zh x=true/\x∈O)->Hand H' a (n+1)->Keep a H H'->Q (.str x) H'):zcB K [.ref a, .ref l] H Q E0:=by
 obtain⟨xs,e,x0,x1,hx⟩:=hl
 refine⟨a,n,hH,hn, .inl (ex2 l _ ⟨rfl,hla,SqL.of e,by rw[ζa];exact x0,by rw[ζa];omega,λv H' hv hH' k'=>?_⟩)⟩
 obtain⟨x,hxx,rfl⟩:=List.mem_map.mp hv
 exact q x H' (hx x hxx) hH' k'
theorem zA{x:Str}(h:zh x=true):x.length<=1000:=by
 unfold zh at h
 simp only[ζs,decide_eq_true_eq] at h
 omega
theorem zb4{y x:Str}(hy:y∈namingL)(hx:zh x=true):zB (.tup [.str y, .str x])=true:=by
 have h1:¬y="long":=by
  intro z
  subst z
  revert hy
  decide +kernel
 have h2:(namingL.any λz=>decide (z=y))=true:=List.any_eq_true.mpr ⟨y,hy,ζf rfl⟩
 rw[zd1,if_neg h1,h2,zhC,hx];rfl
theorem zdK{d:D}(h:zB d=true):zw d=true:=by
 obtain⟨x,e,rfl⟩:=zbu d h
 by_cases hx:x="not"
 ·subst hx;rw[zci] at h;cases h
 ·rw[zcy,if_neg hx];exact h
theorem zfP{d:D}(h:zB d=true)(ha:zeO d=false):zcP d=false:=by
 obtain⟨x,e,rfl⟩:=zbu d h
 by_cases hx:x="not"
 ·subst hx;rw[zci] at h;cases h
 ·show (if x="not"then zeO e else decide (x="to"))=false
  rw[if_neg hx];exact ha
noncomputable def zmM:Sp:=λvs H Q _=>∃(a h m:Addr) (n:Int) (to:Bool) (O:List Str),vs=[.ref a, .ref h, .ref m, .bl to]/\Hand H a n/\n<2^39/\NL O H h/\NL O H m/\h≠a/\m≠a/\∀v d H',Rep H' v d->(zw d=true/\zaV O d=true)->(to=false->zcP d=false)->Hand H' a (n+4)->Keep a H H'->Q v H'
theorem zo0(Y:Ev K mg):FnOk P w K mg base CX0 3 Y.a__law_cond Y.d__law_cond zbF zmM:=by
 have G__law_take:FnOk P w K mg base CX0 1 Y.a__law_take Y.d__law_take z6 zdD:=zdp Y
 have G__law_pick:FnOk P w K mg base CX0 2 Y.a__law_pick Y.d__law_pick z8 (zcB K):=zdg Y
 refine Y._law_cond.fn.okQ c__law_cond (λvs H Q E h=>?_) (λcdv A outer s H vs Q E hr h=>?_)
 ·obtain ⟨a,h,m,n,to,O,rfl,_⟩:=h;rfl
 ·obtain ⟨a,h,m,n,to,O,rfl,hH,hn,hh,hm,nh,nm,q⟩:=h
  refine⟨_,(zg (zO 4 c__law_cond.nd (zn G__law_take (hr.mono (by decide)) Y._law_take.mg Y._law_take.kp Y._law_take.b .nil zq (za (qv 0) (za (zS zaB zf (zL zbU Y.int zep (za (qv 3) zd))) zd))))
   (zg (zO 5 c__law_cond.nd (zD (za zah (za (zn G__law_pick (hr.mono (by decide)) Y._law_pick.mg Y._law_pick.kp Y._law_pick.b .nil zq (za (qv 0) (za (qv 1) zd))) zd))))
   (zgp (zaP (t_w (znN (zC z5 (qv 4) zf) (zjA (zC z5 (qv 4) zf)))) (zm (zO 5 c__law_cond.nd (zD (za zah (za (zn G__law_pick (hr.mono (by decide)) Y._law_pick.mg Y._law_pick.kp Y._law_pick.b .nil zq (za (qv 0) (za (qv 1) zd))) zd))))) (zm (zaP (zC z5 (qv 4) zf) (zm (zO 5 c__law_cond.nd (zD (za zah (za (zn G__law_pick (hr.mono (by decide)) Y._law_pick.mg Y._law_pick.kp Y._law_pick.b .nil zq (za (qv 0) (za (zey [V.int 0,V.int 1,V.int 2,V.int 3,V.int 4,V.int 99] (by decide +kernel)) zd))) zd))))) (zm (zaP (zC z5 (qv 4) zf) (zm (zO 5 c__law_cond.nd (zD (za zah (za (zn G__law_pick (hr.mono (by decide)) Y._law_pick.mg Y._law_pick.kp Y._law_pick.b .nil zq (za (qv 0) (za (qv 2) zd))) zd))))) (zm (zaP (zC z5 (qv 4) zf) (zm (zO 5 c__law_cond.nd (zD (za zah (za (zn G__law_pick (hr.mono (by decide)) Y._law_pick.mg Y._law_pick.kp Y._law_pick.b .nil zq (za (qv 0) (za (qv 1) zd))) zd))))) zab)))))))
   (zm (zz (zji (zC z5 (zn G__law_take (hr.mono (by decide)) Y._law_take.mg Y._law_take.kp Y._law_take.b .nil zq (za (qv 0) (za zf zd))) zf) (zD (za zah (za (qv 5) zd))) (qv 5))))))),?_⟩
  refine vr rfl (vr rfl (.inr ⟨to,rfl,ex2 _ _ ⟨rfl,rfl,ex3 a _ n ⟨rfl,hH,by omega,by split<;>omega,by split<;>omega,λt H1 t0 t5 hH1 k1=>?_⟩⟩⟩))
  refine vr rfl (vr rfl (zcl hH1 (by omega) (hh.keep k1 nh) nh λx H2 hx hH2 k2=>⟨few rfl,λp2 hp2=>?_⟩))
  have mk2:∀{H0:Hp} {p:Addr} {y x:Str},y.length<=1000->(zh x=true/\x∈O)->Rep (upd H0 p (.tup [.str y, .str x])) (.ref p) (.tup [.str y, .str x]):=λhy hx=> .mk2 zb (.str _ hy) (.str _ (zA hx.1))
  have hh2:NL O (upd H2 p2 (.tup [.str "by", .str x])) h:=((hh.keep k1 nh).keep k2 nh).same (Same.new hp2)
  have hm2:NL O (upd H2 p2 (.tup [.str "by", .str x])) m:=((hm.keep k1 nm).keep k2 nm).same (Same.new hp2)
  have hH2':=hH2.new (o:= .tup [.str "by", .str x]) hp2
  have kp2:Keep a H (upd H2 p2 (.tup [.str "by", .str x])):=(k1.trans k2).trans (Keep.new hp2)
  refine⟨λσ' H'=>∃v d,σ'=[some (.ref a),some (.ref h),some (.ref m),some (.bl to),some (.int t),some v]/\Rep H' v d/\(zB d=true/\z3 O d=true)/\(to=false->zeO d=false)/\Hand H' a (n+3)/\Keep a H H',?_,?_⟩
  ·have ap:∀{y x:Str},¬y="to"->zeO (.tup [.str y, .str x])=false:=λh=>ζn h
   have br:∀{y:Str},y.length<=1000->y∈namingL->¬y="to"->∀(l:Addr),l≠a->NL O (upd H2 p2 (.tup [.str "by", .str x])) l->∀R:V->Hp->Prop,(∀v d H',Rep H' v d->(zB d=true/\z3 O d=true)->(to=false->zeO d=false)->Hand H' a (n+3)->Keep a H H'->R v H')->
    zcB K [.ref a, .ref l] (upd H2 p2 (.tup [.str "by", .str x])) (λv H3=> [V.str y,v].length<=sizeLine/\∀p,H3 p=none->R (.ref p) (upd H3 p (.tup [V.str y,v]))) E0:=by
    intro y hy hyn hyt l nl hl R hR
    refine zcl hH2' (by omega) hl nl λx3 H3 hx3 hH3 k3=>⟨few rfl,λp3 hp3=>?_⟩
    exact hR _ _ _ (mk2 hy hx3) ⟨zb4 hyn hx3.1,zaF hx3.2⟩ (λ_=>ap hyt) ((hH3.new hp3).mono (by omega)) ((kp2.trans k3).trans (Keep.new hp3))
   have fin:∀v d H',Rep H' v d->(zB d=true/\z3 O d=true)->(to=false->zeO d=false)->Hand H' a (n+3)->Keep a H H'->(λ(v:V) (H':Hp)=>∃v0 d,[some (V.ref a),some (.ref h),some (.ref m),some (.bl to),some (.int t),some v]=[some (.ref a),some (.ref h),some (.ref m),some (.bl to),some (.int t),some v0]/\Rep H' v0 d/\(zB d=true/\z3 O d=true)/\(to=false->zeO d=false)/\Hand H' a (n+3)/\Keep a H H') v H':=
    λv d H' h1 h2 h3 h4 h5=>⟨v,d,rfl,h1,h2,h3,h4,h5⟩
   refine vr rfl ⟨rfl,vr rfl (zbi (λ_=>?_) (λ_=>(vr rfl ⟨rfl,vr rfl (zbi (λ_=>?_) (λ_=>?_))⟩)))⟩
   ·exact vr rfl (vr rfl (br (by decide) (by decide) (by decide +kernel) h nh hh2 _ fin))
   ·exact vr rfl (vr rfl (br (by decide) (by decide) (by decide +kernel) h nh hh2 _ fin))
   refine vr rfl ⟨rfl,vr rfl (zbi (λ_=>?_) (λ_=>(vr rfl ⟨rfl,vr rfl (zbi (λ_=>?_) (λ_=>(vr rfl ⟨rfl,vr rfl (zbi (λh5=>?_) (λ_=>?_))⟩)))⟩)))⟩
   ·refine vr rfl ⟨by decide,λpl hpl=>⟨a,n+2,(hH2'.mono (by omega)).new hpl,by omega, .inl (ex2 pl _ ⟨rfl,hH2'.ne hpl,SqL.of zb,by decide,by decide,λv H3 hv hH3 k3=>⟨few rfl,λp3 hp3=>?_⟩⟩)⟩⟩
    have hk:∃j:Int,v= .int j/\0<=j/\j<=99:=by
     simp only[List.mem_cons,ψb,or_false] at hv
     rcases hv with rfl|rfl|rfl|rfl|rfl|rfl<;>exact ⟨_,rfl,by decide,by decide⟩
    obtain⟨j,rfl,j0,j9⟩:=hk
    refine fin _ (.tup [.str "long", .int j]) _ (.mk2 zb (.str _ (by decide)) (.int _)) ?_ (λ_=>(by decide +kernel:decide (("long":Str)="to")=false)) ((hH3.new hp3).mono (by omega)) ((kp2.trans ((Keep.new hpl).trans k3)).trans (Keep.new hp3))
    refine⟨?_,rfl⟩
    rw[zd1,if_pos rfl]
    show(decide (0<=j)&&decide (j<=99))=true
    rw[ζf j0,ζf j9];rfl
   ·exact vr rfl (vr rfl (br (by decide) (by decide) (by decide +kernel) m nm hm2 _ fin))
   ·refine vr rfl (vr rfl (zcl hH2' (by omega) hh2 nh λx3 H3 hx3 hH3 k3=>⟨few rfl,λp3 hp3=>?_⟩))
    refine fin _ _ _ (mk2 (by decide) hx3) ⟨zb4 (by decide) hx3.1,zaF hx3.2⟩ (λz=>?_) ((hH3.new hp3).mono (by omega)) ((kp2.trans k3).trans (Keep.new hp3))
    subst z
    have e5:t=5:=V.int.inj (ζh h5)
    simp at t5
    omega
   ·exact fin _ _ _ (mk2 (by decide) hx) ⟨zb4 (by decide) hx.1,zaF hx.2⟩ (λ_=>ap (by decide +kernel)) (hH2'.mono (by omega)) kp2
  ·rintro σ' H3 ⟨v,d,rfl,hv,hd,hto,hH3,k3⟩
   refine vr rfl (ex3 a 4 (n+3) ⟨rfl,hH3,by omega,by decide,by decide,λd4 H4 _ _ hH4 k4=>⟨rfl,vr rfl (zbi (λ_=>?_) (λ_=>?_))⟩⟩)
   ·have hv4:=hv.mono (Mono.keep k4 hH3 hH4)
    refine vr rfl ⟨few rfl,λp5 hp5=>q _ (.tup [.str "not",d]) _ (.mk2 zb (.str _ (by decide)) (hv4.mono (.new hp5))) ?_ (λz=>hto z) ((hH4.new hp5).mono (by omega)) ((k3.trans k4).trans (Keep.new hp5))⟩
    exact⟨by rw[zcy,if_pos rfl];exact hd.1,zfW hd.2⟩
   ·exact vr rfl (q _ d _ (hv.mono (Mono.keep k4 hH3 hH4)) ⟨zdK hd.1,zet hd.1 hd.2⟩ (λz=>zfP hd.1 (hto z)) (hH4.mono (by omega)) (k3.trans k4))
end
section
variable{P:Program}{w:World}{K:ξk}{mg:Str->Option Value}{base:Heap}
theorem zc3{H:Hp}{a p:Addr}{n:Int}{xs:List V}(h:Hand H a n)(e:H p=some (.tup xs)):p≠a:=λz=>by
 obtain⟨_,_,_,h,_⟩:=h
 rw[z,h] at e;cases e
theorem zix{ds:List D}(hl:ds.length<=4)(h:∀d∈ds,zw d=true):zaA (.tup ds)=true:=by
 rw[zh6,ζf hl,List.all_eq_true.mpr h];rfl
theorem zmF{α:Type}{P:α->Prop}{ds:List α}(h:∀(i:Nat) (d:α),ds[i]?=some d->P d):∀d∈ds,P d:=λd hd=>by
 obtain⟨i,hi,e⟩:=List.getElem_of_mem hd
 exact h i d (by rw[ζd hi,e])
noncomputable def zhs:Sp:=λvs H Q _=>∃(a h m:Addr) (n:Int) (to:Bool) (O:List Str),vs=[.ref a, .ref h, .ref m, .bl to]/\Hand H a n/\n<2^38/\NL O H h/\NL O H m/\h≠a/\m≠a/\∀v ds H',Rep H' v (.tup ds)->ds.length<=4->(∀d∈ds,zw d=true)->(∀d∈ds,zaV O d=true)->(to=false->∀d∈ds,zcP d=false)->Hand H' a (n+17)->Keep a H H'->Q v H'
theorem zib(Y:Ev K mg):FnOk P w K mg base CX0 4 Y.a__law_conds Y.d__law_conds zaN zhs:=by
 have G__law_pick:FnOk P w K mg base CX0 2 Y.a__law_pick Y.d__law_pick z8 (zcB K):=zdg Y
 have G__law_cond:FnOk P w K mg base CX0 3 Y.a__law_cond Y.d__law_cond zbF zmM:=zo0 Y
 refine Y._law_conds.fn.okQ c__law_conds (λvs H Q E h=>?_) (λcdv A outer s H vs Q E hr h=>?_)
 ·obtain ⟨a,h,m,n,to,O,rfl,_⟩:=h;rfl
 ·obtain ⟨a,h,m,n,to,O,rfl,hH,hn,hh,hm,nh,nm,q⟩:=h
  refine⟨_,(zg (zO 4 c__law_conds.nd (zn G__law_pick (hr.mono (by decide)) Y._law_pick.mg Y._law_pick.kp Y._law_pick.b .nil zq (za (qc 0) (za (zey [V.int 1,V.int 1,V.int 1,V.int 2,V.int 0,V.int 4] (by decide +kernel)) zd))))
   (zm (zz (zL zF Y.tuple zay (za (zb6 (src:=[none,some 0,some 1,some 2,some 3]) o__law_conds_1 rfl rfl (zbY Y.range (za (qv 4) zd)) (λ_ _ _ _ _=>(zr 0 o__law_conds_1.nd)) (λ_ _ _ _ _=>zdN) (λ_ _ _ _ _=>(zn G__law_cond (hr.mono (by decide)) Y._law_cond.mg Y._law_cond.kp Y._law_cond.b .nil zq (za (qc 1) (za (qc 2) (za (qc 3) (za (qc 4) zd))))))) zd))))),?_⟩
  refine vr rfl ⟨by decide,λpl hpl=>⟨a,n,hH.new hpl,by omega, .inl (ex2 pl _ ⟨rfl,hH.ne hpl,SqL.of zb,by decide,by decide,λv H1 hv hH1 k1=>?_⟩)⟩⟩
  obtain⟨c,rfl,c4⟩:∃c:Nat,v= .int (c:Int)/\c<=4:=by
   simp only[List.mem_cons,ψb,or_false] at hv
   rcases hv with rfl|rfl|rfl|rfl|rfl|rfl
   ·exact ⟨1,rfl,by decide⟩
   ·exact ⟨1,rfl,by decide⟩
   ·exact ⟨1,rfl,by decide⟩
   ·exact ⟨2,rfl,by decide⟩
   ·exact ⟨0,rfl,by decide⟩
   ·exact ⟨4,rfl,by decide⟩
  have kp1:Keep a H H1:=(Keep.new hpl).trans k1
  have hh1:=(hh.same (Same.new (o:= .lst [V.int 1,V.int 1,V.int 1,V.int 2,V.int 0,V.int 4]) hpl)).keep k1 nh
  have hm1:=(hm.same (Same.new (o:= .lst [V.int 1,V.int 1,V.int 1,V.int 2,V.int 0,V.int 4]) hpl)).keep k1 nm
  refine vr rfl ⟨c,rfl,by omega,by omega,?_⟩
  rw[Int.toNat_natCast]
  refine ziB (a:=a) (m:=n+1) (c:=4) (Pd:=λ_ d=>(zw d=true/\zaV O d=true)/\(to=false->zcP d=false)) (σr:=[some (.ref a),some (.ref h),some (.ref m),some (.bl to)]) rfl hH1 (by omega) (by decide) (λj H2 Q1 hj hH2 k2 q1=>?_) (λl vs ds H2 hl hl2 r2 hds pd hH2 k2=>?_)
  ·exact vr rfl (vr rfl (vr rfl (vr rfl (ex4 a h m _ (ex2 to O ⟨rfl,hH2,by omega,hh1.keep k2 nh,hm1.keep k2 nm,nh,nm,λv d H3 rv hc ht hH3 k3=>q1 v d H3 rv ⟨hc,ht⟩ hH3 k3⟩)))))
  ·refine ex2 l vs ⟨rfl, .inl ⟨SqL.of hl2,λp hp=>?_⟩⟩
   have pd':=zmF (P:=λd=>(zw d=true/\zaV O d=true)/\(to=false->zcP d=false)) pd
   exact q _ ds _ (.mkL zb (by omega) (r2.mono (.new hp))) (by omega) (λd hd=>(pd' d hd).1.1) (λd hd=>(pd' d hd).1.2) (λz d hd=>(pd' d hd).2 z) ((hH2.new hp).mono (by omega)) ((kp1.trans k2).trans (Keep.new hp))
def zrY(g:D->Bool)(H':Hp)(ls:Addr)(i:Nat):Prop:=∃(zs:List V) (ds:List D),H' ls=some (.lst zs)/\RepL H' zs ds/\ds.length=i/\∀d∈ds,g d=true
noncomputable def zeb(g:List Str->D->Bool):Sp:=λvs H Q _=>∃(a h m:Addr) (n:Int) (x:Str) (O:List Str),vs=[.ref a, .ref h, .ref m, .str x]/\Hand H a n/\n<2^37/\NL O H h/\NL O H m/\h≠a/\m≠a/\zh x=true/\x∈O/\∀v ds H',Rep H' v (.tup ds)->ds.length<=12->(∀d∈ds,g O d=true)->Hand H' a (n+400)->Keep a H H'->Q v H'
theorem zgC{ds:List D}{x:D}(hl:ds.length<=4)(h:∀d∈ds,zw d=true)(ha:∀d∈ds,zcP d=false)(hx:zbA x=true):zW (.tup [.tup ds,x])=true:=by
 rw[zk4,zix hl h,hx]
 have:zdR (.tup ds)=false:=by
  show ds.any zcP=false
  rw[List.any_eq_false]
  exact λd hd z=>by rw[ha d hd] at z;cases z
 rw[this];rfl
theorem zjb(Y:Ev K mg):FnOk P w K mg base CX0 5 Y.a__law_likings Y.d__law_likings zaE (zeb zg1):=by
 have G__law_take:FnOk P w K mg base CX0 1 Y.a__law_take Y.d__law_take z6 zdD:=zdp Y
 have G__law_pick:FnOk P w K mg base CX0 2 Y.a__law_pick Y.d__law_pick z8 (zcB K):=zdg Y
 have G__law_conds:FnOk P w K mg base CX0 4 Y.a__law_conds Y.d__law_conds zaN zhs:=zib Y
 refine Y._law_likings.fn.okQ c__law_likings (λvs H Q E h=>?_) (λcdv A outer s H vs Q E hr h=>?_)
 ·obtain ⟨a,h,m,n,x,O,rfl,_⟩:=h;rfl
 ·obtain ⟨a,h,m,n,x,O,rfl,hH,hn,hh,hm,nh,nm,xn,xO,q⟩:=h
  refine⟨_,(zg (zO 4 c__law_likings.nd (zcO zd))
   (zg (zbO PassesOwn.never rfl (zbY Y.range (za (zS zaB (zn G__law_take (hr.mono (by decide)) Y._law_take.mg Y._law_take.kp Y._law_take.b .nil zq (za (qv 0) (za zf zd))) (zS zbw zf (zL zbU Y.int zep (za (zbH z5 (zn G__law_take (hr.mono (by decide)) Y._law_take.mg Y._law_take.kp Y._law_take.b .nil zq (za (qv 0) (za zf zd))) zf) zd)))) zd)) (zr 5 c__law_likings.nd) (zg (zO 6 c__law_likings.nd (zn G__law_pick (hr.mono (by decide)) Y._law_pick.mg Y._law_pick.kp Y._law_pick.b .nil zq (za (qv 0) (za (zcO (za zf (za zf (za zf (za (zma zfi zf) (za zf (za zf (za (zma zfi zf) (za zaC zd))))))))) zd))))
   (zm (zbK (zdS PySem.F.plainAttrs_list PySem.F.slot_list_append PySem.F.type_list_append zan (qv 4) (za (zD (za (zn G__law_conds (hr.mono (by decide)) Y._law_conds.mg Y._law_conds.kp Y._law_conds.b .nil zq (za (qv 0) (za (qv 1) (za (qv 2) (za ziY zd))))) (za (qv 6) zd))) zd))))))
   (zg (zaP (zC zgw (zn G__law_take (hr.mono (by decide)) Y._law_take.mg Y._law_take.kp Y._law_take.b .nil zq (za (qv 0) (za zf zd))) zf) (zm (zbK (zdS PySem.F.plainAttrs_list PySem.F.slot_list_insert PySem.F.type_list_insert zlm (qv 4) (za zf (za (zD (za (zi2 zfg (zD (za (zD (za zah (za (qv 3) zd))) (za (zD (za zah (za (zD (za zah (za zf zd))) zd))) zd))) zeF (zcV (zS zaB zf (zn G__law_take (hr.mono (by decide)) Y._law_take.mg Y._law_take.kp Y._law_take.b .nil zq (za (qv 0) (za zf zd)))))) (za zf zd))) zd))))) zab)
   (zm (zz (zL zF Y.tuple zay (za (qv 4) zd))))))),?_⟩
  refine⟨few rfl,λls hls=>?_⟩
  have nls:=hH.ne hls
  refine vr rfl (ex3 a 3 n ⟨rfl,hH.new hls,by omega,by decide,by decide,λt H1 t0 t4 hH1 k1=>(vr rfl (ex3 a 8 (n+1) ⟨rfl,hH1,by omega,by decide,by decide,λu H2 u0 u8 hH2 k2=>?_⟩))⟩)
  have hl1:H1 ls=some (.lst []):=k1 _ _ nls zb
  have hl2:H2 ls=some (.lst []):=k2 _ _ nls hl1
  have kp2:Keep a H H2:=((Keep.new hls).trans k1).trans k2
  refine⟨rfl, .inr (vr rfl (ex2 _ _ ⟨rfl,rfl, .inl ⟨by decide,by decide⟩,ex2 _ _ ⟨rfl,rfl,vr rfl ⟨?_,?_,?_⟩⟩⟩))⟩
  ·split<;>omega
  ·split<;>omega
  have hN:(t+3*(if decide (V.int u=V.int 0)=true then(1:Int)else 0)).toNat<=5:=by split<;>omega
  generalize (t+3*(if decide (V.int u=V.int 0)=true then(1:Int)else 0)).toNat=N at *
  refine zaU zbZ (λi σ' H'=>(∃o1 o2,σ'=[some (.ref a),some (.ref h),some (.ref m),some (.str x),some (.ref ls),o1,o2])/\zrY (zg1 O) H' ls i/\Hand H' a (n+2+18*i)/\Keep a H H') ?_ (λ_ _ _ _=>trivial) ?_ ?_
  ·exact ⟨(ex2 _ _ rfl),⟨[],[],hl2,RepL.nil,rfl,λ_ z=>nomatch z⟩,hH2.mono (by omega),kp2⟩
  ·rintro i y σ' H3 hi rfl ⟨⟨o1,o2,rfl⟩,⟨zs,ds,hz,rz,hdl,hds⟩,hH3,k3⟩
   have rz1:=rz.1
   refine vr rfl (zqU (ds:=[.int 5, .int 5, .int 1, .int (-3), .int 0, .int 999, .int (-999), .non]) (by walk_at "dsp") λl4 vs4 H4 s4 e4 r4=>?_)
   refine⟨a,_,hH3.same s4,by omega, .inl (ex2 l4 _ ⟨rfl,ziO (hH3.same s4) e4 r4 (by decide),SqL.of e4,by rw[r4.1];decide,by rw[r4.1];decide,λv H5 hv hH5 k5=>?_⟩)⟩
   obtain⟨dn,rn,hw,hwo⟩:∃dn,Rep H5 v dn/\zbA dn=true/\z3 O dn=true:=by
    obtain⟨j,hj,ej⟩:=List.getElem_of_mem hv
    obtain⟨d,hd,rd⟩:=r4.get (i:=j) (v:=v) (by rw[ζd hj,ej])
    refine⟨d,rd.mono (.keep k5 (hH3.same s4) hH5),?_⟩
    have key:∀d∈([.int 5, .int 5, .int 1, .int (-3), .int 0, .int 999, .int (-999), .non]:List D),zbA d=true/\z3 O d=true:=by walk_at "each"<;>exact ⟨by decide,rfl⟩
    exact key d (ζk hd)
   have k35:Keep a H3 H5:=(Keep.of s4).trans k5
   have hz5:=k35 _ _ nls hz
   have hh5:=(hh.keep k3 nh).keep k35 nh
   have hm5:=(hm.keep k3 nm).keep k35 nm
   refine vr rfl ⟨.inl ⟨rfl,_,SqL.of hz5⟩,vr rfl (vr rfl (vr rfl (ex4 a h m _ (ex2 false O ⟨rfl,hH5,by omega,hh5,hm5,nh,nm,λvc dc H6 rc lc hc hco hto hH6 k6=>(vr rfl ⟨few rfl,λp7 hp7=>?_⟩)⟩))))⟩
   have m36:Mono H3 H6:=(Mono.keep k35 hH3 hH5).trans (.keep k6 hH5 hH6)
   have hz7:upd H6 p7 (.tup [vc,v]) ls=some (.lst zs):=by rw[zi (ze (k6 _ _ nls hz5) hp7)];exact k6 _ _ nls hz5
   refine ex3 ls _ _ ⟨rfl,rfl,hz7,zj (by omega),(ex2 _ _ rfl),⟨_,ds ++ [.tup [.tup dc,dn]],zb,?_,?_,?_⟩,?_,?_⟩
   ·exact RepL.mono (.append ((rz.mono m36).mono (.new hp7)) (.cons (.mk2 zb (rc.mono (.new hp7)) ((rn.mono (.keep k6 hH5 hH6)).mono (.new hp7))) .nil)) (.lset hz7)
   ·rw[ζe,hdl];rfl
   ·intro d hd
    rcases List.mem_append.mp hd with hd|hd
    ·exact hds d hd
    ·rw[List.mem_singleton.mp hd];exact ζs _ _▸⟨zgC lc hc (hto rfl) hw,zdm hco hwo⟩
   ·exact ((hH6.new hp7).updNe nls).mono (by rw[show((i+1:Nat):Int)=(i:Int)+1 by omega];omega)
   ·exact Keep.updNew ((k3.trans (k35.trans k6)).trans (Keep.new hp7)) hls
  ·rintro σ' H3 ⟨⟨o1,o2,rfl⟩,⟨zs,ds,hz,rz,hdl,hds⟩,hH3,k3⟩
   have rz1:=rz.1
   refine vr rfl (ex3 a 3 _ ⟨rfl,hH3,by omega,by decide,by decide,λt3 H4 _ _ hH4 k4=>(ex2 _ _ ⟨rfl,rfl,vr rfl (zbi (λ_=>?_) (λ_=>?_))⟩)⟩)
   ·have hz4:=k4 _ _ nls hz
    refine vr rfl ⟨.inl ⟨rfl,_,SqL.of hz4⟩,?_⟩
    refine vr rfl ⟨few rfl,λp1 hp1=>⟨few rfl,λp2 hp2=>⟨few rfl,λp3 hp3=>⟨few rfl,λp4 hp4=>?_⟩⟩⟩⟩
    have S1:=Same.new (o:= .tup [V.str "from", .str x]) hp1
    have S2:=Same.new (o:= .tup [V.str "long", .int 3]) hp2
    have S3:=Same.new (o:= .tup [V.str "not", .ref p2]) hp3
    have S4:=Same.new (o:= .tup [V.ref p1, .ref p3]) hp4
    have S14:=((S1.trans S2).trans S3).trans S4
    have e1:=S4 _ _ (S3 _ _ (S2 _ _ (zb (H:=H4) (a:=p1) (o:= .tup [V.str "from", .str x]))))
    have e2:=S4 _ _ (S3 _ _ (zb (H:=upd H4 p1 (.tup [V.str "from", .str x])) (a:=p2) (o:= .tup [V.str "long", .int 3])))
    have e3:=S4 _ _ (zb (H:=upd (upd H4 p1 (.tup [V.str "from", .str x])) p2 (.tup [V.str "long", .int 3])) (a:=p3) (o:= .tup [V.str "not", .ref p2]))
    have e4:=zb (H:=upd (upd (upd H4 p1 (.tup [V.str "from", .str x])) p2 (.tup [V.str "long", .int 3])) p3 (.tup [V.str "not", .ref p2])) (a:=p4) (o:= .tup [V.ref p1, .ref p3])
    have hH5:=hH4.same S14
    generalize (upd (upd (upd (upd H4 p1 (HO.tup [V.str "from", .str x])) p2 (HO.tup [V.str "long", .int 3])) p3 (HO.tup [V.str "not", .ref p2])) p4 (HO.tup [V.ref p1, .ref p3]))=H5 at *
    refine vr rfl (ex3 a 2 _ ⟨rfl,hH5,by omega,by decide,by decide,λu H6 u0 u2 hH6 k6=>(ex2 _ _ ⟨rfl,rfl,vr rfl ?_⟩)⟩)
    have k46:Keep a H4 H6:=(Keep.of S14).trans k6
    have m56:Mono H5 H6:= .keep k6 hH5 hH6
    have r1:Rep H5 (.ref p1) (.tup [.str "from", .str x]):= .mk2 e1 (.str _ (by decide)) (.str _ (zA xn))
    have r3:Rep H5 (.ref p3) (.tup [.str "not", .tup [.str "long", .int 3]]):= .mk2 e3 (.str _ (by decide)) (.mk2 e2 (.str _ (by decide)) (.int _))
    have c1:zw (.tup [.str "from", .str x])=true/\zaV O (.tup [.str "from", .str x])=true/\zcP (.tup [.str "from", .str x])=false:=by
     have hp:=zb4 (y:="from") (x:=x) (by decide) xn
     exact⟨zdK hp,zet hp (zaF xO),zfP hp (show decide (("from":Str)="to")=false by decide +kernel)⟩
    have c3:zw (.tup [.str "not", .tup [.str "long", .int 3]])=true/\zaV O (.tup [.str "not", .tup [.str "long", .int 3]])=true/\zcP (.tup [.str "not", .tup [.str "long", .int 3]])=false:=⟨by decide +kernel,zfW rfl,by decide +kernel⟩
    have fin:∀(v:V) (ds1:List D) (H7:Hp),Rep H7 v (.tup ds1)->ds1.length<=4->(∀d∈ds1,zw d=true/\zaV O d=true/\zcP d=false)->Same H6 H7->∀p,H7 p=none->∃(l:Addr) (i:Nat) (y:V) (xs:List V),V.ref ls= .ref l/\ [V.int 0,V.ref p]=[.int (i:Int),y]/\upd H7 p (.tup [v, .int 7]) l=some (.lst xs)/\xs.length<1000/\i<=xs.length/\∃v2,[some (V.ref a),some (V.ref h),some (V.ref m),some (V.str x),some (V.ref ls),o1,o2][4]?=some (some v2)/\∃l2 us,[v2]=[.ref l2]/\((SqL K (upd (upd H7 p (.tup [v, .int 7])) l (.lst (xs.take i ++ [y]++xs.drop i))) l2 us/\∀p2,(upd (upd H7 p (.tup [v, .int 7])) l (.lst (xs.take i ++ [y]++xs.drop i))) p2=none->Q (.ref p2) (upd (upd (upd H7 p (.tup [v, .int 7])) l (.lst (xs.take i ++ [y]++xs.drop i))) p2 (.tup us)))\/(SqT K (upd (upd H7 p (.tup [v, .int 7])) l (.lst (xs.take i ++ [y]++xs.drop i))) l2 us/\Q (.ref l2) (upd (upd H7 p (.tup [v, .int 7])) l (.lst (xs.take i ++ [y]++xs.drop i))))):=by
     intro v ds1 H7 rv hl hc s7 p hp
     have hz7:=s7 _ _ (k46 _ _ nls hz4)
     have hz8:upd H7 p (.tup [v, .int 7]) ls=some (.lst zs):=by rw[zi (ze hz7 hp)];exact hz7
     have m37:Mono H3 H7:=((Mono.keep k4 hH3 hH4).trans (.keep k46 hH4 hH6)).trans (.of s7)
     refine ex4 ls 0 _ zs ⟨rfl,rfl,hz8,by omega,ξi _,vr rfl (ex2 ls _ ⟨rfl, .inl ⟨SqL.of zb,λp2 hp2=>?_⟩⟩)⟩
     refine q _ ([.tup [.tup ds1, .int 7]]++ds) _ (.mkL zb (by rw[ζe];show 1+_<=_;omega) (RepL.mono (RepL.mono (.append (.cons (.mk2 zb (rv.mono (.new hp)) (.int _)) .nil) ((rz.mono m37).mono (.new hp))) (.lset hz8)) (.new hp2))) (by rw[ζe];show 1+_<=_;omega) (λd hd=>?_) ?_ ?_
     ·rcases List.mem_append.mp hd with hd|hd
      ·rw[List.mem_singleton.mp hd]
       exact ζs _ _▸⟨zgC hl (λd hd=>(hc d hd).1) (λd hd=>(hc d hd).2.2) (by decide),zdm (λd hd=>(hc d hd).2.1) rfl⟩
      ·exact hds d hd
     ·exact Hand.mono ((((hH6.same s7).new hp).updNe nls).new hp2) (by omega)
     ·exact (Keep.updNew ((k3.trans k4).trans ((k46.trans (Keep.of s7)).trans (Keep.new hp))) hls).trans (Keep.new hp2)
    obtain rfl|rfl:u=0\/u=1:=by omega
    ·refine ex2 p4 _ ⟨rfl, .inl (.inl (k6 _ _ (zc3 hH5 e4) e4)),?_,λp7 hp7=>?_⟩
     ·intro z;cases z
     ·exact ⟨few rfl,λp8 hp8=>fin _ [.tup [.str "from", .str x]] _ (.mk1 zb ((r1.mono m56).mono (.new hp7))) (by simp) (λd hd=>by rw[List.mem_singleton.mp hd];exact c1) (Same.new hp7) p8 hp8⟩
    ·have r4:Rep H6 (.ref p4) (.tup [.tup [.str "from", .str x], .tup [.str "not", .tup [.str "long", .int 3]]]):=Rep.mono (.mk2 e4 r1 r3) m56
     have c4:∀d∈ [D.tup [.str "from", .str x], .tup [.str "not", .tup [.str "long", .int 3]]],zw d=true/\zaV O d=true/\zcP d=false:=λd hd=>by
      simp only[List.mem_cons,ψb,or_false] at hd
      rcases hd with rfl|rfl
      ·exact c1
      ·exact c3
     refine ex2 p4 _ ⟨rfl, .inl (.inl (k6 _ _ (zc3 hH5 e4) e4)),λ_=>?_,λp7 hp7=>?_⟩
     ·exact ⟨few rfl,λp8 hp8=>fin _ _ _ r4 (by simp) c4 (Same.refl _) p8 hp8⟩
     ·exact ⟨few rfl,λp8 hp8=>fin _ _ _ (.mk2 zb ((r1.mono m56).mono (.new hp7)) ((r3.mono m56).mono (.new hp7))) (by simp) c4 (Same.new hp7) p8 hp8⟩
   ·refine vr rfl (ex2 ls zs ⟨rfl, .inl ⟨SqL.of (k4 _ _ nls hz),λp hp=>?_⟩⟩)
    exact q _ ds _ (.mkL zb (by omega) ((rz.mono (.keep k4 hH3 hH4)).mono (.new hp))) (by omega) hds ((hH4.new hp).mono (by omega)) ((k3.trans k4).trans (Keep.new hp))
end
section
variable{P:Program}{w:World}{K:ξk}{mg:Str->Option Value}{base:Heap}
theorem zjQ{ds:List D}{x:D}(hl:ds.length<=4)(h:∀d∈ds,zw d=true)(hx:zbX x=true):zbR (.tup [.tup ds,x])=true:=by
 rw[znX,zix hl h,hx];rfl
theorem znj{y x:Str}(hx:zh x=true)(hy:y="put"\/y="strike"):zbX (.tup [.str y, .str x])=true:=by
 rw[zqQ,zhC,hx]
 rcases hy with rfl|rfl<;>decide +kernel
def zqk(g:D->Bool)(H':Hp)(ls:Addr)(i:Nat):Prop:=∃(zs:List V) (ds:List D),H' ls=some (.lst zs)/\RepL H' zs ds/\ds.length<=i+1/\∀d∈ds,g d=true
theorem zmN(Y:Ev K mg):FnOk P w K mg base CX0 5 Y.a__law_hands Y.d__law_hands za9 (zeb zeG):=by
 have G__law_take:FnOk P w K mg base CX0 1 Y.a__law_take Y.d__law_take z6 zdD:=zdp Y
 have G__law_pick:FnOk P w K mg base CX0 2 Y.a__law_pick Y.d__law_pick z8 (zcB K):=zdg Y
 have G__law_conds:FnOk P w K mg base CX0 4 Y.a__law_conds Y.d__law_conds zaN zhs:=zib Y
 refine Y._law_hands.fn.okQ c__law_hands (λvs H Q E h=>?_) (λcdv A outer s H vs Q E hr h=>?_)
 ·obtain ⟨a,h,m,n,x,O,rfl,_⟩:=h;rfl
 ·obtain ⟨a,h,m,n,xg,O,rfl,hH,hn,hh,hm,nh,nm,xn,xO,q⟩:=h
  refine⟨_,(zg (zO 4 c__law_hands.nd (zi2 zgW (zcO (za (zD (za (zD (za (zD (za zah (za (qv 3) zd))) zd)) (za (zD (za zah zd)) zd))) zd)) zeF (zcV (zL zbU Y.int zep (za (zbH zgw (zn G__law_take (hr.mono (by decide)) Y._law_take.mg Y._law_take.kp Y._law_take.b .nil zq (za (qv 0) (za zf zd))) zf) zd)))))
   (zg (zbO PassesOwn.never rfl (zbY Y.range (za (zS zaB (zn G__law_pick (hr.mono (by decide)) Y._law_pick.mg Y._law_pick.kp Y._law_pick.b .nil zq (za (qv 0) (za (zey [V.int 0,V.int 0,V.int 1,V.int 2] (by decide +kernel)) zd))) (zS zbw zf (zL zbU Y.int zep (za (zbH z5 (zn G__law_take (hr.mono (by decide)) Y._law_take.mg Y._law_take.kp Y._law_take.b .nil zq (za (qv 0) (za zf zd))) zf) zd)))) zd)) (zr 5 c__law_hands.nd) (zg (zO 6 c__law_hands.nd (zn G__law_pick (hr.mono (by decide)) Y._law_pick.mg Y._law_pick.kp Y._law_pick.b .nil zq (za (qv 0) (za (zcO (za (zD (za zah zd)) (za (zD (za zah (za (zn G__law_pick (hr.mono (by decide)) Y._law_pick.mg Y._law_pick.kp Y._law_pick.b .nil zq (za (qv 0) (za (qv 2) zd))) zd))) (za (zD (za zah (za (zn G__law_pick (hr.mono (by decide)) Y._law_pick.mg Y._law_pick.kp Y._law_pick.b .nil zq (za (qv 0) (za (qv 2) zd))) zd))) zd)))) zd))))
   (zm (zbK (zdS PySem.F.plainAttrs_list PySem.F.slot_list_append PySem.F.type_list_append zan (qv 4) (za (zD (za (zn G__law_conds (hr.mono (by decide)) Y._law_conds.mg Y._law_conds.kp Y._law_conds.b .nil zq (za (qv 0) (za (qv 1) (za (qv 2) (za ziY zd))))) (za (qv 6) zd))) zd))))))
   (zm (zz (zL zF Y.tuple zay (za (qv 4) zd)))))),?_⟩
  refine vr rfl ⟨few rfl,λp1 hp1=>⟨few rfl,λp2 hp2=>⟨few rfl,λp3 hp3=>⟨few rfl,λp4 hp4=>⟨few rfl,λp5 hp5=>?_⟩⟩⟩⟩⟩
  have S1:=Same.new (o:= .tup [V.str "to", .str xg]) hp1
  have S2:=Same.new (o:= .tup [V.ref p1]) hp2
  have S3:=Same.new (o:= .tup [V.str "keep"]) hp3
  have S4:=Same.new (o:= .tup [V.ref p2, .ref p3]) hp4
  have S5:=Same.new (o:= .lst [V.ref p4]) hp5
  have S15:=(((S1.trans S2).trans S3).trans S4).trans S5
  have e1:=S5 _ _ (S4 _ _ (S3 _ _ (S2 _ _ (zb (H:=H) (a:=p1) (o:= .tup [V.str "to", .str xg])))))
  have e2:=S5 _ _ (S4 _ _ (S3 _ _ (zb (H:=upd H p1 (.tup [V.str "to", .str xg])) (a:=p2) (o:= .tup [V.ref p1]))))
  have e3:=S5 _ _ (S4 _ _ (zb (H:=upd (upd H p1 (.tup [V.str "to", .str xg])) p2 (.tup [V.ref p1])) (a:=p3) (o:= .tup [V.str "keep"])))
  have e4:=S5 _ _ (zb (H:=upd (upd (upd H p1 (.tup [V.str "to", .str xg])) p2 (.tup [V.ref p1])) p3 (.tup [V.str "keep"])) (a:=p4) (o:= .tup [V.ref p2, .ref p3]))
  have e5:=zb (H:=upd (upd (upd (upd H p1 (.tup [V.str "to", .str xg])) p2 (.tup [V.ref p1])) p3 (.tup [V.str "keep"])) p4 (.tup [V.ref p2, .ref p3])) (a:=p5) (o:= .lst [V.ref p4])
  have hH5:=hH.same S15
  have n5:p5≠a:=(hH.same (((S1.trans S2).trans S3).trans S4)).ne hp5
  generalize (upd (upd (upd (upd (upd H p1 (HO.tup [V.str "to", .str xg])) p2 (HO.tup [V.ref p1])) p3 (HO.tup [V.str "keep"])) p4 (HO.tup [V.ref p2, .ref p3])) p5 (HO.lst [V.ref p4]))=H5 at *
  have r4:Rep H5 (.ref p4) (.tup [.tup [.tup [.str "to", .str xg]], .tup [.str "keep"]]):= .mk2 e4 (.mk1 e2 (.mk2 e1 (.str _ (by decide)) (.str _ (zA xn)))) (.mk1 e3 (.str _ (by decide)))
  have g4:zeG O (.tup [.tup [.tup [.str "to", .str xg]], .tup [.str "keep"]])=true:=by
   have hp:=zb4 (y:="to") (x:=xg) (by decide) xn
   have hc:∀d∈ [D.tup [.str "to", .str xg]],zw d=true:=λd hd=>by rw[List.mem_singleton.mp hd];exact zdK hp
   exact ζs _ _▸⟨zjQ (by simp) hc (by decide +kernel),zdm (λd hd=>by rw[List.mem_singleton.mp hd];exact zet hp (zaF xO)) rfl⟩
  refine vr rfl (ex3 a 5 n ⟨rfl,hH5,by omega,by decide,by decide,λt5 H6 _ _ hH6 k6=>(ex2 _ _ ⟨rfl,rfl, .inr (vr rfl (vr rfl (ex2 p5 _ ⟨rfl,SqL.of (k6 _ _ n5 e5),λls hls=>?_⟩)))⟩)⟩)
  have nls:=hH6.ne hls
  have k06:Keep a H H6:=(Keep.of S15).trans k6
  have hls0:H ls=none:=by
   cases e:H ls with
   |none=>rfl
   |some o=>rw[k06 _ _ nls e] at hls;cases hls
  obtain⟨zs0,ds0,ez0,rz0,dl0,hds0⟩:∃(zs:List V) (ds:List D),zbB [V.ref p4] none (some (if decide (t5>0)=true then(1:Int)else 0))=zs/\RepL H6 zs ds/\ds.length<=1/\∀d∈ds,zeG O d=true:=by
   have r46:=r4.mono (Mono.keep k6 hH5 hH6)
   cases decide (t5>0)with
   |true=>exact ⟨[.ref p4],[_],rfl, .cons r46 .nil,by simp,λd hd=>by rw[List.mem_singleton.mp hd];exact g4⟩
   |false=>exact ⟨[],[],rfl, .nil,by decide,λd hd=>nomatch hd⟩
  rw[ez0]
  have hH0:=hH6.new (o:= .lst zs0) hls
  have rz0':=rz0.mono (Mono.new (o:= .lst zs0) hls)
  refine vr rfl ⟨by decide,λpk hpk=>⟨a,_,hH0.new hpk,by omega, .inl (ex2 pk _ ⟨rfl,hH0.ne hpk,SqL.of zb,by decide,by decide,λv H1 hv hH1 k1=>?_⟩)⟩⟩
  obtain⟨c,rfl,c0,c4⟩:∃c:Int,v= .int c/\0<=c/\c<=2:=by
   simp only[List.mem_cons,ψb,or_false] at hv
   rcases hv with rfl|rfl|rfl|rfl<;>exact ⟨_,rfl,by decide,by decide⟩
  refine vr rfl ⟨a,8,n+1+1,rfl,hH1,by omega,by decide,by decide,λu H2 u0 u8 hH2 k2=>?_⟩
  have hl0:upd H6 ls (.lst zs0) ls=some (.lst zs0):=zb
  have hl1:H1 ls=some (.lst zs0):=k1 _ _ nls (by rw[zi (ze hl0 hpk)];exact hl0)
  have hl2:H2 ls=some (.lst zs0):=k2 _ _ nls hl1
  have rz2:RepL H2 zs0 ds0:=RepL.mono (RepL.mono (rz0'.mono (.new hpk)) (.keep k1 (hH0.new hpk) hH1)) (.keep k2 hH1 hH2)
  have kp2:Keep a H H2:=((k06.trans (Keep.new hls)).trans ((Keep.new hpk).trans k1)).trans k2
  refine⟨rfl, .inr (vr rfl (ex2 _ _ ⟨rfl,rfl, .inl ⟨by decide,by decide⟩,ex2 _ _ ⟨rfl,rfl,vr rfl ⟨?_,?_,?_⟩⟩⟩))⟩
  ·split<;>omega
  ·split<;>omega
  have hN:(c+3*(if decide (V.int u=V.int 0)=true then(1:Int)else 0)).toNat<=5:=by split<;>omega
  generalize (c+3*(if decide (V.int u=V.int 0)=true then(1:Int)else 0)).toNat=N at *
  refine zaU zbZ (λi σ' H'=>(∃o1 o2,σ'=[some (.ref a),some (.ref h),some (.ref m),some (.str xg),some (.ref ls),o1,o2])/\zqk (zeG O) H' ls i/\Hand H' a (n+3+20*i)/\Keep a H H') ?_ (λ_ _ _ _=>trivial) ?_ ?_
  ·exact ⟨(ex2 _ _ rfl),⟨zs0,ds0,hl2,rz2,dl0,hds0⟩,hH2.mono (by omega),kp2⟩
  ·rintro i y σ' H3 hi rfl ⟨⟨o1,o2,rfl⟩,⟨zs,ds,hz,rz,hdl,hds⟩,hH3,k3⟩
   have rz1:=rz.1
   refine vr rfl ⟨few rfl,λp1 hp1=>?_⟩
   clear S1 S2 S3 S4 S5 S15 e1 e2 e3 e4 e5
   have S1:Same H3 (upd H3 p1 (.tup [.str "keep"])):=Same.new hp1
   have hm3:=hm.keep k3 nm
   have hh3:=hh.keep k3 nh
   refine vr rfl (vr rfl (zcl (hH3.new hp1) (by omega) (hm3.same S1) nm λx H4 hx hH4 k4=>⟨few rfl,λp2 hp2=>?_⟩))
   have S2:Same H4 (upd H4 p2 (.tup [.str "put", .str x])):=Same.new hp2
   refine vr rfl (vr rfl (zcl (hH4.new hp2) (by omega) (((hm3.same S1).keep k4 nm).same S2) nm λy H5 hy hH5 k5=>⟨few rfl,λp3 hp3=>⟨few rfl,λp4 hp4=>?_⟩⟩))
   have S3:Same H5 (upd H5 p3 (.tup [.str "strike", .str y])):=Same.new hp3
   have S4:Same (upd H5 p3 (.tup [.str "strike", .str y])) (upd (upd H5 p3 (.tup [.str "strike", .str y])) p4 (.lst [.ref p1, .ref p2, .ref p3])):=Same.new hp4
   have hH6:=(hH5.new (o:= .tup [.str "strike", .str y]) hp3).new (o:= .lst [.ref p1, .ref p2, .ref p3]) hp4
   refine⟨a,_,hH6,by omega, .inl (ex2 p4 _ ⟨rfl,Hand.ne (hH5.new hp3) hp4,SqL.of zb,(by decide:0<3),(by decide:3<1000),λv H7 hv hH7 k7=>?_⟩)⟩
   have M2:Mono (upd H3 p1 (.tup [.str "keep"])) H4:=Mono.keep k4 (hH3.new hp1) hH4
   have M3:=Mono.keep k5 (hH4.new hp2) hH5
   have M5:=Mono.keep k7 hH6 hH7
   have M45:=((Mono.of S3).trans (Mono.of S4)).trans M5
   have k37:Keep a H3 H7:=(((((Keep.of S1).trans k4).trans (Keep.of S2)).trans k5).trans ((Keep.of S3).trans (Keep.of S4))).trans k7
   obtain⟨da,ra,haa,hao⟩:∃da,Rep H7 v da/\zbX da=true/\z3 O da=true:=by
    simp only[List.mem_cons,ψb,or_false] at hv
    rcases hv with rfl|rfl|rfl
    ·exact ⟨.tup [.str "keep"],Rep.mono (.mk1 zb (.str _ (by decide))) (((M2.trans (.of S2)).trans M3).trans M45),by decide +kernel,rfl⟩
    ·exact ⟨.tup [.str "put", .str x],Rep.mono (.mk2 zb (.str _ (by decide)) (.str _ (zA hx.1))) (M3.trans M45),znj hx.1 (.inl rfl),zaF hx.2⟩
    ·exact ⟨.tup [.str "strike", .str y],Rep.mono (.mk2 zb (.str _ (by decide)) (.str _ (zA hy.1))) ((Mono.of S4).trans M5),znj hy.1 (.inr rfl),zaF hy.2⟩
   have hz7:=k37 _ _ nls hz
   refine vr rfl ⟨.inl ⟨rfl,_,SqL.of hz7⟩,vr rfl (vr rfl (vr rfl (ex4 a h m _ (ex2 true O ⟨rfl,hH7,by omega,hh3.keep k37 nh,hm3.keep k37 nm,nh,nm,λvc dc H8 rc lc hc hco hto hH8 k8=>(vr rfl ⟨few rfl,λp9 hp9=>?_⟩)⟩))))⟩
   have m38:Mono H3 H8:=(Mono.keep k37 hH3 hH7).trans (.keep k8 hH7 hH8)
   have hz9:upd H8 p9 (.tup [vc,v]) ls=some (.lst zs):=by rw[zi (ze (k8 _ _ nls hz7) hp9)];exact k8 _ _ nls hz7
   refine ex3 ls _ _ ⟨rfl,rfl,hz9,zj (by omega),(ex2 _ _ rfl),⟨_,ds ++ [.tup [.tup dc,da]],zb,?_,?_,?_⟩,?_,?_⟩
   ·exact RepL.mono (.append ((rz.mono m38).mono (.new hp9)) (.cons (.mk2 zb (rc.mono (.new hp9)) ((ra.mono (.keep k8 hH7 hH8)).mono (.new hp9))) .nil)) (.lset hz9)
   ·rw[ζe];show _+1<=_;omega
   ·intro d hd
    rcases List.mem_append.mp hd with hd|hd
    ·exact hds d hd
    ·rw[List.mem_singleton.mp hd];exact ζs _ _▸⟨zjQ lc hc haa,zdm hco hao⟩
   ·exact ((hH8.new hp9).updNe nls).mono (by rw[show((i+1:Nat):Int)=(i:Int)+1 by omega];omega)
   ·exact Keep.updNew ((k3.trans (k37.trans k8)).trans (Keep.new hp9)) hls0
  ·rintro σ' H3 ⟨⟨o1,o2,rfl⟩,⟨zs,ds,hz,rz,hdl,hds⟩,hH3,k3⟩
   refine vr rfl (ex2 ls zs ⟨rfl, .inl ⟨SqL.of hz,λp hp=>?_⟩⟩)
   exact q _ ds _ (.mkL zb (by omega) (rz.mono (.new hp))) (by omega) hds ((hH3.new hp).mono (by omega)) (k3.trans (Keep.new hp))
end
section
variable{P:Program}{w:World}{K:ξk}{mg:Str->Option Value}{base:Heap}
theorem zdy{H H':Hp}{vs:List V}{ps:List (List Str)}(h:zaq H vs ps)(m:∀b xs,H b=some (.tup xs)->H' b=some (.tup xs)):zaq H' vs ps:=⟨h.1,λi v p e1 e2=>let ⟨b,e,hb⟩:=h.2 i v p e1 e2;⟨b,e,m _ _ hb⟩⟩
theorem zkB{H:Hp}{vs us:List V}{ps qs:List (List Str)}(h:zaq H vs ps)(k:zaq H us qs):zaq H (vs ++us) (ps ++qs):=by
 refine⟨by rw[ζe,ζe,h.1,k.1],λi v p e1 e2=>?_⟩
 by_cases hi:i<vs.length
 ·rw[ψa hi] at e1
  rw[ψa (by rw[←h.1];exact hi)] at e2
  exact h.2 i v p e1 e2
 ·rw[ξm (by omega)] at e1
  rw[ξm (by rw[←h.1];omega),←h.1] at e2
  exact k.2 _ v p e1 e2
theorem zml{H:Hp}:zaq H [] []:=⟨rfl,λi v p e1 e2=>by cases e1⟩
theorem zpH{H:Hp}{b:Addr}{p:List Str}(h:H b=some (.tup (p.map V.str))):zaq H [.ref b] [p]:=⟨rfl,λi v q e1 e2=>by
 cases i with
 |zero=>cases e1;cases e2;exact⟨b,rfl,h⟩
 |succ i=>cases e1⟩
theorem zlZ{H H':Hp}{a:Addr}{n:Int}(h:Hand H a n)(k:Keep a H H'):∀b xs,H b=some (.tup xs)->H' b=some (.tup xs):=λb xs e=>k b _ (zc3 h e) e
structure TsOk(hs:List Str)(i:Nat)(ps:List (Str×Str)):Prop where
 nd:ps.Nodup
 at_:∀p∈ps,∃(j k:Nat),j<k/\k<i/\hs[j]?=some p.1/\hs[k]?=some p.2
 len:2*ps.length<=i*i
theorem TsOk.lt{hs:List Str}{i:Nat}{ps:List (Str×Str)}(T:TsOk hs i ps)(hr:hs.Pairwise (λa b=>ltS a b=true)):∀p∈ps,p.1∈hs/\p.2∈hs/\ltS p.1 p.2=true:=by
 intro p hp
 obtain⟨j,k,hjk,_,e1,e2⟩:=T.at_ p hp
 obtain⟨h1,f1⟩:=List.getElem?_eq_some_iff.mp e1
 obtain⟨h2,f2⟩:=List.getElem?_eq_some_iff.mp e2
 refine⟨ζk e1,ζk e2,?_⟩
 have:=List.pairwise_iff_getElem.mp hr j k h1 h2 hjk
 rw[f1,f2] at this
 exact this
theorem zjH{hs:List Str}(hr:hs.Pairwise (λa b=>ltS a b=true)):hs.Nodup:=hr.imp λh z=>by rw[z,zcd] at h;cases h
theorem zoG{hs:List Str}{i:Nat}{ps qs:List (Str×Str)}{y:Str}(hr:hs.Pairwise (λa b=>ltS a b=true))(T:TsOk hs i ps)(hy:hs[i]?=some y)(hq:∀q∈qs,q.2=y/\∃j,j<i/\hs[j]?=some q.1)(nq:qs.Nodup)(lq:qs.length<=i):TsOk hs (i+1) (ps ++qs):=by
 refine⟨List.nodup_append.mpr ⟨T.nd,nq,λp hp q hq' z=>?_⟩,λp hp=>?_,?_⟩
 ·obtain ⟨j,k,_,hk,_,e2⟩:=T.at_ p hp
  rw[z,(hq q hq').1,←hy] at e2
  obtain⟨hi,_⟩:=List.getElem?_eq_some_iff.mp hy
  have:=(List.getElem?_inj (by omega) (zjH hr)).mp e2
  omega
 ·rcases List.mem_append.mp hp with hp|hp
  ·obtain ⟨j,k,h1,h2,h3⟩:=T.at_ p hp
   exact⟨j,k,h1,by omega,h3⟩
  ·obtain ⟨e,j,hj,e1⟩:=hq p hp
   exact⟨j,i,hj,by omega,e1,by rw[e];exact hy⟩
 ·have:=T.len
  have e:(i+1)*(i+1)=i*i+2*i+1:=by rw[Nat.add_mul,Nat.mul_add];omega
  rw[ζe,e];omega
theorem zro{H:Hp}{vs:List V}{ps:List (Str×Str)}(h:zaq H vs (ps.map l2))(hn:∀p∈ps,zh p.1=true/\zh p.2=true):RepL H vs (ps.map pairD):=by
 refine⟨by rw[h.1,ζa,ζa],λi v d e1 e2=>?_⟩
 rw[ζp] at e2
 cases e3:ps[i]? with
 |none=>rw[e3] at e2;cases e2
 |some p=>
  rw[e3] at e2;cases e2
  obtain⟨b,rfl,hb⟩:=h.2 i v (l2 p) e1 (by rw[ζp,e3];rfl)
  obtain⟨n1,n2⟩:=hn p (ζk e3)
  exact .mk2 hb (.str _ (zA n1)) (.str _ (zA n2))
theorem zkF{ps:List (Str×Str)}{qs:List (List Str)}(h:qs.Perm (ps.map l2)):∃ps':List (Str×Str),qs=ps'.map l2/\ps'.Perm ps:=by
 have e:qs=(qs.map λq=>(q.headD "",q.tail.headD "")).map l2:=by
  rw[List.map_map]
  symm
  refine(List.map_congr_left λq hq=>?_).trans (List.map_id _)
  obtain⟨p,_,rfl⟩:=List.mem_map.mp (h.mem_iff.mp hq)
  rfl
 refine⟨_,e,?_⟩
 have:=h.map λq=>((q.headD "",q.tail.headD ""):Str×Str)
 rw[List.map_map] at this
 refine this.trans (List.Perm.of_eq ((List.map_congr_left λp _=>?_).trans (List.map_id _)))
 rfl
noncomputable def zj8:Sp:=λvs H Q _=>∃(a b:Addr) (n:Int) (zs:List Int) (M:Nat),vs=[.ref a, .ref b]/\Hand H a n/\n<2^36/\H b=some (.lst (zs.map V.int))/\b≠a/\0<zs.length/\zs.length<100/\(∀z∈zs,1<=z/\z<=(M:Int))/\M<=10/\∀(v:V) (g:Str) (hs:List Str) (ps:List (Str×Str)) (lks hds:List D) (H':Hp),Rep H' v (zaT g hs ps lks hds)->TownOk g hs ps lks hds->(∃O,Pool hs lks hds O)->hs.length<=M->2*ps.length<=M*M->(∀d∈lks,∃ds,d= .tup ds/\ds.length<=12)->(∀d∈hds,∃ds,d= .tup ds/\ds.length<=12)->Hand H' a (n+20000)->Keep a H H'->Q v H'
theorem zf6{d:D}{ds:List D}(e:d= .tup ds)(h:ds.length<=12){O:List Str}(h2:∀d∈ds,zg1 O d=true):zb8 d=true/\zcz O d=true/\∃es,d= .tup es/\es.length<=12:=by
 subst e
 refine⟨?_,List.all_eq_true.mpr λd hd=>((ζs _ _).mp (h2 d hd)).2,ds,rfl,h⟩
 show(decide (ds.length<=90)&&ds.all zW)=true
 rw[ζf (by omega),List.all_eq_true.mpr λd hd=>((ζs _ _).mp (h2 d hd)).1];rfl
theorem zid{d:D}{ds:List D}(e:d= .tup ds)(h:ds.length<=12){O:List Str}(h2:∀d∈ds,zeG O d=true):zcp d=true/\zcz O d=true/\∃es,d= .tup es/\es.length<=12:=by
 subst e
 refine⟨?_,List.all_eq_true.mpr λd hd=>((ζs _ _).mp (h2 d hd)).2,ds,rfl,h⟩
 show(decide (ds.length<=90)&&ds.all zbR)=true
 rw[ζf (by omega),List.all_eq_true.mpr λd hd=>((ζs _ _).mp (h2 d hd)).1];rfl
def Gat(O:List Str)(H:Hp)(l1 l2:Addr)(i:Nat):Prop:=∃(v1 v2:List V) (d1 d2:List D),H l1=some (.lst v1)/\H l2=some (.lst v2)/\RepL H v1 d1/\RepL H v2 d2/\d1.length=i/\d2.length=i/\(∀d∈d1,zb8 d=true/\zcz O d=true/\∃es,d= .tup es/\es.length<=12)/\(∀d∈d2,zcp d=true/\zcz O d=true/\∃es,d= .tup es/\es.length<=12)
theorem zpm(Y:Ev K mg):FnOk P w K mg base CX0 6 Y.a__law_town Y.d__law_town zbE zj8:=by
 have G__law_take:FnOk P w K mg base CX0 1 Y.a__law_take Y.d__law_take z6 zdD:=zdp Y
 have G__law_pick:FnOk P w K mg base CX0 2 Y.a__law_pick Y.d__law_pick z8 (zcB K):=zdg Y
 have G__law_names:FnOk P w K mg base CX0 3 Y.a__law_names Y.d__law_names zba zhM:=zkZ Y
 have G__law_likings:FnOk P w K mg base CX0 5 Y.a__law_likings Y.d__law_likings zaE (zeb zg1):=zjb Y
 have G__law_hands:FnOk P w K mg base CX0 5 Y.a__law_hands Y.d__law_hands za9 (zeb zeG):=zmN Y
 refine Y._law_town.fn.okQ c__law_town (λvs H Q E h=>?_) (λcdv A outer s H vs Q E hr h=>?_)
 ·obtain ⟨a,b,n,zs,M,rfl,_⟩:=h;rfl
 ·obtain ⟨a,b,n,zs,M,rfl,hH,hn,hb,nb,z0,z1,hz,M10,q⟩:=h
  refine⟨_,(zg (zO 2 c__law_town.nd (zn G__law_pick (hr.mono (by decide)) Y._law_pick.mg Y._law_pick.kp Y._law_pick.b .nil zq (za (qc 0) (za (qv 1) zd))))
   (zg (zO 3 c__law_town.nd (zn G__law_names (hr.mono (by decide)) Y._law_names.mg Y._law_names.kp Y._law_names.b .nil zq (za (qc 0) (za (zS zaB (qv 2) zf) zd))))
   (zg (zgs (zD (za (zi2 zgW (qv 3) zeF (zcV (qv 2))) (za (zi2 zgW (qv 3) (zcV (qv 2)) zeF) zd))) (zdx 2 rfl (zu (zcG 4 c__law_town.nd) (zu (zr 5 c__law_town.nd) zbe))))
   (zg (zdG 6 c__law_town.nd (zL zF Y.tuple zay (za (zE zhp Y.sorted zbV (za (qc 4) zd)) zd)))
   (zg (zO 7 c__law_town.nd (zcO zd))
   (zg (zbO PassesOwn.never rfl (zbY Y.range (za (qv 2) zd)) (zcG 8 c__law_town.nd) (zm (zbK (zdS PySem.F.plainAttrs_list PySem.F.slot_list_extend PySem.F.type_list_extend zgB (qv 7) (za (zb6 (src:=[none,some 0,some 8,some 6]) o__law_town_1 rfl rfl (zbY Y.range (za (qc 8) zd)) (λ_ _ _ _ _=>(zr 0 o__law_town_1.nd)) (λ_ _ _ _ _=>(zd6 (zC zgw (zn G__law_take (hr.mono (by decide)) Y._law_take.mg Y._law_take.kp Y._law_take.b .nil zq (za (qc 1) (za zf zd))) zf))) (λ_ _ _ _ _=>(zD (za (zN (zhl (K:=K) rfl) (qc 3) (qv 0)) (za (zN (zhl (K:=K) rfl) (qc 3) (qc 2)) zd))))) zd)))))
   (zg (zpR 9 10 c__law_town.nd (za (zcO zd) (za (zcO zd) zd)))
   (zg (zbO PassesOwn.never rfl (zbD (qc 6)) (zcG 11 c__law_town.nd) (zg (zO 12 c__law_town.nd (zS zjw (zb6 (src:=[none,some 11,some 4]) o__law_town_2 rfl rfl (zeo (qc 4)) (λ_ _ _ _ _=>(zr 0 o__law_town_2.nd)) (λ_ _ _ _ _=>(zd6 (t_w (zr6 (zC zgr (qv 0) (qc 1)) (zrh (zC zgr (qv 0) (zN (znd (K:=K) rfl) (qc 2) zf))))))) (λ_ _ _ _ _=>(qv 0))) (zcO (za (zN ix_list (qv 3) (zma zfi zf)) zd))))
   (zg (zbK (zdS PySem.F.plainAttrs_list PySem.F.slot_list_append PySem.F.type_list_append zan (qv 9) (za (zn G__law_likings (hr.mono (by decide)) Y._law_likings.mg Y._law_likings.kp Y._law_likings.b .nil zq (za (qc 0) (za (qv 3) (za (qv 5) (za (zN ix_list (qv 12) (zS zfe (zn G__law_take (hr.mono (by decide)) Y._law_take.mg Y._law_take.kp Y._law_take.b .nil zq (za (qc 0) (za (zE zae Y.len zbL (za (qv 12) zd)) zd))) zf)) zd))))) zd)))
   (zm (zbK (zdS PySem.F.plainAttrs_list PySem.F.slot_list_append PySem.F.type_list_append zan (qv 10) (za (zn G__law_hands (hr.mono (by decide)) Y._law_hands.mg Y._law_hands.kp Y._law_hands.b .nil zq (za (qc 0) (za (qv 3) (za (qv 5) (za (zN ix_list (qc 4) zf) zd))))) zd)))))))
   (zm (zz (zD (za (zN ix_list (qc 4) zf) (za (qc 6) (za (zL zF Y.tuple zay (za (zE zf0 Y.sorted zbV (za (qv 7) zd)) zd)) (za (zL zF Y.tuple zay (za (qv 9) zd)) (za (zL zF Y.tuple zay (za (qv 10) zd)) zd)))))))))))))))),?_⟩
  refine vr rfl (vr rfl ⟨a,n,hH,by omega, .inl (ex2 b _ ⟨rfl,nb,SqL.of hb,by rw[ζa];exact z0,by rw[ζa];omega,λv H2 hv hH2 kp2=>?_⟩)⟩)
  obtain⟨m,rfl,m1,mM⟩:∃m:Nat,v= .int (m:Int)/\1<=m/\m<=M:=by
   obtain⟨z,hzz,rfl⟩:=List.mem_map.mp hv
   obtain⟨h1,h2⟩:=hz z hzz
   exact⟨z.toNat,by congr 1;omega,by omega,by omega⟩
  refine vr rfl (vr rfl (ex2 _ _ ⟨rfl,rfl,a,n+1,m+2,by push_cast;rfl,hH2,by omega,by omega,λln xs H3 hln hl3 hlen hxn hxd hxw hH3 k3=>?_⟩))
  have nln:ln≠a:=hH2.ne hln
  refine vr rfl (vr rfl (vr rfl (ex2 ln _ ⟨rfl,SqL.of hl3,λp1 hp1=>?_⟩)))
  have S1:Same H3 (upd H3 p1 (.lst (zbB (xs.map V.str) none (some (m:Int))))):=Same.new hp1
  refine vr rfl (vr rfl (vr rfl (ex2 ln _ ⟨rfl,SqL.of (S1 _ _ hl3),λp2 hp2=>⟨few rfl,λp3 hp3=>?_⟩⟩)))
  have S2:=Same.new (o:= .lst (zbB (xs.map V.str) (some (m:Int)) none)) hp2
  have S3:=Same.new (o:= .tup [V.ref p1,V.ref p2]) hp3
  have S13:=(S1.trans S2).trans S3
  have hp1':=S3 _ _ (S2 _ _ (zb (H:=H3) (a:=p1) (o:= .lst (zbB (xs.map V.str) none (some (m:Int))))))
  have hp2':=S3 _ _ (zb (H:=upd H3 p1 (.lst (zbB (xs.map V.str) none (some (m:Int))))) (a:=p2) (o:= .lst (zbB (xs.map V.str) (some (m:Int)) none)))
  refine ex2 p3 _ ⟨rfl, .inl (.inl zb),rfl,ex2 _ _ ⟨rfl,ex2 _ _ ⟨rfl,rfl,?_⟩⟩⟩
  have hl4:=S13 _ _ hl3
  have hH4:=hH3.same S13
  have np1:p1≠a:=hH3.ne hp1
  have np2:p2≠a:=(hH3.same S1).ne hp2
  have kp4:=(kp2.trans k3).trans (Keep.of S13)
  generalize (upd (upd (upd H3 p1 (HO.lst (zbB (xs.map V.str) none (some (m:Int))))) p2 (HO.lst (zbB (xs.map V.str) (some (m:Int)) none))) p3 (HO.tup [V.ref p1,V.ref p2]))=H4 at *
  rw[zlK,←List.map_take] at hp1'
  rw[zfm,←List.map_drop] at hp2'
  have hth:(xs.take m).length=m:=by rw[ζl];omega
  have htn:∀x∈xs.take m,zh x=true:=λx hx=>hxn x (ξu hx)
  have htd:(xs.take m).Nodup:=hxd.sublist (List.take_sublist m xs)
  have hdn:∀x∈xs.drop m,zh x=true:=λx hx=>hxn x (List.mem_of_mem_drop hx)
  have hdl:(xs.drop m).length=2:=by rw[ζq];omega
  have hto:∀x∈xs.take m,x∈xs:=λx hx=>ξu hx
  have hdo:∀x∈xs.drop m,x∈xs:=λx hx=>List.mem_of_mem_drop hx
  generalize xs.take m=hs at *
  generalize xs.drop m=ms at *
  have NLn:NL xs H4 ln:=⟨xs,hl4,by omega,by omega,λx hx=>⟨hxn x hx,hx⟩⟩
  have NLm:NL xs H4 p2:=⟨ms,hp2',by omega,by omega,λx hx=>⟨hdn x hx,hdo x hx⟩⟩
  obtain⟨g,hs0,rfl⟩:∃g hs0,hs=g::hs0:=by
   cases hs with
   |nil=>rw[List.length_nil] at hth;omega
   |cons g hs0=>exact ⟨g,hs0,rfl⟩
  have hg:g∈g::hs0:=ζo
  refine vr rfl (ex2 p1 (g::hs0) ⟨rfl,SqL.of hp1',by omega,htd,λhs' l hperm hrise hl=>(ex2 l _ ⟨rfl, .inl ⟨SqL.of zb,λpr hpr=>?_⟩⟩)⟩)
  have S8:Same H4 (upd (upd H4 l (.lst (hs'.map V.str))) pr (.tup (hs'.map V.str))):=(Same.new hl).trans (Same.new hpr)
  have hpr8:(upd (upd H4 l (.lst (hs'.map V.str))) pr (.tup (hs'.map V.str))) pr=some (.tup (hs'.map V.str)):=zb
  have hlen':hs'.length=m:=by rw[hperm.length_eq];exact hth
  have hH8:=hH4.same S8
  generalize (upd (upd H4 l (HO.lst (hs'.map V.str))) pr (HO.tup (hs'.map V.str)))=H8 at *
  refine⟨few rfl,λlt hlt=>?_⟩
  have nlt:lt≠a:=hH8.ne hlt
  have SL:=Same.new (o:= .lst []) hlt
  have hlt0:upd H8 lt (.lst []) lt=some (.lst []):=zb
  have hH9:=hH8.same SL
  have npr:pr≠a:=zc3 hH8 hpr8
  have plt:pr≠lt:=ze hpr8 hlt
  have hpr9:=SL _ _ hpr8
  have S49:=S8.trans SL
  have hp19:=S49 _ _ hp1'
  have hl9:=S49 _ _ hl4
  have hp29:=S49 _ _ hp2'
  have n1t:p1≠lt:=ze (S8 _ _ hp1') hlt
  have nnt:ln≠lt:=ze (S8 _ _ hl4) hlt
  have n2t:p2≠lt:=ze (S8 _ _ hp2') hlt
  generalize (upd H8 lt (HO.lst []))=H9 at *
  refine vr rfl ⟨m,rfl,by omega,by omega,?_⟩
  rw[Int.toNat_natCast]
  refine zaU zbZ (λi σ' H'=>(∃o8,σ'=[some (.ref a),some (.ref b),some (.int (m:Int)),some (.ref ln),some (.ref p1),some (.ref p2),some (.ref pr),some (.ref lt),o8,none,none,none,none])/\(∃(vs:List V) (ps:List (Str×Str)),H' lt=some (.lst vs)/\zaq H' vs (ps.map l2)/\TsOk hs' i ps)/\Hand H' a (n+10+10*i)/\(∀c o,c≠a->c≠lt->H9 c=some o->H' c=some o)) ?_ (λ_ _ _ _=>trivial) ?_ ?_
  ·exact ⟨⟨_,rfl⟩,⟨[],[],hlt0,zml,List.nodup_nil,(λp hp=>nomatch hp),ξi _⟩,hH9.mono (by omega),λc o _ _ e=>e⟩
  ·rintro i y σ' H10 hi rfl ⟨⟨o8,rfl⟩,⟨vs,ps,hv10,tp,TS⟩,hH10,k10⟩
   have e0i:(0:Int)+(i:Int)=(i:Int):=by omega
   rw[e0i]
   have him:i<hs'.length:=by omega
   obtain⟨yk,eyk⟩:∃yk,hs'[i]?=some yk:=⟨_,ζd him⟩
   have hpr10:=k10 _ _ npr plt hpr9
   have l45:=TS.len
   have i10:i<=9:=by omega
   have ii:i*i<=81:=Nat.mul_le_mul i10 i10
   refine vr rfl ⟨.inl ⟨rfl,_,SqL.of hv10⟩,vr rfl ⟨i,rfl,by omega,by omega,?_⟩⟩
   rw[Int.toNat_natCast]
   refine zaR zbZ (λlc j ys σ' H'=>(∃o,σ'=[o,some (.ref a),some (.int (i:Int)),some (.ref pr)])/\(∃qs:List (Str×Str),zaq H' ys (qs.map l2)/\(∀q∈qs,q.2=yk/\∃j',j'<j/\hs'[j']?=some q.1)/\qs.Nodup/\qs.length<=j)/\Hand H' a (n+10+10*i+j)/\Keep a H10 H') ?_ (λ_ _ _ _ _ _ _=>trivial) ?_ ?_
   ·exact λlc hlc=>⟨⟨_,rfl⟩,⟨[],zml,(λq hq=>nomatch hq),List.nodup_nil,ξi _⟩,(hH10.new hlc).mono (by omega),Keep.new hlc⟩
   ·rintro lc j y ys σ' H11 hlc hj rfl ⟨⟨o,rfl⟩,⟨qs,tq,hqs,nq,lq⟩,hH11,k11⟩ hlc'
    have e0j:(0:Int)+(j:Int)=(j:Int):=by omega
    rw[e0j]
    have nlc:lc≠a:=hH10.ne hlc
    have hjm:j<hs'.length:=by omega
    obtain⟨xj,exj⟩:∃xj,hs'[j]?=some xj:=⟨_,ζd hjm⟩
    refine vr rfl (ex3 a 7 _ ⟨rfl,hH11,by omega,by decide,by decide,λt H12 _ _ hH12 k12=>(ex2 _ _ ⟨rfl,rfl,vr rfl (zbi (λ_=>?_) (λ_=>?_))⟩)⟩)
    ·have hpr12:=k12 _ _ npr (k11 _ _ npr hpr10)
     have hlc12:=k12 _ _ nlc hlc'
     refine vr rfl (vr rfl ⟨pr,_,(j:Int), .str xj,rfl,rfl, .inl (.inl hpr12),zQ (by rw[ζp,exj];rfl),vr rfl (vr rfl ⟨pr,_,(i:Int), .str yk,rfl,rfl, .inl (.inl hpr12),zQ (by rw[ζp,eyk];rfl),few rfl,λp5 hp5=>?_⟩)⟩)
     have S5:=Same.new (o:= .tup [V.str xj,V.str yk]) hp5
     have hlc13:=S5 _ _ hlc12
     have hyl:ys.length=qs.length:=by rw[tq.1,ζa]
     refine⟨hlc13,zj (by omega),⟨_,rfl⟩,⟨qs ++ [(xj,yk)],?_,?_,?_,?_⟩,?_,?_⟩
     ·rw[ξb]
      have up:∀c zs,upd H12 p5 (.tup [V.str xj,V.str yk]) c=some (.tup zs)->upd (upd H12 p5 (.tup [V.str xj,V.str yk])) lc (.lst (ys ++ [.ref p5])) c=some (.tup zs):=λc zs e=>by rw[zi (zca e hlc13 (λz=>nomatch z))];exact e
      exact zkB (zdy tq λc zs e=>up _ _ (S5 _ _ (zlZ hH11 k12 _ _ e))) (zpH (up _ _ zb))
     ·intro q hq
      rcases List.mem_append.mp hq with hq|hq
      ·obtain ⟨h1,j',h2,h3⟩:=hqs q hq
       exact⟨h1,j',by omega,h3⟩
      ·rw[List.mem_singleton.mp hq];exact⟨rfl,j,by omega,exj⟩
     ·refine List.nodup_append.mpr ⟨nq,by simp,λq hq q' hq' z=>?_⟩
      rw[List.mem_singleton.mp hq'] at z
      obtain⟨_,j',h2,h3⟩:=hqs q hq
      rw[z,←exj] at h3
      have:=(List.getElem?_inj (by omega) (zjH hrise)).mp h3
      omega
     ·rw[ζe];show qs.length+1<=_;omega
     ·exact ((hH12.same S5).updNe nlc).mono (by omega)
     ·exact Keep.updNew ((k11.trans k12).trans (Keep.of S5)) hlc
    ·refine ⟨k12 _ _ nlc hlc',⟨_,rfl⟩,⟨qs,zdy tq (zlZ hH11 k12),λq hq=>?_,nq,by omega⟩,hH12.mono (by omega),k11.trans k12⟩
     obtain⟨h1,j',h2,h3⟩:=hqs q hq
     exact⟨h1,j',by omega,h3⟩
   ·rintro lc ys σ' H11 hlc ⟨⟨o,rfl⟩,⟨qs,tq,hqs,nq,lq⟩,hH11,k11⟩ hlc'
    have hv11:=k11 _ _ nlt hv10
    have hyl:ys.length=qs.length:=by rw[tq.1,ζa]
    have hvl:vs.length=ps.length:=by rw[tp.1,ζa]
    refine ex4 lt lc _ _ ⟨rfl,rfl,hv11,hlc',ξg (zj (by omega)),⟨_,rfl⟩,⟨_,ps ++qs,zb,?_,zoG hrise TS eyk hqs nq lq⟩,?_,?_⟩
    ·rw[ξb]
     have up:∀c zs,H11 c=some (.tup zs)->upd H11 lt (.lst (vs ++ys)) c=some (.tup zs):=λc zs e=>by rw[zi (zca e hv11 (λz=>nomatch z))];exact e
     exact zkB (zdy tp λc zs e=>up _ _ (zlZ hH10 k11 _ _ e)) (zdy tq up)
    ·exact (hH11.updNe nlt).mono (by rw[show((i+1:Nat):Int)=(i:Int)+1 by omega];omega)
    ·exact λc o c1 c2 e=>by rw[zi c2];exact k11 _ _ c1 (k10 c o c1 c2 e)
  ·rintro σ' H10 ⟨⟨o8,rfl⟩,⟨vt,ps,hv10,tp,TS⟩,hH10,k10⟩
   have hpr10:=k10 _ _ npr plt hpr9
   have hp110:=k10 _ _ np1 n1t hp19
   have hl10:=k10 _ _ nln nnt hl9
   have hp210:=k10 _ _ np2 n2t hp29
   have NLn10:NL xs H10 ln:=⟨xs,hl10,by omega,by omega,λx hx=>⟨hxn x hx,hx⟩⟩
   have NLm10:NL xs H10 p2:=⟨ms,hp210,by omega,by omega,λx hx=>⟨hdn x hx,hdo x hx⟩⟩
   have kp10:Keep a H H10:=by
    intro c o c1 e
    have h9:=S49 _ _ (kp4 _ _ c1 e)
    refine k10 _ _ c1 (λz=>?_) h9
    have h8:=S8 _ _ (kp4 _ _ c1 e)
    rw[z,hlt] at h8;cases h8
   have kv10:=tp
   refine⟨few rfl,λla hla=>⟨few rfl,λlb hlb=>(ex2 _ _ ⟨rfl,?_⟩)⟩⟩
   have SA:=Same.new (o:= .lst []) hla
   have SB:=Same.new (o:= .lst []) hlb
   have nla:la≠a:=hH10.ne hla
   have nlb:lb≠a:=(hH10.same SA).ne hlb
   have hla11:=SB _ _ (zb (H:=H10) (a:=la) (o:= .lst []))
   have hlb11:upd (upd H10 la (.lst [])) lb (.lst []) lb=some (.lst []):=zb
   have nab:la≠lb:=ze (zb (H:=H10) (a:=la) (o:= .lst [])) hlb
   have S11:=SA.trans SB
   have hH11:=hH10.same S11
   have lax:∀c o,H10 c=some o->c≠la:=λc o e=>ze e hla
   have lbx:∀c o,H10 c=some o->c≠lb:=λc o e=>ze (SA _ _ e) hlb
   generalize (upd (upd H10 la (HO.lst [])) lb (HO.lst []))=H11 at *
   refine vr rfl ⟨pr,rfl,⟨_, .inl (.inl (S11 _ _ hpr10))⟩,?_⟩
   refine zaU (zaI (K:=K) (xs:=hs'.map V.str)) (λi σ' H'=>(∃o11 o12,σ'=[some (.ref a),some (.ref b),some (.int (m:Int)),some (.ref ln),some (.ref p1),some (.ref p2),some (.ref pr),some (.ref lt),o8,some (.ref la),some (.ref lb),o11,o12])/\Gat xs H' la lb i/\Hand H' a (n+200+900*i)/\(∀c o,c≠a->c≠la->c≠lb->H11 c=some o->H' c=some o)) ?_ ?_ ?_ ?_
   ·exact ⟨(ex2 _ _ rfl),⟨[],[],[],[],hla11,hlb11, .nil, .nil,rfl,rfl,(λd hd=>nomatch hd),(λd hd=>nomatch hd)⟩,hH11.mono (by omega),λc o _ _ _ e=>e⟩
   ·exact λi σ' H' z=> .inl (.inl (z.2.2.2 _ _ npr (lax _ _ hpr10) (lbx _ _ hpr10) (S11 _ _ hpr10)))
   ·rintro i y σ' H12 hi hy ⟨⟨o11,o12,rfl⟩,⟨v1,v2,d1,d2,g1,g2,r1,r2,l1,l2',q1,q2⟩,hH12,k12⟩
    rw[ζa] at hi
    rw[ζp] at hy
    obtain⟨x,ex,rfl⟩:∃x,hs'[i]?=some x/\y= .str x:=by
     cases e:hs'[i]? with
     |none=>rw[e] at hy;cases hy
     |some x=>rw[e] at hy;cases hy;exact⟨x,rfl,rfl⟩
    have kk:∀c o,c≠a->H10 c=some o->H12 c=some o:=λc o c1 e=>k12 c o c1 (lax _ _ e) (lbx _ _ e) (S11 _ _ e)
    have hp112:=kk _ _ np1 hp110
    have hl12:=kk _ _ nln hl10
    have NLn12:NL xs H12 ln:=⟨xs,hl12,by omega,by omega,λx hx=>⟨hxn x hx,hx⟩⟩
    have NLm12:NL xs H12 p2:=⟨ms,kk _ _ np2 hp210,by omega,by omega,λx hx=>⟨hdn x hx,hdo x hx⟩⟩
    obtain⟨xi,z,exz⟩:∃xi z,xs=xi ++ [z]:=by
     cases e:xs.getLast? with
     |none=>rw[List.getLast?_eq_none_iff] at e;rw[e] at hlen;simp at hlen
     |some z=>obtain ⟨xi,e⟩:=List.getLast?_eq_some_iff.mp e;exact⟨xi,z,e⟩
    have hzx:z∈xs:=by rw[exz];exact ξl _ ζo
    have ezI:atI (xs.map V.str) (-1)=some (.str z):=by rw[exz,ξb];exact zl1 _ _
    refine vr rfl ⟨p1,rfl,⟨_,SqL.of hp112⟩,?_⟩
    refine zaR (zdi (K:=K) (xs:=(g::hs0).map V.str)) (λlc j ys σ' H'=>(∃o,σ'=[o,some (.str x),some (.ref p1)])/\(∃zs:List Str,ys=zs.map V.str/\zs.length<=j/\∀z∈zs,z∈g::hs0)/\Same H12 H') ?_ ?_ ?_ ?_
    ·exact λlc hlc=>⟨⟨_,rfl⟩,⟨[],rfl,ξi _,λz hz=>nomatch hz⟩,Same.new hlc⟩
    ·exact λlc j ys σ' H' hlc z=>SqL.of (z.2.2 _ _ hp112)
    ·rintro lc j y ys σ' H13 hlc hj hy ⟨⟨o,rfl⟩,⟨zs,rfl,lz,hzs⟩,s13⟩ hlc'
     rw[ζa] at hj
     rw[ζp] at hy
     obtain⟨u,eu,rfl⟩:∃u,(g::hs0)[j]?=some u/\y= .str u:=by
      cases e:(g::hs0)[j]? with
      |none=>rw[e] at hy;cases hy
      |some u=>rw[e] at hy;cases hy;exact⟨u,rfl,rfl⟩
     have hp113:=s13 _ _ hp112
     refine vr rfl (vr rfl ⟨rfl,vr rfl (zbi (λ_=>?_) (λ_=>?_))⟩)
     ·refine vr rfl (vr rfl (ixL hp113 at0 ⟨rfl,vr rfl (zbi (λ_=>?_) (λ_=>?_))⟩))
      ·refine vr rfl ⟨hlc',zj (by rw[ζa];omega),⟨_,rfl⟩,⟨zs ++ [u],by rw[ξb];rfl,by rw[ζe];show zs.length+1<=_;omega,λz hz=>?_⟩,λc o e=>by rw[zi (ze e hlc)];exact s13 c o e⟩
       rcases List.mem_append.mp hz with hz|hz
       ·exact hzs z hz
       ·rw[List.mem_singleton.mp hz];exact ζk eu
      ·exact ⟨hlc',⟨_,rfl⟩,⟨zs,rfl,by omega,hzs⟩,s13⟩
     ·exact ⟨hlc',⟨_,rfl⟩,⟨zs,rfl,by omega,hzs⟩,s13⟩
    rintro lc ys σ' H13 hlc ⟨⟨o,rfl⟩,⟨zs,rfl,lz,hzs⟩,s13⟩ hlc'
    rw[ζa,hth] at lz
    refine vr rfl ⟨1,rfl,ixL (s13 _ _ hl12) ezI ⟨few rfl,λp5 hp5=>?_⟩⟩
    have S5:=Same.new (o:= .lst [V.str z]) hp5
    refine ex4 lc p5 _ _ ⟨rfl,rfl,S5 _ _ hlc',zb,ξg (zj (by rw[ζa];show _+1<=_;omega)),λp6 hp6=>?_⟩
    have S6:=Same.new (o:= .lst (zs.map V.str ++ [V.str z])) hp6
    have s16:=(s13.trans S5).trans S6
    have e6:(upd (upd H13 p5 (.lst [V.str z])) p6 (.lst (zs.map V.str ++ [V.str z]))) p6=some (.lst ((zs ++ [z]).map V.str)):=by rw[zb,ξb];rfl
    generalize (upd (upd H13 p5 (HO.lst [V.str z])) p6 (HO.lst (zs.map V.str ++ [V.str z])))=H14 at *
    have hH14:=hH12.same s16
    have hzo:∀u∈zs ++ [z],zh u=true/\u∈xs:=λu hu=>by
     rcases List.mem_append.mp hu with hu|hu
     ·exact ⟨htn u (hzs u hu),hto u (hzs u hu)⟩
     ·rw[List.mem_singleton.mp hu];exact⟨hxn z hzx,hzx⟩
    have n6:p6≠a:=λq=>by
     obtain⟨x1,x2,x3,h3,_⟩:=hH14
     rw[q,h3] at e6
     have e6:=ξh e6
     injection e6 with e6
     cases zs with
     |nil=>cases e6
     |cons _ _=>cases e6
    have g1':=s16 _ _ g1
    refine vr rfl ⟨.inl ⟨rfl,_,SqL.of g1'⟩,?_⟩
    refine vr rfl (vr rfl (vr rfl (vr rfl (vr rfl (vr rfl (.inl (ex2 p6 _ ⟨rfl, .inl (SqL.of e6),?_⟩)))))))
    refine ex3 a _ _ ⟨rfl,hH14,by omega,by rw[ζa,ζe];show(0:Int)<((_+1:Nat):Int);omega,by rw[ζa,ζe];show((_+1:Nat):Int)<_;omega,λd H15 dd0 dd1 hH15 k15=>?_⟩
    rw[ζa] at dd1
    have e15:=k15 _ _ n6 e6
    obtain⟨vo,evo,hvo⟩:=ze7 (xs:=(zs ++ [z]).map V.str) (d:=d/2) (by omega) (by rw[ζa];omega)
    obtain⟨u,hu,rfl⟩:=List.mem_map.mp hvo
    refine ex2 _ _ ⟨rfl,rfl,⟨by omega,by omega⟩,ixL e15 evo ?_⟩
    have k125:Keep a H12 H15:=(Keep.of s16).trans k15
    obtain⟨un,uO⟩:=hzo u hu
    refine ex4 a ln p2 _ (ex2 u xs ⟨rfl,hH15,by omega,NLn12.keep k125 nln,NLm12.keep k125 np2,nln,np2,un,uO,λvl dl H16 rl ll gl hH16 k16=>?_⟩)
    have k126:=k125.trans k16
    have m126:Mono H12 H16:= .keep k126 hH12 hH16
    have g16:=k126 _ _ nla g1
    have hv1:=r1.1
    refine ex3 la _ _ ⟨rfl,rfl,g16,zj (by omega),?_⟩
    have g26:upd H16 la (.lst (v1 ++ [vl])) lb=some (.lst v2):=by rw[zi (Ne.symm nab)];exact k126 _ _ nlb g2
    have hH17:=hH16.updNe (o:= .lst (v1 ++ [vl])) nla
    have m17:Mono H16 (upd H16 la (.lst (v1 ++ [vl]))):= .lset g16
    have r1':RepL (upd H16 la (.lst (v1 ++ [vl]))) (v1 ++ [vl]) (d1 ++ [.tup dl]):=RepL.mono (.append (r1.mono m126) (.cons rl .nil)) m17
    have r2':=(r2.mono m126).mono m17
    have g17:upd H16 la (.lst (v1 ++ [vl])) la=some (.lst (v1 ++ [vl])):=zb
    have kk17:∀c o,c≠a->c≠la->H12 c=some o->upd H16 la (.lst (v1 ++ [vl])) c=some o:=λc o c1 c2 e=>by rw[zi c2];exact k126 _ _ c1 e
    generalize (upd H16 la (HO.lst (v1 ++ [vl])))=H17 at *
    have NLn17:NL xs H17 ln:=⟨xs,kk17 _ _ nln (lax _ _ hl10) hl12,by omega,by omega,λx hx=>⟨hxn x hx,hx⟩⟩
    have NLm17:NL xs H17 p2:=⟨ms,kk17 _ _ np2 (lax _ _ hp210) (kk _ _ np2 hp210),by omega,by omega,λx hx=>⟨hdn x hx,hdo x hx⟩⟩
    refine vr rfl ⟨.inl ⟨rfl,_,SqL.of g26⟩,?_⟩
    refine vr rfl (vr rfl (vr rfl (vr rfl (ixL (kk17 _ _ np1 (lax _ _ hp110) hp112) at0 ?_))))
    refine ex4 a ln p2 _ (ex2 g xs ⟨rfl,hH17,by omega,NLn17,NLm17,nln,np2,htn g hg,hto g hg,λvh dh H18 rh lh gh hH18 k18=>?_⟩)
    have m18:Mono H17 H18:= .keep k18 hH17 hH18
    have g28:=k18 _ _ nlb g26
    have g18:=k18 _ _ nla g17
    have hv2:=r2.1
    refine ex3 lb _ _ ⟨rfl,rfl,g28,zj (by omega),(ex2 _ _ rfl),⟨v1 ++ [vl],v2 ++ [vh],d1 ++ [.tup dl],d2 ++ [.tup dh],by rw[zi nab];exact g18,zb,(r1'.mono m18).mono (.lset g28),RepL.mono (.append (r2'.mono m18) (.cons rh .nil)) (.lset g28),by rw[ζe,l1];rfl,by rw[ζe,l2'];rfl,λd hd=>?_,λd hd=>?_⟩,?_,λc o c1 c2 c3 e=>?_⟩
    ·rcases List.mem_append.mp hd with hd|hd
     ·exact q1 d hd
     ·rw[List.mem_singleton.mp hd];exact zf6 rfl ll gl
    ·rcases List.mem_append.mp hd with hd|hd
     ·exact q2 d hd
     ·rw[List.mem_singleton.mp hd];exact zid rfl lh gh
    ·exact (hH18.updNe nlb).mono (by rw[show((i+1:Nat):Int)=(i:Int)+1 by omega];omega)
    ·rw[zi c3];exact k18 _ _ c1 (kk17 _ _ c1 c2 (k12 c o c1 c2 c3 e))
   ·rintro σ' H12 ⟨⟨o11,o12,rfl⟩,⟨v1,v2,d1,d2,g1,g2,r1,r2,l1,l2',q1,q2⟩,hH12,k12⟩
    rw[ζa] at l1 l2' hH12
    have kk:∀c o,c≠a->H10 c=some o->H12 c=some o:=λc o c1 e=>k12 c o c1 (lax _ _ e) (lbx _ _ e) (S11 _ _ e)
    have hp112:=kk _ _ np1 hp110
    have lps:ps.length<=50:=by
     have:=TS.len
     have mm:m*m<=100:=Nat.mul_le_mul (show m<=10 by omega) (show m<=10 by omega)
     omega
    have tp12:=zdy tp λc zs e=>kk c _ (zc3 hH10 e) e
    refine vr rfl (ixL hp112 at0 (vr rfl ?_))
    refine vr rfl ⟨lt,vt,ps.map l2,rfl, .inl (SqL.of (kk _ _ nlt hv10)),tp12,λq hq=>?_,by rw[ζa];omega,λps' vs' ls hperm2 hpw hat hls=>?_⟩
    ·obtain ⟨p,_,rfl⟩:=List.mem_map.mp hq;exact Nat.zero_lt_two
    obtain⟨ps2,rfl,hpp⟩:=zkF hperm2
    refine ex2 ls vs' ⟨rfl, .inl ⟨SqL.of zb,λpt hpt=>?_⟩⟩
    have S14:Same H12 (upd (upd H12 ls (.lst vs')) pt (.tup vs')):=(Same.new hls).trans (Same.new hpt)
    have tt14:(upd (upd H12 ls (.lst vs')) pt (.tup vs')) pt=some (.tup vs'):=zb
    have hat14:=zdy hat λc zs e=>S14 _ _ e
    have hH14:=hH12.same S14
    generalize (upd (upd H12 ls (HO.lst vs')) pt (HO.tup vs'))=H14 at *
    refine vr rfl (ex2 la v1 ⟨rfl, .inl ⟨SqL.of (S14 _ _ g1),λpA hpA=>?_⟩⟩)
    have SA':=Same.new (o:= .tup v1) hpA
    refine vr rfl (ex2 lb v2 ⟨rfl, .inl ⟨SqL.of (SA' _ _ (S14 _ _ g2)),λpB hpB=>?_⟩⟩)
    have SB':=Same.new (o:= .tup v2) hpB
    refine⟨few rfl,λpT hpT=>?_⟩
    have tsl:=TS.lt hrise
    have hps2:∀p∈ps2,p.1∈hs'/\p.2∈hs'/\ltS p.1 p.2=true:=λp hp=>tsl p (hpp.mem_iff.mp hp)
    have hnm:∀x∈hs',zh x=true:=λx hx=>htn x (hperm.mem_iff.mp hx)
    have rr:Rep H14 (.ref pr) (.tup (hs'.map D.str)):= .mkL (S14 _ _ (kk _ _ npr hpr10)) (by rw[ζa];omega) (zdQ λx hx=>zA (hnm x hx))
    have rt:Rep H14 (.ref pt) (.tup (ps2.map pairD)):= .mkL tt14 (by rw[ζa,hpp.length_eq];omega) (zro hat14 λp hp=>⟨hnm _ (hps2 p hp).1,hnm _ (hps2 p hp).2.1⟩)
    have SC:=Same.new (o:= .tup [.str g, .ref pr, .ref pt, .ref pA, .ref pB]) hpT
    have sA:Same H14 (upd (upd (upd H14 pA (.tup v1)) pB (.tup v2)) pT (.tup [.str g, .ref pr, .ref pt, .ref pA, .ref pB])):=(SA'.trans SB').trans SC
    have rA:Rep (upd (upd (upd H14 pA (.tup v1)) pB (.tup v2)) pT (.tup [.str g, .ref pr, .ref pt, .ref pA, .ref pB])) (.ref pA) (.tup d1):= .mkL (SC _ _ (SB' _ _ zb)) (by omega) ((r1.mono (.of S14)).mono (.of sA))
    have rB:Rep (upd (upd (upd H14 pA (.tup v1)) pB (.tup v2)) pT (.tup [.str g, .ref pr, .ref pt, .ref pA, .ref pB])) (.ref pB) (.tup d2):= .mkL (SC _ _ zb) (by omega) ((r2.mono (.of S14)).mono (.of sA))
    have rtown:=Rep.mkL (H:=upd (upd (upd H14 pA (.tup v1)) pB (.tup v2)) pT (.tup [.str g, .ref pr, .ref pt, .ref pA, .ref pB])) (p:=pT) (vs:=[.str g, .ref pr, .ref pt, .ref pA, .ref pB]) (ds:=[.str g, .tup (hs'.map D.str), .tup (ps2.map pairD), .tup d1, .tup d2]) zb (Nat.le_of_ble_eq_true rfl) (.cons (.str g (zA (htn g hg))) (.cons (rr.same sA) (.cons (rt.same sA) (.cons rA (.cons rB .nil)))))
    have pw2:ps2.Pairwise (λa b=>ltP a b=true):=by
     have:=hpw (by
      refine List.pairwise_map.mpr (TS.nd.imp λh z=>h (zmC z)))
     rw[List.pairwise_map] at this
     exact this.imp λh=>by rw[←zko];exact h
    refine q _ g hs' ps2 d1 d2 _ rtown ⟨hrise,by omega,by omega,hnm,hperm.mem_iff.mpr hg,pw2,hps2,by omega,by omega,λd hd=>(q1 d hd).1,λd hd=>(q2 d hd).1⟩ ⟨xs,by omega,hxn,λx hx=>hto x (hperm.mem_iff.mp hx),λd hd=>(q1 d hd).2.1,λd hd=>(q2 d hd).2.1⟩ (by omega) ?_ (λd hd=>(q1 d hd).2.2) (λd hd=>(q2 d hd).2.2) ?_ ?_
    ·rw[hpp.length_eq];exact ξa TS.len (Nat.mul_le_mul (by omega) (by omega))
    ·exact (hH14.same sA).mono (by omega)
    ·exact (kp10.trans λc o c1 e=>kk c o c1 e).trans (Keep.of (S14.trans sA))
end
section
variable{P:Program}{w:World}{K:ξk}{mg:Str->Option Value}{base:Heap}
theorem zdv{k:Nat}{c:D->Bool}{g:List Str->List Str->Option Str->D->Bool}(Y:Ev K mg)(G_holds:FnOk P w K mg base CX0 k Y.a_holds Y.d_holds zbQ (zdP c g))(c':D->Bool)(g':List Str->List Str->Option Str->D->Bool)
 (hc:∀d,c' d=true->∃x e,d= .tup [.str x,e]) (h1:∀ws ms to x e,c' (.tup [.str x,e])=true->x="not"->c e=true/\(!g ws ms to e)=g' ws ms to (.tup [.str x,e]))
 (h2:∀x e,c' (.tup [.str x,e])=true->¬x="not"->zB (.tup [.str x,e])=true/\∀ws ms to,phB ws ms to x e=g' ws ms to (.tup [.str x,e])):
 FnOk P w K mg base CX0 (k+1) Y.a_holds Y.d_holds zbQ (zdP c' g'):=by
 refine Y.holds.fn.okQ c_holds (λvs H Q E h=>?_) (λcdv A outer s H vs Q E hr h=>?_)
 ·obtain ⟨v,d,pw,pm,vt,ws,ms,to,rfl,_⟩:=h;rfl
 ·obtain ⟨v,d,pw,pm,vt,ws,ms,to,rfl,hd,hcd,hpw,hpm,hto,nw,nm,w1,lw,lm,q⟩:=h
  obtain⟨x,e,rfl⟩:=hc d hcd
  obtain⟨p,v0,v1,rfl,hp,r0,r1⟩:=hd.of2
  cases r0 with
  |str _ hx=>
  refine⟨_,(zg (zgs (qv 0) (zdx 2 rfl (zu (zr 4 c_holds.nd) (zu (zr 5 c_holds.nd) zbe))))
   (zg (zaP (zC z5 (qv 4) zah) (zm (zz (zpM (zn G_holds hr Y.holds.mg Y.holds.kp Y.holds.b .nil zq (za (qv 5) (za (qv 1) (za (qv 2) (za (qv 3) zd)))))))) zab)
   (zg (zaP (zC z5 (qv 4) zah) (zm (zz (zbH zcv (qv 5) (qv 1)))) zab)
   (zg (zaP (zC z5 (qv 4) zah) (zm (zz (zpT (zbH zgw (zE zae Y.len zbL (za (qv 1) zd)) zf) (zps (zbH z5 (zN ix_tup (qv 1) zf) (qv 5)))))) zab)
   (zg (zaP (zC z5 (qv 4) zah) (zm (zz (zbH z5 (qv 3) (qv 5)))) zab)
   (zg (zaP (zC z5 (qv 4) zah) (zm (zz (zbH zcv (qv 5) (qv 2)))) zab)
   (zm (zz (zbH zpu (zS znk (zE zae Y.len zbL (za (qv 1) zd)) zf) (qv 5)))))))))),?_⟩
  refine vr rfl (ex2 p _ ⟨rfl, .inl (.inl hp),rfl,ex2 _ _ ⟨rfl,ex2 _ _ ⟨rfl,rfl,?_⟩⟩⟩)
  refine vr rfl ⟨rfl,vr rfl (zbi (λel=>?_) (λel=>?_))⟩
  ·obtain ⟨ce,ge⟩:=h1 ws ms to x e hcd (V.str.inj (ζh el))
   refine vr rfl (vr rfl (vr rfl (vr rfl (ex8 v1 e pw pm vt ws ms to ⟨rfl,r1,ce,hpw,hpm,hto,nw,nm,w1,lw,lm,λH' s'=>(vr rfl ?_)⟩))))
   have q:=q H' s'
   rw[←ge] at q
   exact q
  have q:=q H (Same.refl H)
  obtain⟨hpl,ge⟩:=h2 x e hcd λz=>el (ζf (by rw[z]))
  rw[←ge ws ms to] at q
  have bad:∀{y z:Str},y=z->¬decide (V.str y=V.str z)=true->False:=λe h=>h (by rw[e];exact ζf rfl)
  refine vr rfl ⟨rfl,vr rfl (zbi (λe1=>?_) (λe1=>?_))⟩
  ·have e1:=V.str.inj (ζh e1)
   subst e1
   rcases zZ hpl with⟨z,_⟩|⟨_,y,rfl,ny⟩
   ·exact absurd z (by decide +kernel)
   cases r1 with|str _ _=>
   rw[zpV,←zeg] at q
   exact vr rfl (vr rfl (ex2 pw _ ⟨rfl, .inr (.inl (.inl hpw)),rfl,zck,q⟩))
  refine vr rfl ⟨rfl,vr rfl (zbi (λe2=>?_) (λe2=>?_))⟩
  ·have e2:=V.str.inj (ζh e2)
   subst e2
   rcases zZ hpl with⟨z,_⟩|⟨_,y,rfl,ny⟩
   ·exact absurd z (by decide +kernel)
   cases r1 with|str _ _=>
   rw[zjI] at q
   refine vr rfl (.inl (ex2 pw _ ⟨rfl, .inr (.inl (.inl hpw)),ex2 _ _ ⟨rfl,rfl,vr rfl ?_⟩⟩))
   match ws,hpw,q with
   |[],hpw,q=>exact zbq rfl q
   |[a],hpw,q=>exact zbq rfl q
   |a::b::r,hpw,q=>
    refine zbP (ζf (by rw[ζa,ζv,ζv];omega)) ?_
    refine vr rfl (ixT hpw at1 (vr rfl ⟨rfl,?_⟩))
    rw[zbI]
    have eb:decide ((a::b::r)[1]?=some y)=decide (b=y):=by
     rw[ξd,ζg,ζg];simp
    rw[eb] at q
    exact q
  refine vr rfl ⟨rfl,vr rfl (zbi (λe3=>?_) (λe3=>?_))⟩
  ·have e3:=V.str.inj (ζh e3)
   subst e3
   rcases zZ hpl with⟨z,_⟩|⟨_,y,rfl,ny⟩
   ·exact absurd z (by decide +kernel)
   cases r1 with|str _ _=>
   obtain⟨hsc,hde⟩:=hto.eq (y:=y)
   rw[zpP,←hde] at q
   exact vr rfl (vr rfl ⟨hsc,q⟩)
  refine vr rfl ⟨rfl,vr rfl (zbi (λe4=>?_) (λe4=>?_))⟩
  ·have e4:=V.str.inj (ζh e4)
   subst e4
   rcases zZ hpl with⟨z,_⟩|⟨_,y,rfl,ny⟩
   ·exact absurd z (by decide +kernel)
   cases r1 with|str _ _=>
   rw[zke,←zeg] at q
   exact vr rfl (vr rfl (ex2 pm _ ⟨rfl, .inr (.inl (.inl hpm)),rfl,zck,q⟩))
  rcases zZ hpl with⟨rfl,i,rfl,i0,i9⟩|⟨hn,y,rfl,ny⟩
  ·cases r1 with|int _=>
   rw[zjV] at q
   refine vr rfl (.inl (ex2 pw _ ⟨rfl, .inr (.inl (.inl hpw)),ex2 _ _ ⟨rfl,rfl,vr rfl (ex2 _ _ ⟨rfl,rfl,?_⟩)⟩⟩))
   have eb:decide (i<=((ws.map V.str).length:Int) -1)=decide (i<(ws.length:Int)):=by
    rw[ξd,ζg,ζg,ζa];omega
   rw[←eb] at q
   exact q
  ·rcases zcM hn with z|z|z|z
   ·exact (bad z e1).elim
   ·exact (bad z e2).elim
   ·exact (bad z e3).elim
   ·exact (bad z e4).elim
theorem zk1(Y:Ev K mg):FnOk P w K mg base CX0 1 Y.a_holds Y.d_holds zbQ (zdP (λ_=>false) (λ_ _ _ _=>false)):=by
 refine Y.holds.fn.okQ c_holds (λvs H Q E h=>?_) (λcdv A outer s H vs Q E hr h=>?_)
 ·obtain ⟨v,d,_,_,_,_,_,_,rfl,_,z,_⟩:=h;cases z
 ·obtain ⟨v,d,_,_,_,_,_,_,rfl,_,z,_⟩:=h;cases z
theorem zlN(Y:Ev K mg):FnOk P w K mg base CX0 3 Y.a_holds Y.d_holds zbQ (zdP zw za2):=by
 refine zdv (c:=zB) (g:=zb3) Y ?_ zw za2 zek ?_ ?_
 ·refine zdv Y (zk1 Y) zB zb3 zbu ?_ ?_
  ·intro ws ms to x e h z
   subst z
   exact absurd h (by rw[zci];exact ξe)
  ·exact λx e h _=>⟨h,λ_ _ _=>rfl⟩
 ·intro ws ms to x e h z
  subst z
  rw[zcy,if_pos rfl] at h
  exact⟨h,by show(!zb3 ws ms to e)=(if("not":Str)="not"then !zb3 ws ms to e else phB ws ms to "not" e);rw[if_pos rfl]⟩
 ·intro x e h z
  rw[zcy,if_neg z] at h
  exact⟨h,λws ms to=>by show phB ws ms to x e=(if x="not"then !zb3 ws ms to e else phB ws ms to x e);rw[if_neg z]⟩
end
section
variable{P:Program}{w:World}{K:ξk}{mg:Str->Option Value}{base:Heap}
theorem zeX(Y:Ev K mg):FnOk P w K mg base CX0 4 Y.a_all_hold Y.d_all_hold zaY zjt:=by
 have G_holds:FnOk P w K mg base CX0 3 Y.a_holds Y.d_holds zbQ (zdP zw za2):=zlN Y
 refine Y.all_hold.fn.okQ c_all_hold (λvs H Q E h=>?_) (λcdv A outer s H vs Q E hr h=>?_)
 ·obtain ⟨v,cs,pw,pm,vt,ws,ms,to,rfl,_⟩:=h;rfl
 ·obtain ⟨v,cs,pw,pm,vt,ws,ms,to,rfl,hd,hcs,hpw,hpm,hto,nw,nm,w1,lw,lm,q⟩:=h
  obtain⟨pc,uc,rfl,hpc,rc,_⟩:=hd.ofT
  refine⟨_,(zg (zbO PassesOwn.never rfl (zbD (qv 0)) (zr 4 c_all_hold.nd) (zm (zaP (zmA (ziA (zn G_holds (hr.mono (by decide)) Y.holds.mg Y.holds.kp Y.holds.b .nil zq (za (qv 4) (za (qv 1) (za (qv 2) (za (qv 3) zd))))))) (zm (zz ziY)) zab)))
   (zm (zz ziY))),?_⟩
  refine vr rfl ⟨pc,rfl,⟨_, .inl (.inl hpc)⟩,?_⟩
  refine zaU (zaI (K:=K) (xs:=uc)) (λi σ' H'=>(∃o4,σ'=[some (.ref pc),some (.ref pw),some (.ref pm),some vt,o4])/\(cs.take i).all (za2 ws ms to)=true/\Same H H') ⟨⟨_,rfl⟩,rfl,Same.refl _⟩ (λi σ' H' z=> .inl (.inl (z.2.2 _ _ hpc))) ?_ ?_
  ·rintro i y σ' H1 hi hy ⟨⟨o4,rfl⟩,ha,s1⟩
   obtain⟨c,hc,rcc⟩:=rc.get hy
   have hcm:=ζk hc
   have tk:(cs.take (i+1)).all (za2 ws ms to)=((cs.take i).all (za2 ws ms to)&&za2 ws ms to c):=by
    rw[ξs,hc,List.all_append];simp
   refine vr rfl (vr rfl (vr rfl (vr rfl (ex8 y c pw pm vt ws ms to ⟨rfl,rcc.same s1,hcs c hcm,s1 _ _ hpw,s1 _ _ hpm,hto,nw,nm,w1,lw,lm,λH2 s2=>(vr rfl ?_)⟩))))
   cases hb:za2 ws ms to c with
   |false=>
    have e:zew ws ms to cs=false:=List.all_eq_false.mpr ⟨c,hcm,by rw[hb];decide⟩
    have q:=q H2 (s1.trans s2)
    rw[e] at q
    exact zbP rfl q
   |true=>exact zbq rfl ⟨⟨_,rfl⟩,by rw[tk,ha,hb];rfl,s1.trans s2⟩
  ·rintro σ' H1 ⟨⟨o4,rfl⟩,ha,s1⟩
   rw[rc.1,ξv] at ha
   have q:=q H1 s1
   have e:zew ws ms to cs=true:=ha
   rw[e] at q
   exact q
theorem zf7(Y:Ev K mg):FnOk P w K mg base CX0 1 Y.a_likings_of Y.d_likings_of zbc zrJ:=by
 refine Y.likings_of.fn.okQ zgV (λvs H Q E h=>?_) (λcdv A outer s H vs Q E hr h=>?_)
 ·obtain ⟨v,x,g,hs,ps,lks,hds,j,rfl,_⟩:=h;rfl
 ·obtain ⟨v,x,g,hs,ps,lks,hds,j,rfl,hv,T,hj,q⟩:=h
  obtain⟨p,pr,pt,pl,pa,vt,vl,va,rfl,hp,hpr,hpt,rt,hpl,rl,hpa,ra⟩:=zbx hv
  have hjl:j<hs.length:=by
   rcases ζw j hs.length with y|y
   ·exact y
   ·rw[ζi y] at hj;cases hj
  have hjk:j<lks.length:=by rw[T.ll];exact hjl
  have hjv:j<vl.length:=by rw[rl.1];exact hjk
  refine⟨_,(zm (zz (zN ix_tup (zN ix_tup (qv 0) zf) (zdS PySem.F.plainAttrs_tuple PySem.F.slot_tuple_index PySem.F.type_tuple_index zen (zN ix_tup (qv 0) zf) (za (qv 1) zd))))),?_⟩
  refine vr rfl (ixT hp (zQ (j:=3) rfl) ?_)
  refine vr rfl (ixT hp (zQ (j:=1) rfl) ?_)
  refine⟨.inr (.inr (.inr (.inr ⟨rfl,_,hpr⟩))),vr rfl (ex4 pr hs x j ⟨rfl,rfl, .inl (.inl hpr),hj,zfT T.hs_nd hj,?_⟩)⟩
  exact⟨pl,_,_,vl[j],rfl,rfl, .inl (.inl hpl),zQ (by simp[hjv]),q _ lks[j] (ζd hjk) (rl.2 j _ _ (ζd hjv) (ζd hjk))⟩
theorem zii(Y:Ev K mg):FnOk P w K mg base CX0 5 Y.a_worth Y.d_worth zdj zhk:=by
 have G_all_hold:FnOk P w K mg base CX0 4 Y.a_all_hold Y.d_all_hold zaY zjt:=zeX Y
 have G_likings_of:FnOk P w K mg base CX0 1 Y.a_likings_of Y.d_likings_of zbc zrJ:=zf7 Y
 refine Y.worth.fn.okQ c_worth (λvs H Q E h=>?_) (λcdv A outer s H vs Q E hr h=>?_)
 ·obtain ⟨v,pw,pm,x,ws,ms,g,hs,ps,lks,hds,j,rs,rfl,_⟩:=h;rfl
 ·obtain ⟨v,pw,pm,x,ws,ms,g,hs,ps,lks,hds,j,rs,rfl,hv,T,hj,hlj,hpw,hpm,nw,nm,lw,lm,q⟩:=h
  have hlk:rs.length<=90/\∀r∈rs,zW r=true:=by
   have h:=T.likes _ (ζk hlj)
   have h:(decide (rs.length<=90)&&rs.all zW)=true:=h
   rw[ζs] at h
   exact⟨ζh h.1,List.all_eq_true.mp h.2⟩
  refine⟨_,(zg (zbO PassesOwn.never rfl (zbD (zn G_likings_of (hr.mono (by decide)) Y.likings_of.mg Y.likings_of.kp Y.likings_of.b .nil zq (za (qv 0) (za (zN ix_tup (qv 1) zf) zd)))) (zdx 2 rfl (zu (zr 3 c_worth.nd) (zu (zr 4 c_worth.nd) zbe))) (zm (zaP (ziA (zn G_all_hold (hr.mono (by decide)) Y.all_hold.mg Y.all_hold.kp Y.all_hold.bd (.cons (a:=V.non) rfl .nil) zq (za (qv 3) (za (qv 1) (za (qv 2) zd))))) (zm (zz (qv 4))) zab)))
   (zm (zz zf))),?_⟩
  refine vr rfl (vr rfl (ixT hpw at0 (ex8 v x g hs ps lks hds j ⟨rfl,hv,T,hj,λvr d hd rd=>?_⟩)))
  rw[hlj] at hd
  cases hd
  obtain⟨pq,us,rfl,hpq,ru,_⟩:=rd.ofT
  refine⟨pq,rfl,⟨_, .inl (.inl hpq)⟩,?_⟩
  refine zaU (zaI (K:=K) (xs:=us)) (λi σ' H'=>(∃o3 o4,σ'=[some v,some (.ref pw),some (.ref pm),o3,o4])/\z4 (x::ws) ms rs=z4 (x::ws) ms (rs.drop i)/\Same H H') ⟨(ex2 _ _ rfl),rfl,Same.refl _⟩ (λi σ' H' z=> .inl (.inl (z.2.2 _ _ hpq))) ?_ ?_
  ·rintro i y σ' H1 hi hy ⟨⟨o3,o4,rfl⟩,hw,s1⟩
   obtain⟨r,hr',rr⟩:=ru.get hy
   obtain⟨cs,t,rfl,c4,hcs,ht⟩:=zgA (hlk.2 r (ζk hr'))
   obtain⟨q0,v0,v1,rfl,hq0,r0,r1⟩:=(rr.same s1).of2
   refine ex2 q0 _ ⟨rfl, .inl (.inl hq0),rfl,ex2 _ _ ⟨rfl,ex2 _ _ ⟨rfl,rfl,?_⟩⟩⟩
   refine vr rfl (vr rfl (vr rfl (ex8 v0 cs pw pm (.non) (x::ws) ms none ⟨rfl,r0,hcs,s1 _ _ hpw,s1 _ _ hpm, .inl ⟨rfl,rfl⟩,nw,nm,by simp,by simp;omega,lm,λH2 s2=>(vr rfl ?_)⟩)))
   rw[zhj hr',z4] at hw
   have er:zew (x::ws) ms none (zgy (.tup [.tup cs,t]))=zew (x::ws) ms none cs:=rfl
   rw[er] at hw
   cases hb:zew (x::ws) ms none cs with
   |true=>
    rw[hb,if_pos rfl] at hw
    exact zbP rfl (vr rfl (q _ H2 (by rw[hw];exact r1.same s2) (s1.trans s2)))
   |false=>
    rw[hb,if_neg (by decide)] at hw
    exact zbq rfl ⟨(ex2 _ _ rfl),hw,s1.trans s2⟩
  ·rintro σ' H1 ⟨⟨o3,o4,rfl⟩,hw,s1⟩
   rw[ru.1,List.drop_length,z4] at hw
   exact q _ H1 (by rw[hw];exact .int 0) s1
theorem ziq(Y:Ev K mg):FnOk P w K mg base CX0 1 Y.a_hands_of Y.d_hands_of zbW zr4:=by
 refine Y.hands_of.fn.okQ zjg (λvs H Q E h=>?_) (λcdv A outer s H vs Q E hr h=>?_)
 ·obtain ⟨v,x,g,hs,ps,lks,hds,j,rfl,_⟩:=h;rfl
 ·obtain ⟨v,x,g,hs,ps,lks,hds,j,rfl,hv,T,hj,q⟩:=h
  obtain⟨p,pr,pt,pl,pa,vt,vl,va,rfl,hp,hpr,hpt,rt,hpl,rl,hpa,ra⟩:=zbx hv
  have hjl:j<hs.length:=by
   rcases ζw j hs.length with y|y
   ·exact y
   ·rw[ζi y] at hj;cases hj
  have hjk:j<hds.length:=by rw[T.lh];exact hjl
  have hjv:j<va.length:=by rw[ra.1];exact hjk
  refine⟨_,(zm (zz (zN ix_tup (zN ix_tup (qv 0) zf) (zdS PySem.F.plainAttrs_tuple PySem.F.slot_tuple_index PySem.F.type_tuple_index zen (zN ix_tup (qv 0) zf) (za (qv 1) zd))))),?_⟩
  refine vr rfl (ixT hp (zQ (j:=4) rfl) ?_)
  refine vr rfl (ixT hp (zQ (j:=1) rfl) ?_)
  refine⟨.inr (.inr (.inr (.inr ⟨rfl,_,hpr⟩))),vr rfl (ex4 pr hs x j ⟨rfl,rfl, .inl (.inl hpr),hj,zfT T.hs_nd hj,?_⟩)⟩
  exact⟨pa,_,_,va[j],rfl,rfl, .inl (.inl hpa),zQ (by simp[hjv]),q _ hds[j] (ζd hjk) (ra.2 j _ _ (ζd hjv) (ζd hjk))⟩
theorem ze4(Y:Ev K mg):FnOk P w K mg base CX0 1 Y.a_marks_behind Y.d_marks_behind zaG zgk:=by
 refine Y.marks_behind.fn.okQ c_marks_behind (λvs H Q E h=>?_) (λcdv A outer s H vs Q E hr h=>?_)
 ·obtain ⟨pm,v,t,w',m,rfl,_⟩:=h;rfl
 ·obtain ⟨pm,v,t,w',m,rfl,hpm,hv,tn,mn,l13,q⟩:=h
  obtain⟨pa,v0,v1,rfl,hpa,r0,r1⟩:=hv.of2
  cases r0 with|str _ _=>
  cases r1 with|str _ _=>
  refine⟨_,(zg (zgs (qv 1) (zdx 2 rfl (zu (zr 2 c_marks_behind.nd) (zu (zcG 3 c_marks_behind.nd) zbe))))
   (zg (zdl 4 (src:=[none,some 3]) o_marks_behind_1 rfl rfl c_marks_behind.nd (zbD (qv 0)) (λ_ _ _ _ _=>(zr 0 o_marks_behind_1.nd)) (λ_ _ _ _ _=>(zd6 (zC zgr (qv 0) (qc 1)))) (λ_ _ _ _ _=>(qv 0)))
   (zg (zaP (zC z5 (qv 2) zah) (zm (zbK (zdS PySem.F.plainAttrs_list PySem.F.slot_list_append PySem.F.type_list_append zan (qv 4) (za (qc 3) zd)))) zab)
   (zm (zz (zL zF Y.tuple zay (za (zE zcJ Y.sorted zbV (za (qv 4) zd)) zd))))))),?_⟩
  refine vr rfl (ex2 pa _ ⟨rfl, .inl (.inl hpa),rfl,ex2 _ _ ⟨rfl,ex2 _ _ ⟨rfl,rfl,?_⟩⟩⟩)
  refine vr rfl ⟨pm,rfl,⟨_, .inl (.inl hpm)⟩,?_⟩
  refine zjW (g:=neD m) (f:=λd=>d) (σr:=[some (.str m)]) (zaI (K:=K)) (λH' s'=> .inl (.inl (s' _ _ hpm))) (zdQ λy hy=>zA (tn y hy)) (by rw[ζa];omega) rfl ?_ (λx d HA sA rx hd=>by walk_at "dsp") λl1 us H1 s1 hl1 e1 r1=>?_
  ·intro z d HA Q1 sA rz hd q1
   obtain⟨b,_,rfl⟩:=List.mem_map.mp hd
   cases rz with|str _ _=>
   refine vr rfl (vr rfl ⟨rfl,vr rfl ?_⟩)
   rw[zbI]
   exact q1 HA (Same.refl _)
  rw[zmG] at r1
  have eus:=zgG r1
  subst eus
  have lf:=List.length_filter_le (λx=>!decide (x=m)) t
  dsimp only[zcW]
  have fin:∀(H2:Hp),H2 l1=some (.lst ((zal t w' m).map V.str))->Same H H2->∀(ss:List Str) (l2:Addr),ss.Perm (zal t w' m)->sortedS ss=true->H2 l2=none->∃p ys,[V.ref l2]=[.ref p]/\((SqL K (upd H2 l2 (.lst (ss.map V.str))) p ys/\∀l,upd H2 l2 (.lst (ss.map V.str)) l=none->Q (.ref l) (upd (upd H2 l2 (.lst (ss.map V.str))) l (.tup ys)))\/(SqT K (upd H2 l2 (.lst (ss.map V.str))) p ys/\Q (.ref p) (upd H2 l2 (.lst (ss.map V.str))))):=λH2 e2 s2 ss l2 hp2 hs2 hl2=>⟨l2,_,rfl, .inl ⟨SqL.of zb,λp hp=>by
   have es:=zoA hp2 hs2
   subst es
   exact q p _ zb ((s2.trans (Same.new hl2)).trans (Same.new hp))⟩⟩
  refine vr rfl ⟨rfl,vr rfl (zbi (λe=>?_) (λe=>?_))⟩
  ·have ew:=V.str.inj (ζh e)
   have eb:zal t w' m=t.filter (λx=>!decide (x=m))++ [m]:=by unfold zal;rw[if_pos ew]
   refine vr rfl ⟨.inl ⟨rfl,_,SqL.of e1⟩,vr rfl (ex3 l1 _ _ ⟨rfl,rfl,e1,zj (by rw[ζa];omega),?_⟩)⟩
   have e2:(upd H1 l1 (.lst ((t.filter λx=>!decide (x=m)).map V.str ++ [V.str m]))) l1=some (.lst ((zal t w' m).map V.str)):=by rw[zb,eb,ξb];rfl
   have s2:Same H (upd H1 l1 (.lst ((t.filter λx=>!decide (x=m)).map V.str ++ [V.str m]))):=λc o z=>by rw[zi (ze z hl1)];exact s1 _ _ z
   generalize (upd H1 l1 (HO.lst ((t.filter λx=>!decide (x=m)).map V.str ++ [V.str m])))=H2 at *
   exact vr rfl ⟨l1,zal t w' m,rfl, .inl (SqL.of e2),by rw[eb,ζe,List.length_singleton];omega,fin H2 e2 s2⟩
  ·have ew:¬w'="put":=λz=>e (ζf (by rw[z]))
   have eb:zal t w' m=t.filter (λx=>!decide (x=m)):=by unfold zal;rw[if_neg ew,ξw]
   have e2:H1 l1=some (.lst ((zal t w' m).map V.str)):=by rw[eb];exact e1
   exact vr rfl ⟨l1,zal t w' m,rfl, .inl (SqL.of e2),by rw[eb];omega,fin H1 e2 s1⟩
theorem zje(Y:Ev K mg):FnOk P w K mg base CX0 5 Y.a_handed Y.d_handed zb1 zgK:=by
 have G_all_hold:FnOk P w K mg base CX0 4 Y.a_all_hold Y.d_all_hold zaY zjt:=zeX Y
 have G_hands_of:FnOk P w K mg base CX0 1 Y.a_hands_of Y.d_hands_of zbW zr4:=ziq Y
 have G_marks_behind:FnOk P w K mg base CX0 1 Y.a_marks_behind Y.d_marks_behind zaG zgk:=ze4 Y
 refine Y.handed.fn.okQ c_handed (λvs H Q E h=>?_) (λcdv A outer s H vs Q E hr h=>?_)
 ·obtain ⟨v,pw,pm,vt,x,ws,ms,to,g,hs,ps,lks,hds,j,rs,Pr,rfl,_⟩:=h;rfl
 ·obtain ⟨v,pw,pm,vt,x,ws,ms,to,g,hs,ps,lks,hds,j,rs,Pr,rfl,hv,T,hj,hdj,HO',MS,M0,hpw,hpm,hto,nw,lw,q⟩:=h
  refine⟨_,(zg (zO 4 c_handed.nd (qv 2))
   (zg (zbO PassesOwn.never rfl (zbD (zn G_hands_of (hr.mono (by decide)) Y.hands_of.mg Y.hands_of.kp Y.hands_of.b .nil zq (za (qv 0) (za (zN ix_tup (qv 1) zf) zd)))) (zdx 2 rfl (zu (zr 5 c_handed.nd) (zu (zr 6 c_handed.nd) zbe))) (zg (zaP (zmA (ziA (zn G_all_hold (hr.mono (by decide)) Y.all_hold.mg Y.all_hold.kp Y.all_hold.b .nil zq (za (qv 5) (za (qv 1) (za (qv 4) (za (qv 3) zd))))))) (zm zqH) zab)
   (zg (zaP (zC z5 (zN ix_tup (qv 6) zf) zah) (zm (zz zaC)) zab)
   (zm (zO 4 c_handed.nd (zn G_marks_behind (hr.mono (by decide)) Y.marks_behind.mg Y.marks_behind.kp Y.marks_behind.b .nil zq (za (qv 4) (za (qv 6) zd))))))))
   (zm (zz (qv 4))))),?_⟩
  refine vr rfl ?_
  refine vr rfl (vr rfl (ixT hpw at0 (ex8 v x g hs ps lks hds j ⟨rfl,hv,T,hj,λvr d hd rd=>?_⟩)))
  rw[hdj] at hd
  cases hd
  obtain⟨pq,us,rfl,hpq,ru,_⟩:=rd.ofT
  refine⟨pq,rfl,⟨_, .inl (.inl hpq)⟩,?_⟩
  refine zaU (zaI (K:=K) (xs:=us)) (λi σ' H'=>(∃pt t o5 o6,σ'=[some v,some (.ref pw),some (.ref pm),some vt,some (.ref pt),o5,o6]/\H' pt=some (.tup (t.map V.str))/\Pr i t/\zv (x::ws) to rs ms=zv (x::ws) to (rs.drop i) t)/\Same H H') ⟨(ex4 pm ms _ _ ⟨rfl,hpm,M0,rfl⟩),Same.refl _⟩ (λi σ' H' z=> .inl (.inl (z.2 _ _ hpq))) ?_ ?_
  ·rintro i y σ' H1 hi hy ⟨⟨pt,t,o5,o6,rfl,hpt,Mt,he⟩,s1⟩
   obtain⟨r,hr',rr⟩:=ru.get hy
   obtain⟨cs,xa,rfl,hcs,hx⟩:=HO'.2 r (ζk hr')
   obtain⟨q0,v0,v1,rfl,hq0,r0,r1⟩:=(rr.same s1).of2
   have lu:=ru.1
   obtain⟨tn,tl⟩:=MS.ok i t (by omega) Mt
   refine ex2 q0 _ ⟨rfl, .inl (.inl hq0),rfl,ex2 _ _ ⟨rfl,ex2 _ _ ⟨rfl,rfl,?_⟩⟩⟩
   refine vr rfl (vr rfl (vr rfl (vr rfl (ex8 v0 cs pw pt vt (x::ws) t to ⟨rfl,r0,hcs,s1 _ _ hpw,hpt,hto,nw,tn,by simp,by simp;omega,ξa tl (by decide),λH2 s2=>(vr rfl ?_)⟩))))
   rw[zhj hr',zv] at he
   have er:zew (x::ws) t to (zgy (.tup [.tup cs,xa]))=zew (x::ws) t to cs:=rfl
   have et:zkt (.tup [.tup cs,xa])=xa:=rfl
   rw[er,et] at he
   cases hb:zew (x::ws) t to cs with
   |false=>
    rw[hb,if_neg (by decide)] at he
    exact zbP rfl ⟨(ex4 pt t _ _ ⟨rfl,s2 _ _ hpt,MS.skip i t Mt,he⟩),s1.trans s2⟩
   |true=>
    rw[hb,if_pos rfl] at he
    refine zbq rfl ?_
    rcases hx with rfl|⟨w1,m1,rfl,hw1,hm1⟩
    ·obtain ⟨pa,ua,rfl,hpa,ra',_⟩:=(r1.same s2).ofT
     have la:ua.length=1:=ra'.1
     obtain⟨u0,rfl⟩:∃u0,ua=[u0]:=by
      match ua,la with
      |[u0],_=>exact ⟨u0,rfl⟩
     have h0:=ra'.head.1
     cases h0 with|str _ _=>
     refine vr rfl (ixT hpa at0 ⟨rfl,vr rfl (zbP (by rw[ζf rfl]) ?_)⟩)
     exact q .non H2 (by rw[he];rfl) (s1.trans s2)
    ·obtain ⟨pa,z0,z1,rfl,hpa,rz0,rz1⟩:=(r1.same s2).of2
     cases rz0 with|str _ _=>
     have nk:decide (V.str w1=V.str "keep")=false:=by
      rw[zbI]
      rcases hw1 with rfl|rfl<;>decide +kernel
     refine vr rfl (ixT hpa at0 ⟨rfl,vr rfl (zbq nk ?_)⟩)
     refine vr rfl (vr rfl (ex4 pt (.ref pa) t w1 ⟨m1,rfl,s2 _ _ hpt,r1.same s2,tn,hm1,tl,λp3 H3 e3 s3=>?_⟩))
     exact⟨(ex4 p3 _ _ _ ⟨rfl,e3,MS.next i t w1 m1 cs Mt hr',he⟩),(s1.trans s2).trans s3⟩
  ·rintro σ' H1 ⟨⟨pt,t,o5,o6,rfl,hpt,Mt,he⟩,s1⟩
   rw[ru.1,List.drop_length,zv] at he
   exact vr rfl (q _ H1 (by rw[he];exact⟨pt,rfl,hpt⟩) s1)
theorem zgE(Y:Ev K mg):FnOk P w K mg base CX0 5 Y.a_handed Y.d_handed zb1 zdO:=(zje Y).imp λ_ _ _ _ h=>zi6 h
end
section
variable{P:Program}{w:World}{K:ξk}{mg:Str->Option Value}{base:Heap}
theorem zrE{g:Str}{hs:List Str}{ps:List (Str×Str)}{lks hds:List D}(T:TownOk g hs ps lks hds){x:Str}(h:x∈hs):∃(j:Nat) (rs:List D),hs[j]?=some x/\lks[j]?=some (.tup rs)/\zK hs lks x=rs:=by
 obtain⟨j,hj,e⟩:=List.getElem_of_mem h
 have hl:j<lks.length:=by rw[T.ll];exact hj
 have hd:=T.likes _ (List.getElem_mem hl)
 cases ed:lks[j] with
 |tup rs=>
  have e1:hs[j]?=some x:=by rw[ζd hj,e]
  have e2:lks[j]?=some (.tup rs):=by rw[ζd hl,ed]
  exact⟨j,rs,e1,e2,zfa T.hs_nd e1 e2⟩
 |_=>rw[ed] at hd;cases hd
theorem zkw{g:Str}{hs:List Str}{ps:List (Str×Str)}{lks hds:List D}{O:List Str}(T:TownOk g hs ps lks hds)(PO:Pool hs lks hds O){x:Str}(h:x∈hs):∃(j:Nat) (rs:List D),hs[j]?=some x/\hds[j]?=some (.tup rs)/\zK hs hds x=rs/\zcb O rs:=by
 obtain⟨j,d,e1,e2,hm⟩:=zqs T h
 obtain⟨rs,rfl,hk⟩:=zkV (T.hands d hm) (PO.hd d hm)
 exact⟨j,rs,e1,e2,zfa T.hs_nd e1 e2,hk⟩
theorem zdX{g:Str}{hs:List Str}{ps:List (Str×Str)}{lks hds:List D}{O:List Str}(T:TownOk g hs ps lks hds)(PO:Pool hs lks hds O):∀{w t:List Str},(∀y∈w,y∈hs)->zI hs lks hds w=some t->Mr O t
 |[],t,_,e=>by rw[zI] at e;cases e;exact Mr.nil
 |[_],t,_,e=>by rw[zI] at e;cases e;exact Mr.nil
 |y::x::ws,t,h,e=>by
  rw[zI] at e
  have h':=λz hz=>h z (ξc _ hz)
  cases e2:zI hs lks hds (x::ws)with
  |none=>rw[e2] at e;cases e
  |some t2=>
   rw[e2] at e
   obtain⟨j,rs,_,_,er,hk⟩:=zkw T PO (h' x ζo)
   exact zm8 (w:=x::ws) (by show zcb O (zK hs hds x);rw[er];exact hk) (zdX T PO h' e2) e
theorem zcQ{hs:List Str}{lks hds:List D}:∀{w:List Str} {k:Nat},k<w.length->zI hs lks hds (w.drop k)=none->zI hs lks hds w=none
 |w,0,_,e=>by rw[List.drop_zero] at e;exact e
 |[],k+1,h,_=>by simp at h
 |[y],k+1,h,_=>by simp at h
 |y::x::ws,k+1,h,e=>by
  have:=zcQ (w:=x::ws) (k:=k) (by simpa using h) e
  rw[zI,this]
noncomputable def zjN:Sp:=λvs H Q _=>∃(v:V) (pw pm:Addr) (y x:Str) (ws ms:List Str) (g:Str) (hs:List Str) (ps:List (Str×Str)) (lks hds:List D) (O:List Str),vs=[v, .ref pw, .ref pm, .str y]/\Rep H v (zaT g hs ps lks hds)/\TownOk g hs ps lks hds/\Pool hs lks hds O/\(∀z∈y::x::ws,z∈hs)/\Mr O ms/\H pw=some (.tup ((x::ws).map V.str))/\H pm=some (.tup (ms.map V.str))/\ws.length<=80/\∀(u:V) (H':Hp),Told H' u (zbN hs lks hds y (x::ws) ms)->Same H H'->Q u H'
theorem zfD(Y:Ev K mg):FnOk P w K mg base CX0 6 Y.a_marks_ahead Y.d_marks_ahead zaX zjN:=by
 have G_handed:FnOk P w K mg base CX0 5 Y.a_handed Y.d_handed zb1 zdO:=zgE Y
 have G_worth:FnOk P w K mg base CX0 5 Y.a_worth Y.d_worth zdj zhk:=zii Y
 refine Y.marks_ahead.fn.okQ c_marks_ahead (λvs H Q E h=>?_) (λcdv A outer s H vs Q E hr h=>?_)
 ·obtain ⟨v,pw,pm,y,x,ws,ms,g,hs,ps,lks,hds,O,rfl,_⟩:=h;rfl
 ·obtain ⟨v,pw,pm,y,x,ws,ms,g,hs,ps,lks,hds,O,rfl,hv,T,PO,hw,M,hpw,hpm,lw,q⟩:=h
  have hy:=hw y ζo
  have hx:=hw x (ξc _ ζo)
  have hn:∀z∈y::x::ws,zh z=true:=λz hz=>T.names z (hw z hz)
  obtain⟨j,rs,hj,hdj,er,hk⟩:=zkw T PO hx
  obtain⟨j2,rs2,hj2,hlj2,er2⟩:=zrE T hy
  have ea0:zv (x::ws) (some y) rs ms=none->zbN hs lks hds y (x::ws) ms=none:=λe=>by
   unfold zbN
   rw[show(x::ws).headD ""=x from rfl,er,e]
  have ea1:∀t,zv (x::ws) (some y) rs ms=some t->zbN hs lks hds y (x::ws) ms=if zdH (z4 (y::x::ws) t rs2)=true then none else some t:=λt e=>by
   unfold zbN
   rw[show(x::ws).headD ""=x from rfl,er,er2,e]
  refine⟨_,(zg (zO 4 c_marks_ahead.nd (zn G_handed (hr.mono (by decide)) Y.handed.mg Y.handed.kp Y.handed.b .nil zq (za (qv 0) (za (qv 1) (za (qv 2) (za (qv 3) zd))))))
   (zg (zaP (t_w (znN (zC zdB (qv 4) zaC) (zjA (zC zdB (zn G_worth (hr.mono (by decide)) Y.worth.mg Y.worth.kp Y.worth.b .nil zq (za (qv 0) (za (zS zg9 (zD (za (qv 3) zd)) (qv 1)) (za (qv 4) zd)))) zaC)))) (zm (zz zaC)) zab)
   (zm (zz (qv 4))))),?_⟩
  refine vr rfl (vr rfl (vr rfl (vr rfl (ex8 v pw pm (.str y) x ws ms (some y) (ex8 g hs ps lks hds j rs O ⟨rfl,hv,T,hj,hdj,hk,PO.few,PO.nm,M.toMk,hpw,hpm, .inr ⟨y,rfl,rfl,hn y ζo⟩,λz hz=>hn z (ξc _ hz),by omega,λu H1 tu s1=>?_⟩)))))
  cases e:zv (x::ws) (some y) rs ms with
  |none=>
   rw[e] at tu
   rw[ea0 e] at q
   cases(show u= .non from tu)
   exact vr rfl ⟨rfl,vr rfl (zbP rfl (zbP rfl (q _ _ rfl s1)))⟩
  |some t=>
   rw[e] at tu
   rw[ea1 t e] at q
   obtain⟨p,rfl,hp⟩:=tu
   have Mt:=zdr hk.2 M e
   refine vr rfl ⟨rfl,vr rfl (zbq rfl ?_)⟩
   refine vr rfl (vr rfl ⟨few rfl,λp1 hp1=>(vr rfl (ex4 p1 pw _ _ ⟨rfl,rfl, .inl (.inl zb), .inl (.inl (Same.new hp1 _ _ (s1 _ _ hpw))),ξg (zj (by rw[ζa];show 1+(ws.length+1)<=_;omega)),(λz=>nomatch z),(λ_ z=>nomatch z),λ_ _ p2 hp2=>?_⟩))⟩)
   have S1:=Same.new (o:= .tup [V.str y]) hp1
   have S2:=Same.new (o:= .tup ([V.str y]++(x::ws).map V.str)) hp2
   have s03:=(s1.trans S1).trans S2
   refine vr rfl (ex8 v p2 p y (x::ws) t g hs (ex4 ps lks hds j2 ⟨rs2,rfl,hv.same s03,T,hj2,hlj2,zb,S2 _ _ (S1 _ _ hp),hn,λz hz=>PO.nm z (Mt.mem z hz),by show ws.length+1<=90;omega,ξa (Mt.toMk.len PO.few) (by decide),λu2 H4 r4 s4=>?_⟩))
   refine⟨rfl,vr rfl ?_⟩
   rw[zn8 r4]
   have s04:=s03.trans s4
   cases hb:zdH (z4 (y::x::ws) t rs2)with
   |true=>
    rw[hb,if_pos rfl] at q
    exact zbP rfl (q _ _ rfl s04)
   |false=>
    rw[hb,if_neg (by decide)] at q
    exact zbq rfl (vr rfl (q _ _ ⟨p,rfl,s4 _ _ (S2 _ _ (S1 _ _ hp))⟩ s04))
noncomputable def zez:Sp:=λvs H Q _=>∃(v:V) (pw:Addr) (w:List Str) (g:Str) (hs:List Str) (ps:List (Str×Str)) (lks hds:List D) (O:List Str),vs=[v, .ref pw]/\Rep H v (zaT g hs ps lks hds)/\TownOk g hs ps lks hds/\Pool hs lks hds O/\(∀z∈w,z∈hs)/\H pw=some (.tup (w.map V.str))/\1<=w.length/\w.length<=80/\∀(u:V) (H':Hp),Told H' u (zI hs lks hds w)->Same H H'->Q u H'
theorem zeW(Y:Ev K mg):FnOk P w K mg base CX0 7 Y.a_marks_of Y.d_marks_of zbt zez:=by
 have G_marks_ahead:FnOk P w K mg base CX0 6 Y.a_marks_ahead Y.d_marks_ahead zaX zjN:=zfD Y
 refine Y.marks_of.fn.okQ c_marks_of (λvs H Q E h=>?_) (λcdv A outer s H vs Q E hr h=>?_)
 ·obtain ⟨v,pw,w,g,hs,ps,lks,hds,O,rfl,_⟩:=h;rfl
 ·obtain ⟨v,pw,w,g,hs,ps,lks,hds,O,rfl,hv,T,PO,hw,hpw,w1,w80,q⟩:=h
  refine⟨_,(zg (zO 2 c_marks_of.nd (zD zd))
   (zg (zbO PassesOwn.never rfl (zqv Y.range Y.reversed (za (zS znk (zE zae Y.len zbL (za (qv 1) zd)) zf) zd)) (zr 3 c_marks_of.nd) (zg (zO 2 c_marks_of.nd (zn G_marks_ahead (hr.mono (by decide)) Y.marks_ahead.mg Y.marks_ahead.kp Y.marks_ahead.b .nil zq (za (qv 0) (za (zi2 zfg (qv 1) (zcV (zS zaB (qv 3) zf)) zeF) (za (qv 2) (za (zN ix_tup (qv 1) (qv 3)) zd))))))
   (zm (zaP (zC zdB (qv 2) zaC) (zm (zz zaC)) zab))))
   (zm (zz (qv 2))))),?_⟩
  refine⟨few rfl,λp0 hp0=>?_⟩
  have S0:=Same.new (o:= .tup []) hp0
  have hp0':upd H p0 (.tup []) p0=some (.tup (([]:List Str).map V.str)):=zb
  generalize upd H p0 (HO.tup [])=H0 at *
  have nn:((w.map V.str).length:Int) -1=((w.length -1:Nat):Int):=by rw[ζa];omega
  refine vr rfl (.inl (ex2 pw _ ⟨rfl, .inr (.inl (.inl (S0 _ _ hpw))),ex2 _ _ ⟨rfl,rfl,w.length -1,by show [V.int (((w.map V.str).length:Int) -1)]=_;rw[nn],by omega,?_⟩⟩))
  have d0:zI hs lks hds (w.drop (w.length -1))=some []:=by
   rw[List.drop_eq_getElem_cons (by omega),List.drop_eq_nil_of_le (by omega),zI]
  refine zaU zo4 (λi σ' H'=>(∃pm ms o3,σ'=[some v,some (.ref pw),some (.ref pm),o3]/\H' pm=some (.tup (ms.map V.str))/\zI hs lks hds (w.drop (w.length -1 -i))=some ms)/\Same H H') ⟨(ex3 p0 [] _ ⟨rfl,hp0',d0⟩),S0⟩ (λ_ _ _ _=>trivial) ?_ ?_
  ·rintro i y σ' H1 hi rfl ⟨⟨pm,ms,o3,rfl,hpm,hms⟩,s1⟩
   obtain⟨k,hk⟩:∃k:Nat,k=w.length -1 -1 -i:=⟨_,rfl⟩
   have hk1:w.length -1 -i=k+1:=by omega
   have ei:((w.length -1:Nat):Int) -1 -(i:Int)=(k:Int):=by omega
   have hkl:k<w.length:=by omega
   rw[hk1] at hms
   rw[ei]
   obtain⟨x,ws,ew⟩:∃x ws,w.drop (k+1)=x::ws:=by
    rw[List.drop_eq_getElem_cons (by omega)];exact⟨_,_,rfl⟩
   have lws:ws.length<=80:=by have:=congrArg List.length ew;rw[ζq,ζv] at this;omega
   have ed:w.drop k=w[k]::x::ws:=by rw[List.drop_eq_getElem_cons hkl,ew]
   have hin:∀z∈w[k]::x::ws,z∈hs:=λz hz=>hw z (List.mem_of_mem_drop (by rw[ed];exact hz))
   rw[ew] at hms
   have Mm:=zdX T PO (λz hz=>hin z (ξc _ hz)) hms
   have e1:((k:Int)+1)=((k+1:Nat):Int):=by omega
   have ec:zbB (w.map V.str) (some ((k:Int)+1)) none=(x::ws).map V.str:=by rw[e1,zfm,←List.map_drop,ew]
   refine vr rfl (vr rfl (vr rfl (ex2 _ _ ⟨rfl,rfl,vr rfl (ex2 pw _ ⟨rfl, .inl (.inl (s1 _ _ hpw)),?_,λp2 hp2=>?_⟩)⟩)))
   ·intro z
    rw[ec] at z
    have:=congrArg List.length z
    rw[ζa,ζa,←ew,ζq] at this
    omega
   rw[ec] at *
   have S2:=Same.new (o:= .tup ((x::ws).map V.str)) hp2
   refine vr rfl (vr rfl (vr rfl ⟨pw,_,_, .str w[k],rfl,rfl, .inl (.inl (S2 _ _ (s1 _ _ hpw))),zQ (by rw[ζp,ζd hkl];rfl),v,p2,pm,w[k],ex8 x ws ms g hs ps lks hds ⟨O,rfl,hv.same (s1.trans S2),T,PO,hin,Mm,zb,S2 _ _ hpm,lws,λu H3 tu s3=>?_⟩⟩))
   have s03:=(s1.trans S2).trans s3
   have em:zI hs lks hds (w.drop k)=zbN hs lks hds w[k] (x::ws) ms:=by rw[ed,zI,hms]
   cases e:zbN hs lks hds w[k] (x::ws) ms with
   |none=>
    rw[e] at tu em
    cases(show u= .non from tu)
    refine vr rfl ⟨rfl,vr rfl (zbP rfl (q _ _ ?_ s03))⟩
    rw[zcQ hkl em];rfl
   |some t=>
    rw[e] at tu em
    obtain⟨p,rfl,hp⟩:=tu
    refine vr rfl ⟨rfl,vr rfl (zbq rfl ⟨(ex3 p t _ ⟨rfl,hp,?_⟩),s03⟩)⟩
    rw[show w.length -1 -(i+1)=k by omega];exact em
  ·rintro σ' H1 ⟨⟨pm,ms,o3,rfl,hpm,hms⟩,s1⟩
   rw[Nat.sub_self,List.drop_zero] at hms
   refine vr rfl (q _ _ ?_ s1)
   rw[hms]
   exact⟨pm,rfl,hpm⟩
end
section
variable{P:Program}{w:World}{K:ξk}{mg:Str->Option Value}{base:Heap}
noncomputable def zm4:Sp:=λvs H Q _=>∃(v:V) (x:Str) (g:Str) (hs:List Str) (ps:List (Str×Str)) (lks hds:List D),vs=[v, .str x]/\Rep H v (zaT g hs ps lks hds)/\TownOk g hs ps lks hds/\∀(l:Addr) (ts:List Str) (H':Hp),H l=none->H' l=some (.lst (ts.map V.str))->ts.Perm (ze2 ps x)->sortedS ts=true->Same H H'->Q (.ref l) H'
theorem zpd(Y:Ev K mg):FnOk P w K mg base CX0 1 Y.a_tied Y.d_tied zfz zm4:=by
 refine Y.tied.fn.okQ c_tied (λvs H Q E h=>?_) (λcdv A outer s H vs Q E hr h=>?_)
 ·obtain ⟨v,x,g,hs,ps,lks,hds,rfl,_⟩:=h;rfl
 ·obtain ⟨v,x,g,hs,ps,lks,hds,rfl,hv,T,q⟩:=h
  obtain⟨p,pr,pt,pl,pa,vt,vl,va,rfl,hp,hpr,hpt,rt,hpl,rl,hpa,ra⟩:=zbx hv
  have TP:=T.lp
  refine⟨_,(zg (zO 2 c_tied.nd (zN ix_tup (qv 0) zf))
   (zm (zz (zE zcJ Y.sorted zbV (za (zS zjw (zb6 (src:=[none,none,some 1]) o_tied_1 rfl rfl (zbD (qv 2)) (λ_ _ _ _ _=>(zfH (K:=K) 2 rfl rfl (zu (zr 0 o_tied_1.nd) (zu (zr 1 o_tied_1.nd) zbe)))) (λ_ _ _ _ _=>(zd6 (zC z5 (qv 1) (qc 2)))) (λ_ _ _ _ _=>(qv 0))) (zb6 (src:=[none,none,some 1]) o_tied_2 rfl rfl (zbD (qv 2)) (λ_ _ _ _ _=>(zfH (K:=K) 2 rfl rfl (zu (zr 0 o_tied_2.nd) (zu (zr 1 o_tied_2.nd) zbe)))) (λ_ _ _ _ _=>(zd6 (zC z5 (qv 0) (qc 2)))) (λ_ _ _ _ _=>(qv 1)))) zd))))),?_⟩
  refine vr rfl (ixT hp (zQ (j:=2) rfl) ?_)
  refine vr rfl ⟨pt,rfl,⟨_, .inl (.inl hpt)⟩,?_⟩
  refine zh8 (ps:=ps) (sel:=λp=>decide (p.2=x)) (f:=(·.1)) (λσ'=>∃o1 o2,σ'=[o1,o2,some (.str x)]) (zaI (K:=K)) (λH' s'=> .inl (.inl (s' _ _ hpt))) rt (by omega) (ex2 _ _ rfl) ?_ λl1 H1 s1 hl1 e1=>?_
  ·rintro q p σ' H1 A B ⟨o1,o2,rfl⟩ s1 hq hp1 k
   refine ex2 q _ ⟨rfl, .inl (.inl hq),rfl,ex2 _ _ ⟨rfl,ex2 _ _ ⟨rfl,rfl,vr rfl (vr rfl ⟨rfl,vr rfl ?_⟩)⟩⟩⟩
   have k:=k [some (.str p.1),some (.str p.2),some (.str x)] ⟨_,_,rfl⟩
   rw[zbI]
   cases e:decide (p.2=x)with
   |false=>rw[e] at k;exact k
   |true=>rw[e] at k;exact⟨_,rfl,k⟩
  refine vr rfl ⟨pt,rfl,⟨_, .inl (.inl (s1 _ _ hpt))⟩,?_⟩
  refine zh8 (ps:=ps) (sel:=λp=>decide (p.1=x)) (f:=(·.2)) (λσ'=>∃o1 o2,σ'=[o1,o2,some (.str x)]) (zaI (K:=K)) (λH' s'=> .inl (.inl (s' _ _ (s1 _ _ hpt)))) (rt.mono (.of s1)) (by omega) (ex2 _ _ rfl) ?_ λl2 H2 s2 hl2 e2=>?_
  ·rintro q p σ' H1 A B ⟨o1,o2,rfl⟩ s1 hq hp1 k
   refine ex2 q _ ⟨rfl, .inl (.inl hq),rfl,ex2 _ _ ⟨rfl,ex2 _ _ ⟨rfl,rfl,vr rfl (vr rfl ⟨rfl,vr rfl ?_⟩)⟩⟩⟩
   have k:=k [some (.str p.1),some (.str p.2),some (.str x)] ⟨_,_,rfl⟩
   rw[zbI]
   cases e:decide (p.1=x)with
   |false=>rw[e] at k;exact k
   |true=>rw[e] at k;exact⟨_,rfl,k⟩
  have nl:=zm3 T x
  have nl':((ps.filter λp=>decide (p.2=x)).map (·.1)).length+((ps.filter λp=>decide (p.1=x)).map (·.2)).length<=10:=by rw[←ζe];exact nl
  refine ex4 l1 l2 _ _ ⟨rfl,rfl,s2 _ _ e1,e2,ξg (zj (by simp only[ζa] at nl'⊢;omega)),λl3 hl3=>?_⟩
  rw[←ξb]
  have S3:=Same.new (o:= .lst ((ze2 ps x).map V.str)) hl3
  refine⟨l3,ze2 ps x,rfl, .inl (SqL.of zb),by omega,λts l4 hp4 hs4 hl4=>q l4 ts _ ?_ zb hp4 hs4 (((s1.trans s2).trans S3).trans (Same.new hl4))⟩
  exact zg6 ((s1.trans s2).trans S3) hl4
end
section
variable{P:Program}{w:World}{K:ξk}{mg:Str->Option Value}{base:Heap}
theorem zsl{k:Nat}{A:Around}(r:Room k A):A.units+70<cLine:=by have:=r.un;omega
theorem zlj{a b c:V}:atI [a,b,c] (-1)=some c:=rfl
theorem zf2(Y:Ev K mg):FnOk P w K mg base CX0 6 Y.a_liking_key Y.d_liking_key zbg zpJ:=by
 have G_worth:FnOk P w K mg base CX0 5 Y.a_worth Y.d_worth zdj zhk:=zii Y
 refine Y.liking_key.fn.okQ zhn (λvs H Q E h=>?_) (λcdv A outer s H vs Q E hr h=>?_)
 ·obtain ⟨v,pw,pm,x,ws,ms,g,hs,ps,lks,hds,j,rs,i,rfl,_⟩:=h;rfl
 ·obtain ⟨v,pw,pm,x,ws,ms,g,hs,ps,lks,hds,j,rs,i,rfl,hv,T,hj,hlj,hpw,hpm,nw,nm,lw,lm,hi,q⟩:=h
  refine⟨_,(zm (zz (zD (za (zma zfi (zn G_worth (hr.mono (by decide)) Y.worth.mg Y.worth.kp Y.worth.b .nil zq (za (qv 0) (za (qv 1) (za (qv 2) zd))))) (za (zE zae Y.len zbL (za (qv 1) zd)) (za (qv 1) zd)))))),?_⟩
  refine vr rfl (vr rfl (vr rfl (ex8 v pw pm x ws ms g hs (ex4 ps lks hds j ⟨rs,rfl,hv,T,hj,hlj,hpw,hpm,nw,nm,lw,lm,λu H1 ru s1=>?_⟩))))
  rw[hi] at ru
  cases ru with|int _=>
  refine vr rfl (vr rfl (.inl (ex2 pw _ ⟨rfl, .inr (.inl (.inl (s1 _ _ hpw))),vr rfl ⟨few rfl,λpk hpk=>?_⟩⟩)))
  have S:=Same.new (o:= .tup [V.int (-i), .int (((x::ws).map V.str).length:Int), .ref pw]) hpk
  refine q _ _ (ex2 pk pw ⟨rfl,?_,S _ _ (s1 _ _ hpw),λy hy=>zaZ (nw y hy)⟩) (s1.trans S)
  rw[zb,ζa]
noncomputable def znC(c:D->Bool)(g:List Str->List Str->Option Str->D->Bool):Sp:=λvs H Q _=>∃(v:V) (d:D) (pw pm:Addr) (vt:V) (ws ms:List Str) (to:Option Str),vs=[v, .ref pw, .ref pm,vt]/\Rep H v d/\c d=true/\H pw=some (.tup (ws.map V.str))/\H pm=some (.tup (ms.map V.str))/\TO vt to/\(∀x∈ws,zh x=true)/\(∀x∈ms,zh x=true)/\1<=ws.length/\ws.length<=100/\ms.length<=100/\∀H',Same H H'->Q (.bl (g ws ms to d)) H'
theorem zqo{vt:V}{to:Option Str}{y:Str}(h:TO vt to):decide (V.str y=vt)=decide (to=some y):=by
 rcases h with⟨rfl,rfl⟩|⟨x,rfl,rfl,_⟩
 ·rfl
 ·rw[zbI,ξd,ζg,ζg,Option.some.injEq];exact⟨Eq.symm,Eq.symm⟩
theorem zc2{k:Nat}{c:D->Bool}{g:List Str->List Str->Option Str->D->Bool}(Y:Ev K mg)(G__law_holds:FnOk P w K mg base CX0 k Y.a__law_holds Y.d__law_holds zag (znC c g))(c':D->Bool)(g':List Str->List Str->Option Str->D->Bool)
 (hc:∀d,c' d=true->∃x e,d= .tup [.str x,e]) (h1:∀ws ms to x e,c' (.tup [.str x,e])=true->x="not"->c e=true/\(!g ws ms to e)=g' ws ms to (.tup [.str x,e]))
 (h2:∀x e,c' (.tup [.str x,e])=true->¬x="not"->zB (.tup [.str x,e])=true/\∀ws ms to,phB ws ms to x e=g' ws ms to (.tup [.str x,e])):
 FnOk P w K mg base CX0 (k+1) Y.a__law_holds Y.d__law_holds zag (znC c' g'):=by
 refine Y._law_holds.fn.okQ zej (λvs H Q E h=>?_) (λcdv A outer s H vs Q E hr h=>?_)
 ·obtain ⟨v,d,pw,pm,vt,ws,ms,to,rfl,_⟩:=h;rfl
 ·obtain ⟨v,d,pw,pm,vt,ws,ms,to,rfl,hd,hcd,hpw,hpm,hto,nw,nm,w1,lw,lm,q⟩:=h
  obtain⟨x,e,rfl⟩:=hc d hcd
  obtain⟨p,v0,v1,rfl,hp,r0,r1⟩:=hd.of2
  cases r0 with
  |str _ hx=>
  refine⟨_,(zg (zaP (zC z5 (zN ix_tup (qv 0) zf) zah) (zm (zz (zpM (zn G__law_holds hr Y._law_holds.mg Y._law_holds.kp Y._law_holds.b .nil zq (za (zN ix_tup (qv 0) zf) (za (qv 1) (za (qv 2) (za (qv 3) zd)))))))) zab)
   (zg (zaP (zC z5 (zN ix_tup (qv 0) zf) zah) (zm (zz (zbH zcv (zN ix_tup (qv 0) zf) (qv 1)))) zab)
   (zg (zaP (zC z5 (zN ix_tup (qv 0) zf) zah) (zm (zz (zbH (zrj (znn hr)) (zi2 zfg (qv 1) (zcV zf) (zcV zf)) (zD (za (zN ix_tup (qv 0) zf) zd))))) zab)
   (zg (zaP (zC z5 (zN ix_tup (qv 0) zf) zah) (zm (zz (zbH zcv (zN ix_tup (qv 0) zf) (qv 2)))) zab)
   (zg (zaP (zC z5 (zN ix_tup (qv 0) zf) zah) (zm (zz (zbH z5 (zN ix_tup (qv 0) zf) (qv 3)))) zab)
   (zm (zz (zbH zgw (zE zae Y.len zbL (za (qv 1) zd)) (zN ix_tup (qv 0) zf))))))))),?_⟩
  refine vr rfl (ixT hp at0 ⟨rfl,vr rfl (zbi (λel=>?_) (λel=>?_))⟩)
  ·obtain ⟨ce,ge⟩:=h1 ws ms to x e hcd (V.str.inj (ζh el))
   refine vr rfl (ixT hp at1 (vr rfl (vr rfl (vr rfl (ex8 v1 e pw pm vt ws ms to ⟨rfl,r1,ce,hpw,hpm,hto,nw,nm,w1,lw,lm,λH' s'=>(vr rfl ?_)⟩)))))
   have q:=q H' s'
   rw[←ge] at q
   exact q
  obtain⟨hpl,ge⟩:=h2 x e hcd λz=>el (ζf (by rw[z]))
  rw[←ge ws ms to] at q
  have bad:∀{y z:Str},y=z->¬decide (V.str y=V.str z)=true->False:=λe h=>h (by rw[e];exact ζf rfl)
  refine vr rfl (ixT hp at0 ⟨rfl,vr rfl (zbi (λe1=>?_) (λe1=>?_))⟩)
  ·have e1:=V.str.inj (ζh e1)
   subst e1
   rcases zZ hpl with⟨z,_⟩|⟨_,y,rfl,ny⟩
   ·exact absurd z (by decide +kernel)
   cases r1 with|str _ _=>
   have q:=q H (Same.refl H)
   rw[zpV,←zeg] at q
   exact vr rfl (ixT hp at1 (vr rfl (ex2 pw _ ⟨rfl, .inr (.inl (.inl hpw)),rfl,zck,q⟩)))
  refine vr rfl (ixT hp at0 ⟨rfl,vr rfl (zbi (λe2=>?_) (λe2=>?_))⟩)
  ·have e2:=V.str.inj (ζh e2)
   subst e2
   rcases zZ hpl with⟨z,_⟩|⟨_,y,rfl,ny⟩
   ·exact absurd z (by decide +kernel)
   cases r1 with|str _ _=>
   refine vr rfl ⟨1,rfl,2,rfl,ex2 pw _ ⟨rfl, .inl (.inl hpw),λz=>?_,λp2 hp2=>?_⟩⟩
   ·rw[zlU (by rw[ζa];exact w1)] at z
    have:=congrArg List.length z
    rw[ζl,ζq,ζa] at this
    omega
   rw[zlU (by rw[ζa];exact w1),←List.map_drop,←List.map_take]
   have S2:=Same.new (o:= .tup (((ws.drop 1).take 1).map V.str)) hp2
   refine vr rfl (ixT (S2 _ _ hp) at1 ⟨few rfl,λp3 hp3=>?_⟩)
   have S3:=Same.new (o:= .tup [V.str y]) hp3
   refine⟨_,_,zeH (xs:=(ws.drop 1).take 1) (S3 _ _ zb) (λx hx=>zaZ (nw x (List.mem_of_mem_drop (ξu hx)))),zeH (xs:=[y]) zb (λx hx=>by rw[List.mem_singleton.mp hx];exact zaZ ny),ξa (Nat.min_le_left _ _) zde,?_⟩
   have q:=q _ (S2.trans S3)
   rw[zjI,←zld,←strs_eqvT] at q
   exact q
  refine vr rfl (ixT hp at0 ⟨rfl,vr rfl (zbi (λe4=>?_) (λe4=>?_))⟩)
  ·have e4:=V.str.inj (ζh e4)
   subst e4
   rcases zZ hpl with⟨z,_⟩|⟨_,y,rfl,ny⟩
   ·exact absurd z (by decide +kernel)
   cases r1 with|str _ _=>
   have q:=q H (Same.refl H)
   rw[zke,←zeg] at q
   exact vr rfl (ixT hp at1 (vr rfl (ex2 pm _ ⟨rfl, .inr (.inl (.inl hpm)),rfl,zck,q⟩)))
  refine vr rfl (ixT hp at0 ⟨rfl,vr rfl (zbi (λe3=>?_) (λe3=>?_))⟩)
  ·have e3:=V.str.inj (ζh e3)
   subst e3
   rcases zZ hpl with⟨z,_⟩|⟨_,y,rfl,ny⟩
   ·exact absurd z (by decide +kernel)
   cases r1 with|str _ _=>
   have q2:=q H (Same.refl H)
   rw[zpP,←zqo hto] at q2
   refine vr rfl (ixT hp at1 (vr rfl ?_))
   rcases hto with⟨rfl,rfl⟩|⟨x,rfl,rfl,_⟩
   ·exact ⟨rfl,q2⟩
   ·exact ⟨rfl,q2⟩
  rcases zZ hpl with⟨rfl,i,rfl,i0,i9⟩|⟨hn,y,rfl,ny⟩
  ·cases r1 with|int _=>
   have q:=q H (Same.refl H)
   rw[zjV] at q
   refine vr rfl (.inl (ex2 pw _ ⟨rfl, .inr (.inl (.inl hpw)),vr rfl (ixT hp at1 (ex2 _ _ ⟨rfl,rfl,?_⟩))⟩))
   rw[ζa]
   exact q
  ·rcases zcM hn with z|z|z|z
   ·exact (bad z e1).elim
   ·exact (bad z e2).elim
   ·exact (bad z e3).elim
   ·exact (bad z e4).elim
theorem ziF(Y:Ev K mg):FnOk P w K mg base CX0 1 Y.a__law_holds Y.d__law_holds zag (znC (λ_=>false) (λ_ _ _ _=>false)):=by
 refine Y._law_holds.fn.okQ zej (λvs H Q E h=>?_) (λcdv A outer s H vs Q E hr h=>?_)
 ·obtain ⟨v,d,_,_,_,_,_,_,rfl,_,z,_⟩:=h;cases z
 ·obtain ⟨v,d,_,_,_,_,_,_,rfl,_,z,_⟩:=h;cases z
theorem zlA(Y:Ev K mg):FnOk P w K mg base CX0 3 Y.a__law_holds Y.d__law_holds zag (znC zw za2):=by
 refine zc2 (c:=zB) (g:=zb3) Y ?_ zw za2 zek ?_ ?_
 ·refine zc2 Y (ziF Y) zB zb3 zbu ?_ ?_
  ·intro ws ms to x e h z
   subst z
   exact absurd h (by rw[zci];exact ξe)
  ·exact λx e h _=>⟨h,λ_ _ _=>rfl⟩
 ·intro ws ms to x e h z
  subst z
  rw[zcy,if_pos rfl] at h
  exact⟨h,by show(!zb3 ws ms to e)=(if("not":Str)="not"then !zb3 ws ms to e else phB ws ms to "not" e);rw[if_pos rfl]⟩
 ·intro x e h z
  rw[zcy,if_neg z] at h
  exact⟨h,λws ms to=>by show phB ws ms to x e=(if x="not"then !zb3 ws ms to e else phB ws ms to x e);rw[if_neg z]⟩
end
section
variable{P:Program}{w:World}{K:ξk}{mg:Str->Option Value}{base:Heap}
theorem zlD{K:ξk}{a:Addr}{xs:List V}{lo hi:Option Int}{H:Hp}{Q:VK}(h:H a=some (.tup xs))(k:∀p H',H' p=some (.tup (zbB xs lo hi))->Same H H'->Q (.ref p) H'):zrF K (.ref a) lo hi H Q:=
 ⟨a,xs,rfl, .inl (.inl h),λz=>k a H (by rw[z];exact h) (Same.refl _),λp hp=>k p _ zb (Same.new hp)⟩
theorem zfx{K:ξk}{a b:Addr}{xs ys:List V}{H:Hp}{Q:VK}(ha:H a=some (.tup xs))(hb:H b=some (.tup ys))(hl:xs.length+ys.length<=1000)(k:∀p H',H' p=some (.tup (xs ++ys))->Same H H'->Q (.ref p) H'):znm K (.ref a) (.ref b) H Q:=
 ⟨a,b,xs,ys,rfl,rfl, .inl (.inl ha), .inl (.inl hb),ξg (zj hl),λz=>k b H (by rw[z];exact hb) (Same.refl _),λ_ z=>k a H (by rw[z,ξw];exact ha) (Same.refl _),λ_ _ p hp=>k p _ zb (Same.new hp)⟩
theorem zqW{cs:List D}{f:D->Bool}:((cs.map f).all id)=cs.all f:=by rw[List.all_map];rfl
noncomputable def zgo:Sp:=λvs H Q _=>∃(v:V) (pw pm:Addr) (vt:V) (x:Str) (ws ms:List Str) (to:Option Str) (g:Str) (hs:List Str) (ps:List (Str×Str)) (lks hds:List D) (j:Nat) (rs:List D) (O:List Str),vs=[v, .ref pw, .ref pm,vt]/\Rep H v (zaT g hs ps lks hds)/\TownOk g hs ps lks hds/\hs[j]?=some x/\hds[j]?=some (.tup rs)/\zcb O rs/\O.length<=14/\(∀y∈O,zh y=true)/\Mr O ms/\H pw=some (.tup ((x::ws).map V.str))/\H pm=some (.tup (ms.map V.str))/\TO vt to/\(∀y∈x::ws,zh y=true)/\ws.length<=90/\∀(u:V) (H':Hp),Told H' u (zv (x::ws) to rs ms)->Same H H'->Q u H'
theorem ziH(Y:Ev K mg):FnOk P w K mg base CX0 4 Y.a__law_handed Y.d__law_handed zaW zgo:=by
 have G__law_holds:FnOk P w K mg base CX0 3 Y.a__law_holds Y.d__law_holds zag (znC zw za2):=zlA Y
 refine Y._law_handed.fn.okQ c__law_handed (λvs H Q E h=>?_) (λcdv A outer s H vs Q E hr h=>?_)
 ·obtain ⟨v,pw,pm,vt,x,ws,ms,to,g,hs,ps,lks,hds,j,rs,O,rfl,_⟩:=h;rfl
 ·obtain ⟨v,pw,pm,vt,x,ws,ms,to,g,hs,ps,lks,hds,j,rs,O,rfl,hv,T,hj,hdj,HO',O14,On,M0,hpw,hpm,hto,nw,lw,q⟩:=h
  obtain⟨p,pr,pt,pl,pa,vtt,vl,va,rfl,hp,hpr,hpt,rt,hpl,rl,hpa,ra⟩:=zbx hv
  have hjl:j<hs.length:=by
   rcases ζw j hs.length with y|y
   ·exact y
   ·rw[ζi y] at hj;cases hj
  have hjv:j<va.length:=by rw[ra.1,T.lh];exact hjl
  have hvj:=ζd hjv
  obtain⟨pq,us,eq,hpq,ru,_⟩:=(ra.2 j _ _ hvj hdj).ofT
  rw[eq] at hvj
  have at1:∀{a b:V},atI [a,b] 1=some b:=λ{a b}=>zQ (j:=1) rfl
  refine⟨_,(zg (zbO PassesOwn.never rfl (zbD (zN ix_tup (zN ix_tup (qv 0) zf) (zdS PySem.F.plainAttrs_tuple PySem.F.slot_tuple_index PySem.F.type_tuple_index zen (zN ix_tup (qv 0) zf) (za (zN ix_tup (qc 1) zf) zd)))) (zdx 2 rfl (zu (zr 4 c__law_handed.nd) (zu (zcG 5 c__law_handed.nd) zbe))) (zm (zaP (ziA (zE (zlv rfl) Y.all zri (za (zb6 (src:=[none,some 2,some 3,some 1]) o__law_handed_1 rfl rfl (zbD (qv 4)) (λ_ _ _ _ _=>(zr 0 o__law_handed_1.nd)) (λ_ _ _ _ _=>zdN) (λ_ _ _ _ _=>(zn G__law_holds (hr.mono (by decide)) Y._law_holds.mg Y._law_holds.kp Y._law_holds.b .nil zq (za (qv 0) (za (qc 3) (za (qc 1) (za (qc 2) zd))))))) zd))) (zg (zaP (zC z5 (zN ix_tup (qc 5) zf) zah) (zm (zz zaC)) zab)
   (zg (zdG 2 c__law_handed.nd (zL zF Y.tuple zay (za (zb6 (src:=[none,some 5]) o__law_handed_2 rfl rfl (zbD (qc 2)) (λ_ _ _ _ _=>(zr 0 o__law_handed_2.nd)) (λ_ _ _ _ _=>(zd6 (zC zgr (qv 0) (zN (zhl (K:=K) rfl) (qc 1) zf)))) (λ_ _ _ _ _=>(qv 0))) zd)))
   (zm (zaP (zC z5 (zN ix_tup (qc 5) zf) zah) (zm (zdG 2 c__law_handed.nd (zL zF Y.tuple zay (za (zE zcJ Y.sorted zbV (za (zS zg9 (qc 2) (zD (za (zN ix_tup (qc 5) zf) zd))) zd)) zd)))) zab)))) zab)))
   (zm (zz (qc 2)))),?_⟩
  refine vr rfl (ixT hp (zQ (j:=4) rfl) (vr rfl (ixT hp (zQ (j:=1) rfl) ?_)))
  refine⟨.inr (.inr (.inr (.inr ⟨rfl,_,hpr⟩))),vr rfl (ixT hpw at0 (ex4 pr hs x j ⟨rfl,rfl, .inl (.inl hpr),hj,zfT T.hs_nd hj,?_⟩))⟩
  have s0:=Same.refl H
  refine ixT hpa (zQ hvj) ⟨pq,rfl,⟨_, .inl (.inl hpq)⟩,?_⟩
  refine zaU (zaI (K:=K) (xs:=us)) (λi σ' H'=>(∃ln t o4 o5,σ'=[some (.ref p),some (.ref pw),some (.ref ln),some vt,o4,o5]/\H' ln=some (.tup (t.map V.str))/\Mr O t/\zv (x::ws) to rs ms=zv (x::ws) to (rs.drop i) t)/\Same H H') ⟨(ex4 pm ms _ _ ⟨rfl,s0 _ _ hpm,M0,rfl⟩),s0⟩ (λi σ' H' z=> .inl (.inl (z.2 _ _ hpq))) ?_ ?_
  ·rintro i y σ' H3 hi hy ⟨⟨ln,t,o4,o5,rfl,hln,Mt,he⟩,s3⟩
   obtain⟨r,hr',rr⟩:=ru.get hy
   obtain⟨cs,xa,rfl,hcs,hx⟩:=HO'.2 r (ζk hr')
   obtain⟨q0,v0,v1,rfl,hq0,r0,r1⟩:=(rr.same s3).of2
   obtain⟨pc,uc,rfl,hpc,rc,lc1⟩:=r0.ofT
   have tl:=Mt.toMk.len O14
   have tn:∀y∈t,zh y=true:=λy hy=>On y (Mt.mem y hy)
   have lns:∀{HA HB:Hp},HA ln=some (.tup (t.map V.str))->Same HA HB->HB ln=some (.tup (t.map V.str)):=λh s=>s _ _ h
   refine ex2 q0 _ ⟨rfl, .inl (.inl hq0),rfl,ex2 _ _ ⟨rfl,ex2 _ _ ⟨rfl,rfl,?_⟩⟩⟩
   refine vr rfl ⟨pc,rfl,⟨_, .inl (.inl hpc)⟩,?_⟩
   refine zaR (zaI (K:=K) (xs:=uc)) (λl i ys σ' H'=>(∃o,σ'=[o,some (.ref ln),some vt,some (.ref pw)])/\ys=((cs.take i).map (za2 (x::ws) t to)).map V.bl/\Same H3 H') ?_ (λl i ys σ' H' hl z=> .inl (.inl (z.2.2 _ _ hpc))) ?_ ?_
   ·exact λl hl=>⟨⟨_,rfl⟩,rfl,Same.new hl⟩
   ·rintro l k y ys σ' H2 hl' hk hyk ⟨⟨o,rfl⟩,rfl,s2⟩ hl2
    obtain⟨c,hc,rcc⟩:=rc.get hyk
    have s12:=s3.trans s2
    refine vr rfl (vr rfl (vr rfl (vr rfl (ex8 y c pw ln vt (x::ws) t to ⟨rfl,rcc.same s2,hcs c (ζk hc),s12 _ _ hpw,lns hln s2,hto,nw,tn,by simp,by simp;omega,by omega,λH4 s4=>⟨s4 _ _ hl2,zj (by rw[ζa,ζa,ζl];omega),⟨_,rfl⟩,?_,λb o e=>by rw[zi (ze e hl')];exact(s2.trans s4) b o e⟩⟩))))
    rw[ξs,hc,ξb,ξb];rfl
   rintro l ys σ' H4 hl' ⟨⟨o,rfl⟩,rfl,s4⟩ hl4
   rw[rc.1,ξv] at hl4
   refine ex2 l _ ⟨rfl,SqL.of hl4,vr rfl ?_⟩
   rw[zqW]
   rw[zhj hr',zv] at he
   have er:zew (x::ws) t to (zgy (.tup [.tup cs,xa]))=cs.all (za2 (x::ws) t to):=rfl
   have et:zkt (.tup [.tup cs,xa])=xa:=rfl
   rw[er,et] at he
   cases hb:cs.all (za2 (x::ws) t to)with
   |false=>
    rw[hb,if_neg (by decide)] at he
    exact zbq rfl ⟨(ex4 ln t _ _ ⟨rfl,lns hln s4,Mt,he⟩),s3.trans s4⟩
   |true=>
    rw[hb,if_pos rfl] at he
    refine zbP rfl ?_
    rcases hx with rfl|⟨w1,m1,rfl,hw1,hm1⟩
    ·obtain ⟨pac,rfl,hpac⟩:=zc0 (xs:=["keep"]) (r1.same s4)
     refine vr rfl (ixT hpac at0 ⟨rfl,vr rfl (zbP (ζf rfl) ?_)⟩)
     exact q .non _ (by rw[he];rfl) (s3.trans s4)
    ·obtain ⟨pac,rfl,hpac⟩:=zc0 (xs:=[w1,m1]) (r1.same s4)
     refine vr rfl (ixT hpac at0 ⟨rfl,vr rfl (zbq (ζn λz=>by have z:=V.str.inj z;rcases hw1 with rfl|rfl<;>exact absurd z (by decide +kernel)) ?_)⟩)
     have hln5:=lns hln s4
     refine vr rfl ⟨ln,rfl,⟨_, .inl (.inl hln5)⟩,?_⟩
     refine zjW (g:=neD m1) (f:=λd=>d) (σr:=[some (.ref pac)]) (zaI (K:=K)) (λH' s'=> .inl (.inl (s' _ _ hln5))) (zdQ λy hy=>zA (tn y hy)) (by rw[ζa];omega) rfl ?_ (λx d HA sA rx hd=>by walk_at "dsp") λl5 us5 H6 s6 hl5 e5 r5=>?_
     ·intro z d HA Q1 sA rz hd q1
      obtain⟨b,_,rfl⟩:=List.mem_map.mp hd
      cases rz with|str _ _=>
      refine vr rfl (vr rfl (ixT (sA _ _ hpac) at1 ⟨rfl,vr rfl ?_⟩))
      rw[zbI]
      exact q1 HA (Same.refl _)
     rw[zmG] at r5
     have eus:=zgG r5
     subst eus
     have lf:=List.length_filter_le (λx=>!decide (x=m1)) t
     refine ex2 l5 _ ⟨rfl, .inl ⟨SqL.of e5,λp6 hp6=>?_⟩⟩
     have S6:=Same.new (o:= .tup ((t.filter λx=>!decide (x=m1)).map V.str)) hp6
     have e6:(upd H6 p6 (.tup ((t.filter λx=>!decide (x=m1)).map V.str))) p6=some (.tup ((t.filter λx=>!decide (x=m1)).map V.str)):=zb
     have hpac6:=S6 _ _ (s6 _ _ hpac)
     have s36:=((s3.trans s4).trans s6).trans S6
     generalize (upd H6 p6 (HO.tup ((t.filter λx=>!decide (x=m1)).map V.str)))=H7 at *
     refine vr rfl (ixT hpac6 at0 ⟨rfl,vr rfl ?_⟩)
     rcases hw1 with rfl|rfl
     ·refine zbP (ζf rfl) (vr rfl (vr rfl (ixT hpac6 at1 ⟨few rfl,λp7 hp7=>?_⟩)))
      have S7:=Same.new (o:= .tup [V.str m1]) hp7
      refine zfx (xs:=(t.filter λx=>!decide (x=m1)).map V.str) (ys:=[V.str m1]) (S7 _ _ e6) zb (by rw[ζa];show _+1<=_;omega) λp8 H8 hp8 s8=>?_
      have eb:(t.filter λx=>!decide (x=m1)).map V.str ++ [V.str m1]=(zal t "put" m1).map V.str:=by
       unfold zal
       rw[if_pos rfl,ξb];rfl
      have lbb:(zal t "put" m1).length<64:=by
       unfold zal
       rw[if_pos rfl,ζe,List.length_singleton];omega
      refine⟨p8,zal t "put" m1,rfl, .inr (.inl (.inl (by rw[hp8,eb]))),lbb,λss l9 hp9 hs9 hl9=>?_⟩
      have es:=zrd hp9 hs9 (zem Mt.nd)
      subst es
      refine ex2 l9 _ ⟨rfl, .inl ⟨SqL.of zb,λp10 hp10=>?_⟩⟩
      exact⟨⟨p10,zd0 t "put" m1,ex2 _ _ ⟨rfl,zb,Mt.next hm1,he⟩⟩,(((s36.trans S7).trans s8).trans (Same.new hl9)).trans (Same.new hp10)⟩
     ·refine zbq (ζn λz=>absurd (V.str.inj z) (by decide +kernel)) ⟨⟨p6,zd0 t "strike" m1,ex2 _ _ ⟨rfl,by rw[zir Mt];exact e6,Mt.next hm1,he⟩⟩,s36⟩
  ·rintro σ' H3 ⟨⟨ln,t,o4,o5,rfl,hln,Mt,he⟩,s3⟩
   rw[ru.1,List.drop_length,zv] at he
   exact vr rfl (q _ _ (by rw[he];exact⟨ln,rfl,hln⟩) s3)
end
section
variable{P:Program}{w:World}{K:ξk}{mg:Str->Option Value}{base:Heap}
theorem zok{σ:L2.St}{H:Hp}{R:It->Hp->Prop}{i:Nat}{pm:Addr}{xs:List V}(hv:σ[i]?=some (some (.ref pm)))(h:H pm=some (.tup xs)\/H pm=some (.lst xs))(k:∀(J:It) (ok:Hp->Prop),Wk J xs.length (λi x=>xs[i]?=some x) ok->(∀H',Same H H'->ok H')->R J H):zo6 K (zkX i) σ H R\/zkH K (zkX i) σ H R:=by
 rcases h with h|h
 ·exact .inl ⟨_,hv,pm,rfl,⟨_, .inl (.inl h)⟩,k _ _ (zaI (K:=K) (xs:=xs)) λH' s=> .inl (.inl (s _ _ h))⟩
 ·exact .inr ⟨_,hv,pm,rfl,⟨_,SqL.of h⟩,k _ _ (zdi (K:=K) (xs:=xs)) λH' s=>SqL.of (s _ _ h)⟩
theorem zfY{ws ms:List Str}:∀{rs:List D},(∀r∈rs,zW r=true)->z4 ws ms rs= .non\/∃i,z4 ws ms rs= .int i
 |[],_=> .inr ⟨0,rfl⟩
 |r::rs,h=>by
  rw[z4]
  by_cases z:zew ws ms none (zgy r)=true
  ·rw[if_pos z]
   obtain⟨cs,x,rfl,_,_,hx⟩:=zgA (h r ζo)
   exact hx
  ·rw[if_neg z]
   exact zfY λr hr=>h r (ξc _ hr)
structure EOk(x:Str)(rs:List D)(e:WM):Prop where
 hd:∃ws,e.1=x::ws
 nw:∀y∈e.1,zh y=true
 nm:∀y∈e.2,zh y=true
 lw:e.1.length<=80
 lm:e.2.length<=100
 wt:z4 e.1 e.2 rs= .int (wI rs e)
theorem znE{g:Str}{hs:List Str}{ps:List (Str×Str)}{lks hds:List D}(T:TownOk g hs ps lks hds){x:Str}(h:x∈hs):∃(j:Nat) (rs:List D),hs[j]?=some x/\lks[j]?=some (.tup rs)/\zK hs lks x=rs/\∀r∈rs,zW r=true:=by
 obtain⟨j,rs,e1,e2,hh⟩:=zqV T h
 exact⟨j,rs,e1,e2,zfa T.hs_nd e1 e2,hh.2⟩
theorem zrO{g:Str}{hs:List Str}{ps:List (Str×Str)}{lks hds:List D}(T:TownOk g hs ps lks hds){x a:Str}{ws m:List Str}(hx:x∈hs)(h:zI hs lks hds (x::a::ws)=some m):z4 (x::a::ws) m (zK hs lks x)= .int (wI (zK hs lks x) (x::a::ws,m)):=by
 obtain⟨j,rs,_,_,er,hl⟩:=znE T hx
 have n:zdH (z4 (x::a::ws) m (zK hs lks x))=false:=by
  rw[zI] at h
  cases e:zI hs lks hds (a::ws)with
  |none=>rw[e] at h;cases h
  |some t=>
   rw[e] at h
   have h:zbN hs lks hds x (a::ws) t=some m:=h
   unfold zbN at h
   cases e2:zv (a::ws) (some x) (zK hs hds ((a::ws).headD "")) t with
   |none=>rw[e2] at h;cases h
   |some t'=>
    rw[e2] at h
    dsimp only at h
    by_cases c:zdH (z4 (x::a::ws) t' (zK hs lks x))=true
    ·rw[if_pos c] at h;cases h
    ·rw[if_neg c] at h;cases h;exact tru c
 rcases zfY (ws:=x::a::ws) (ms:=m) (rs:=zK hs lks x) (by rw[er];exact hl)with z|⟨i,z⟩
 ·rw[z] at n;cases n
 ·rw[z];unfold wI;simp only[z]
theorem zqF{g:Str}{hs:List Str}{ps:List (Str×Str)}{lks hds:List D}{O:List Str}(T:TownOk g hs ps lks hds)(PO:Pool hs lks hds O){x a:Str}{w m:List Str}(hx:x∈hs)(hw:WyOk hs a (some w))(nx:x∉w)(h:zI hs lks hds (x::w)=some m):EOk x (zK hs lks x) (x::w,m):=by
 obtain⟨⟨ws,ew⟩,hin,nd⟩:=id hw
 have l10:=WyOk.len hw T.ten
 have hin':∀z∈x::w,z∈hs:=λz hz=>(List.mem_cons.mp hz).elim (λz=>z▸hx) (hin z)
 have Mm:=zdX T PO hin' h
 refine⟨⟨w,rfl⟩,λy hy=>T.names y (hin' y hy),λy hy=>PO.nm y (Mm.mem y hy),by show(x::w).length<=80;rw[ζv];omega,ξa (Mm.toMk.len PO.few) (by decide),?_⟩
 subst ew
 exact zrO T hx h
def zog(H:Hp)(st:Addr)(s:List zaH):Prop:=∃us,(H st=some (.tup us)\/H st=some (.lst us))/\RepL H us (s.map rwD)
end
section
variable{P:Program}{w:World}{K:ξk}{mg:Str->Option Value}{base:Heap}
theorem none_of{H H':Hp}{a:Addr}(s:Same H H')(h:H' a=none):H a=none:=by
 cases e:H a with
 |none=>rfl
 |some o=>rw[s _ _ e] at h;cases h
noncomputable def zjO:Sp:=λvs H Q _=>∃(v:V) (g:Str) (hs:List Str) (ps:List (Str×Str)) (lks hds:List D),vs=[v]/\Rep H v (zaT g hs ps lks hds)/\TownOk g hs ps lks hds/\∀(l:Addr) (us:List V) (H':Hp),H l=none->H' l=some (.lst us)->zaq H' us ((zcS hs ps).map l2)->Same H H'->Q (.ref l) H'
theorem zpk{H:Hp}{us:List V}{ps:List (Str×Str)}(r:RepL H us (ps.map pairD)):zaq H us (ps.map l2):=by
 refine⟨by rw[r.1,ζa,ζa],λi v p e1 e2=>?_⟩
 rw[ζp] at e2
 cases e3:ps[i]? with
 |none=>rw[e3] at e2;cases e2
 |some q=>
  rw[e3] at e2;cases e2
  have rr:=r.2 i v (pairD q) e1 (by rw[ζp,e3];rfl)
  exact zc0 (xs:=l2 q) rr
theorem zpp{hs:List Str}{ps:List (Str×Str)}(pw:ps.Pairwise (λa b=>ltP a b=true))(ht:∀p∈ps,p.1∈hs/\p.2∈hs/\ltS p.1 p.2=true):(ps ++ps.map λp=>(p.2,p.1)).Nodup:=by
 have nd:ps.Nodup:=pw.imp λh z=>by rw[z,zcx] at h;cases h
 refine List.nodup_append.mpr ⟨nd,List.pairwise_map.mpr (nd.imp λh z=>h (Prod.ext (congrArg Prod.snd z) (congrArg Prod.fst z))),λp hp q hq z=>?_⟩
 obtain⟨r,hr,rfl⟩:=List.mem_map.mp hq
 have h1:=(ht p hp).2.2
 have h2:=(ht r hr).2.2
 rw[z] at h1
 have h1:ltS r.2 r.1=true:=h1
 rw[zdV h2] at h1;cases h1
theorem zm6(Y:Ev K mg):FnOk P w K mg base CX0 1 Y.a__law_pairs Y.d__law_pairs za8 zjO:=by
 refine Y._law_pairs.fn.okQ zgT (λvs H Q E h=>?_) (λcdv A outer s H vs Q E hr h=>?_)
 ·obtain ⟨v,g,hs,ps,lks,hds,rfl,_⟩:=h;rfl
 ·obtain ⟨v,g,hs,ps,lks,hds,rfl,hv,T,q⟩:=h
  have lp:=T.lp
  obtain⟨p,pr,pt,pl,pa,vt,vl,va,rfl,hp,hpr,hpt,rt,hpl,rl,hpa,ra⟩:=zbx hv
  have lvt:vt.length=ps.length:=by rw[rt.1,ζa]
  refine⟨_,(zm (zz (zE zge Y.sorted zbV (za (zS zjw (zL zg3 Y.list zol (za (zN ix_tup (qv 0) zf) zd)) (zb6 (src:=[none,none]) o__law_pairs_1 rfl rfl (zbD (zN ix_tup (qv 0) zf)) (λ_ _ _ _ _=>(zfH (K:=K) 2 rfl rfl (zu (zr 0 o__law_pairs_1.nd) (zu (zr 1 o__law_pairs_1.nd) zbe)))) (λ_ _ _ _ _=>zdN) (λ_ _ _ _ _=>(zD (za (qv 1) (za (qv 0) zd)))))) zd)))),?_⟩
  refine vr rfl (ixT hp (zQ (j:=2) rfl) (ex2 pt vt ⟨rfl, .inr (.inl (.inl hpt)),λl1 hl1=>?_⟩))
  have S1:=Same.new (o:= .lst vt) hl1
  refine vr rfl (ixT (S1 _ _ hp) (zQ (j:=2) rfl) ⟨pt,rfl,⟨_, .inl (.inl (S1 _ _ hpt))⟩,?_⟩)
  have e1:upd H l1 (.lst vt) l1=some (.lst vt):=zb
  generalize (upd H l1 (HO.lst vt))=H1 at *
  have tv:=zpk rt
  refine zaR (zaI (K:=K) (xs:=vt)) (λlc i ys σ' H'=>(∃o0 o1,σ'=[o0,o1])/\zaq H' ys (((ps.take i).map λp=>(p.2,p.1)).map l2)/\Same H1 H') ?_ ?_ ?_ ?_
  ·exact λlc hlc=>⟨(ex2 _ _ rfl),zml,Same.new hlc⟩
  ·exact λlc i ys σ' H' hlc z=> .inl (.inl (z.2.2 _ _ (S1 _ _ hpt)))
  ·rintro lc i y ys σ' H2 hlc hi hy ⟨⟨o0,o1,rfl⟩,ty,s2⟩ hlc'
   obtain⟨pr',epr⟩:∃q,ps[i]?=some q:=⟨_,ζd (by omega)⟩
   obtain⟨b,rfl,hb⟩:=tv.2 i y (l2 pr') hy (by rw[ζp,epr];rfl)
   have hb2:=s2 _ _ (S1 _ _ hb)
   refine ex2 b _ ⟨rfl, .inl (.inl hb2),rfl,ex2 _ _ ⟨rfl,ex2 _ _ ⟨rfl,rfl,?_⟩⟩⟩
   refine vr rfl (vr rfl ⟨few rfl,λb3 hb3=>?_⟩)
   have S3:=Same.new (o:= .tup [V.str pr'.2,V.str pr'.1]) hb3
   have hlc3:=S3 _ _ hlc'
   have hyl:ys.length<=100:=by rw[ty.1,ζa,ζa,ζl];omega
   have up:∀c zs,upd H2 b3 (.tup [V.str pr'.2,V.str pr'.1]) c=some (.tup zs)->upd (upd H2 b3 (.tup [V.str pr'.2,V.str pr'.1])) lc (.lst (ys ++ [.ref b3])) c=some (.tup zs):=λc zs e=>by rw[zi (zca e hlc3 (λz=>nomatch z))];exact e
   refine⟨hlc3,zj (by omega),(ex2 _ _ rfl),?_,λc o e=>by rw[zi (ze e hlc)];exact S3 _ _ (s2 c o e)⟩
   rw[ξs,epr,ξb,ξb]
   exact zkB (zdy ty λc zs e=>up _ _ (S3 _ _ e)) (zpH (p:=l2 (pr'.2,pr'.1)) (up _ _ zb))
  rintro lc ys σ' H2 hlc ⟨⟨o0,o1,rfl⟩,ty,s2⟩ hlc'
  rw[lvt,ξv] at ty
  have hyl:ys.length=ps.length:=by rw[ty.1,ζa,ζa]
  refine ex4 l1 lc _ _ ⟨rfl,rfl,s2 _ _ e1,hlc',ξg (zj (by omega)),λl3 hl3=>?_⟩
  have S3:=Same.new (o:= .lst (vt ++ys)) hl3
  have t3:zaq (upd H2 l3 (.lst (vt ++ys))) (vt ++ys) ((ps ++ps.map λp=>(p.2,p.1)).map l2):=by
   rw[ξb]
   exact zkB (zdy tv λc zs e=>S3 _ _ (s2 _ _ (S1 _ _ e))) (zdy ty λc zs e=>S3 _ _ e)
  have ndp:=zpp T.riseP T.ties
  refine ex3 l3 _ _ ⟨rfl, .inl (SqL.of zb),t3,λq hq=>?_,List.pairwise_map.mpr (ndp.imp λh z=>h (zmC z)),by rw[ζa,ζe,ζa];omega,λps' vs' l4 hperm hpw hat hl4=>?_⟩
  ·obtain ⟨p,_,rfl⟩:=List.mem_map.mp hq;exact Nat.zero_lt_two
  obtain⟨qs,rfl,hpp⟩:=zkF hperm
  have S4:=Same.new (o:= .lst vs') hl4
  have eq:=zof T hpp ((List.pairwise_map.mp hpw).imp λh=>by rw[zko] at h;exact h)
  subst eq
  exact q l4 vs' _ (none_of ((S1.trans s2).trans S3) hl4) zb (zdy hat λc zs e=>S4 _ _ e) (((S1.trans s2).trans S3).trans S4)
noncomputable def zj6:Sp:=λvs H Q _=>∃(v:V) (g:Str) (hs:List Str) (ps:List (Str×Str)) (lks hds:List D) (O:List Str),vs=[v]/\Rep H v (zaT g hs ps lks hds)/\TownOk g hs ps lks hds/\Pool hs lks hds O/\∀(u:V) (H':Hp),Rep H' u (stD (zcn g hs ps hds))->Same H H'->Q u H'
theorem zla(Y:Ev K mg):FnOk P w K mg base CX0 5 Y.a__law_begun Y.d__law_begun zbb zj6:=by
 have G__law_pairs:FnOk P w K mg base CX0 1 Y.a__law_pairs Y.d__law_pairs za8 zjO:=zm6 Y
 have G__law_handed:FnOk P w K mg base CX0 4 Y.a__law_handed Y.d__law_handed zaW zgo:=ziH Y
 refine Y._law_begun.fn.okQ c__law_begun (λvs H Q E h=>?_) (λcdv A outer s H vs Q E hr h=>?_)
 ·obtain ⟨v,g,hs,ps,lks,hds,O,rfl,_⟩:=h;rfl
 ·obtain ⟨v,g,hs,ps,lks,hds,O,rfl,hv,T,PO,q⟩:=h
  refine⟨_,(zg (zO 1 c__law_begun.nd (zcO zd))
   (zg (zbO PassesOwn.never rfl (zeo (zn G__law_pairs (hr.mono (by decide)) Y._law_pairs.mg Y._law_pairs.kp Y._law_pairs.b .nil zq (za (qv 0) zd))) (zdx 2 rfl (zu (zr 2 c__law_begun.nd) (zu (zr 3 c__law_begun.nd) zbe))) (zgp (zO 4 c__law_begun.nd (zpT (zbH z5 (qv 2) (zN ix_tup (qv 0) zf)) (zps (zbH zgX (zn G__law_handed (hr.mono (by decide)) Y._law_handed.mg Y._law_handed.kp Y._law_handed.b .nil zq (za (qv 0) (za (zD (za (qv 2) zd)) (za (zD zd) (za (qv 3) zd))))) zaC))))
   (zm (zbK (zdS PySem.F.plainAttrs_list PySem.F.slot_list_append PySem.F.type_list_append zan (qv 1) (za (zD (za (qv 2) (za (qv 3) (za zaC (za (zS zmO (zD (za (zD (za (qv 2) zd)) zd)) (zL zbU Y.int zep (za (qv 4) zd))) zd))))) zd))))))
   (zm (zz (zL zF Y.tuple zay (za (qv 1) zd)))))),?_⟩
  refine⟨few rfl,λlr hlr=>?_⟩
  have S0:=Same.new (o:= .lst []) hlr
  refine vr rfl (ex4 v g hs ps (ex2 lks hds ⟨rfl,hv.same S0,T,λl us H1 hl0 hl tus s1=>?_⟩))
  have lq:=ziz T
  have hqs:∀q∈zcS hs ps,q.1∈hs/\q.2∈hs:=λq hq=>by
   have hq':=(zfA T).mp hq
   exact⟨hq'.elim (λz=>(T.ties _ z).1) (λz=>(T.ties _ z).2.1),hq'.elim (λz=>(T.ties _ z).2.1) (λz=>(T.ties _ z).1)⟩
  obtain⟨qs,eqs⟩:∃qs,qs=zcS hs ps:=⟨_,rfl⟩
  have ebs:zcn g hs ps hds=qs.map (za0 g hs hds):=by rw[eqs];rfl
  rw[←eqs] at tus lq hqs
  have hlr1:=s1 _ _ (zb (H:=H) (a:=lr) (o:= .lst []))
  have s01:=S0.trans s1
  have hul:us.length=qs.length:=by rw[tus.1,ζa]
  refine⟨l,rfl,⟨_,SqL.of hl⟩,?_⟩
  have nll:l≠lr:=λz=>by rw[z,zb] at hl0;cases hl0
  obtain⟨p,pr,pt,pl,pa,vt,vl,va,rfl,hp,hpr,hpt,rt,hpl,rl,hpa,ra⟩:=zbx hv
  refine zaU (zdi (K:=K) (xs:=us)) (λi σ' H'=>(∃o2 o3 o4,σ'=[some (.ref p),some (.ref lr),o2,o3,o4])/\(∃(zs:List V),H' lr=some (.lst zs)/\RepL H' zs (((qs.take i).map (za0 g hs hds)).map rwD))/\(∀c o,c≠lr->H1 c=some o->H' c=some o)) ?_ ?_ ?_ ?_
  ·exact ⟨(ex3 _ _ _ rfl),⟨[],hlr1, .nil⟩,λc o _ e=>e⟩
  ·exact λi σ' H' z=>SqL.of (z.2.2 _ _ nll hl)
  ·rintro i y σ' H2 hi hy ⟨⟨o2,o3,o4,rfl⟩,⟨zs,hz,rz⟩,k2⟩
   obtain⟨qr,eqr⟩:∃q,qs[i]?=some q:=⟨_,ζd (by omega)⟩
   obtain⟨b,rfl,hb⟩:=tus.2 i y (l2 qr) hy (by rw[ζp,eqr];rfl)
   have nT:∀{c:Addr} {xs:List V},H1 c=some (.tup xs)->H2 c=some (.tup xs):=λ{c xs} e=>k2 _ _ (λz=>by rw[z,hlr1] at e;cases e) e
   have hb2:=nT hb
   have hp2:=nT (s01 _ _ hp)
   obtain⟨qa,qb⟩:=qr
   obtain⟨ma,mb⟩:=hqs _ (ζk eqr)
   have na:=T.names qa ma
   have nb:=T.names qb mb
   refine ex2 b _ ⟨rfl, .inl (.inl hb2),rfl,ex2 _ _ ⟨rfl,ex2 _ _ ⟨rfl,rfl,?_⟩⟩⟩
   refine⟨λσ' H'=>(∃c:Bool,σ'=[some (.ref p),some (.ref lr),some (.str qa),some (.str qb),some (.bl c)]/\(za0 g hs hds (qa,qb)).2.2.2=if c then [some [qa]] else [])/\Same H2 H',?_,?_⟩
   ·refine vr rfl (vr rfl (ixT hp2 at0 ⟨rfl,vr rfl (zbi (λeg=>?_) (λeg=>?_))⟩))
    ·refine vr rfl (vr rfl ⟨few rfl,λb1 hb1=>⟨few rfl,λb3 hb3=>(vr rfl ?_)⟩⟩)
     have B1:=Same.new (o:= .tup [V.str qa]) hb1
     have B3:=Same.new (o:= .tup []) hb3
     have B13:=B1.trans B3
     obtain⟨j,rs,hj,hdj,er,hk⟩:=zkw T PO ma
     have hv2:Rep (upd (upd H2 b1 (.tup [V.str qa])) b3 (.tup [])) (.ref p) (zaT g hs ps lks hds):=by
      refine Rep.same ?_ B13
      refine(hv.same s01).mono ⟨λc xs e=>nT e,λc xs e=>?_,λc xs e=>?_⟩
      ·by_cases z:c=lr
       ·exact ⟨zs,by rw[z];exact hz⟩
       ·exact ⟨xs,k2 _ _ z e⟩
      ·exact ⟨xs,k2 _ _ (λz=>by rw[z,hlr1] at e;cases e) e⟩
     refine ex8 (.ref p) b1 b3 (.str qb) qa [] [] (some qb) (ex8 g hs ps lks hds j rs O ⟨rfl,hv2,T,hj,hdj,hk,PO.few,PO.nm,Mr.nil,B3 _ _ zb,zb, .inr ⟨qb,rfl,rfl,nb⟩,λy hy=>by rw[List.mem_singleton.mp hy];exact na,by decide,λu H3 tu s3=>⟨rfl,?_⟩⟩)
     have eg:qa=g:=by have:=ζh eg;injection this
     subst eg
     cases ho:zv [qa] (some qb) rs [] with
     |none=>
      rw[ho] at tu
      cases(show u= .non from tu)
      refine⟨(vr rfl ?_),B13.trans s3⟩
      unfold za0 zcU
      dsimp only[List.headD]
      rw[if_pos rfl,er,ho];rfl
     |some m=>
      rw[ho] at tu
      obtain⟨pu,rfl,hpu⟩:=tu
      refine⟨(vr rfl ?_),B13.trans s3⟩
      unfold za0 zcU
      dsimp only[List.headD]
      rw[if_pos rfl,er,ho];rfl
    ·refine ⟨(vr rfl ?_),Same.refl _⟩
     unfold za0
     dsimp only
     rw[if_neg (λz=>by rw[show qa=g from z] at eg;simp at eg)];rfl
   ·rintro σ' H3 ⟨⟨c,rfl,hbr⟩,s3⟩
    have hz3:=s3 _ _ hz
    refine vr rfl ⟨.inl ⟨rfl,_,SqL.of hz3⟩,?_⟩
    refine vr rfl (vr rfl (vr rfl ⟨few rfl,λb1 hb1=>⟨few rfl,λb2 hb2'=>(vr rfl (.inr ⟨c,rfl,?_⟩))⟩⟩))
    have B1:=Same.new (o:= .tup [V.str qa]) hb1
    have B2:=Same.new (o:= .tup [V.ref b1]) hb2'
    have e1:=B2 _ _ (zb (H:=H3) (a:=b1) (o:= .tup [V.str qa]))
    have e2:(upd (upd H3 b1 (.tup [V.str qa])) b2 (.tup [V.ref b1])) b2=some (.tup [V.ref b1]):=zb
    have B12:=B1.trans B2
    generalize (upd (upd H3 b1 (HO.tup [V.str qa])) b2 (HO.tup [V.ref b1]))=H4 at *
    have s24:=s3.trans B12
    have fin:∀(q4:Addr) (ws:List V) (H5:Hp),H5 q4=some (.tup ws)->RepL H5 ws ((za0 g hs hds (qa,qb)).2.2.2.map zcR)->Same H4 H5->∀p6,H5 p6=none->∃(l:Addr) (xs:List V) (y:V),V.ref lr= .ref l/\ [V.ref p6]=[y]/\upd H5 p6 (.tup [.str qa, .str qb, .non, .ref q4]) l=some (.lst xs)/\xs.length<sizeLine/\(∃o2 o3 o4,[some (V.ref p),some (.ref lr),some (.str qa),some (.str qb),some (.bl c)]=[some (V.ref p),some (.ref lr),o2,o3,o4])/\(∃(zs:List V),upd (upd H5 p6 (.tup [.str qa, .str qb, .non, .ref q4])) l (.lst (xs ++ [y])) lr=some (.lst zs)/\RepL (upd (upd H5 p6 (.tup [.str qa, .str qb, .non, .ref q4])) l (.lst (xs ++ [y]))) zs (((qs.take (i+1)).map (za0 g hs hds)).map rwD))/\∀c o,c≠lr->H1 c=some o->upd (upd H5 p6 (.tup [.str qa, .str qb, .non, .ref q4])) l (.lst (xs ++ [y])) c=some o:=by
     intro q4 ws H5 h4 rw4 s45 p6 hp6
     have s25:=s24.trans s45
     have S6:=Same.new (o:= .tup [.str qa, .str qb, .non, .ref q4]) hp6
     have hz6:=S6 _ _ (s25 _ _ hz)
     have lzs:zs.length<=90:=by rw[rz.1,ζa,ζa,ζl];omega
     have rr:Rep (upd H5 p6 (.tup [.str qa, .str qb, .non, .ref q4])) (.ref p6) (rwD (za0 g hs hds (qa,qb))):=zjT (r:=za0 g hs hds (qa,qb)) zb (zA na) (zA nb) .non (S6 _ _ h4) (rw4.mono (.of S6)) (ξa zhq (by decide))
     refine ex3 lr zs _ ⟨rfl,rfl,hz6,zj (by omega),(ex3 _ _ _ rfl),⟨_,zb,?_⟩,λc o c1 e=>?_⟩
     ·rw[ξs,eqr,ξb,ξb]
      exact RepL.mono (.append ((rz.mono (.of s25)).mono (.of S6)) (.cons rr .nil)) (.lset hz6)
     ·rw[zi c1];exact S6 _ _ (s25 _ _ (k2 c o c1 e))
    cases c with
    |true=>
     refine ex2 b2 _ ⟨rfl, .inl (.inl e2),(λz=>nomatch z), .inl ⟨rfl,few rfl,λp6 hp6=>?_⟩⟩
     exact fin b2 [.ref b1] H4 e2 (by rw[hbr];exact .cons (.mk1 e1 (.str _ (zA na))) .nil) (Same.refl _) p6 hp6
    |false=>
     refine ex2 b2 _ ⟨rfl, .inl (.inl e2),(λz=>nomatch z), .inr ⟨rfl,λq4 hq4=>⟨few rfl,λp6 hp6=>?_⟩⟩⟩
     exact fin q4 [] _ zb (by rw[hbr];exact .nil) (Same.new hq4) p6 hp6
  ·rintro σ' H2 ⟨⟨o2,o3,o4,rfl⟩,⟨zs,hz,rz⟩,k2⟩
   rw[hul,ξv,←ebs] at rz
   refine vr rfl (ex2 lr zs ⟨rfl, .inl ⟨SqL.of hz,λp6 hp6=>?_⟩⟩)
   refine q _ _ (.mkL zb (by rw[ζa];have:=(zhi T).len;omega) (rz.mono (.new hp6))) λc o e=>?_
   refine Same.new hp6 _ _ (k2 _ _ (ze e hlr) (s01 _ _ e))
end
section
variable{P:Program}{w:World}{K:ξk}{mg:Str->Option Value}{base:Heap}
noncomputable def zjz:Sp:=λvs H Q _=>∃(v:V) (sr:List zaH) (hs:List Str),vs=[v]/\Rep H v (stD sr)/\StOk hs sr/\(∀x∈hs,zh x=true)/\∀(l:Addr) (us:List V) (H':Hp),H l=none->H' l=some (.lst us)->RepL H' us (zeD sr)->Same H H'->Q (.ref l) H'
theorem zjh{sr:List zaH}{us:List V}{H:Hp}{i:Nat}{y:V}(r:RepL H us (sr.map rwD))(hy:us[i]?=some y):∃ro,sr[i]?=some ro/\Rep H y (rwD ro):=by
 obtain⟨d,hd,rd⟩:=r.get hy
 rw[ζp] at hd
 cases e:sr[i]? with
 |none=>rw[e] at hd;cases hd
 |some ro=>rw[e] at hd;cases hd;exact⟨ro,rfl,rd⟩
theorem zhD{sr:List zaH}{i:Nat}{r:zaH}(h:sr[i]?=some r):zeD (sr.take (i+1))=zeD (sr.take i)++(List.range r.2.2.2.length).map λ(k:Nat)=>D.tup [.str r.1, .str r.2.1, .int k]:=by
 unfold zeD
 rw[ξs,h,List.flatMap_append]
 congr 1
 show((List.range r.2.2.2.length).map λ(k:Nat)=>D.tup [.str r.1, .str r.2.1, .int k])++ []=_
 rw[ξw]
theorem zrP{H:Hp}{p:Addr}{x y:Str}{k:Int}(h:H p=some (.tup [.str x, .str y, .int k]))(hx:zh x=true)(hy:zh y=true):Rep H (.ref p) (.tup [.str x, .str y, .int k]):= .mkL h (Nat.le_of_ble_eq_true rfl) (.cons (.str _ (zA hx)) (.cons (.str _ (zA hy)) (.cons (.int _) .nil)))
theorem zhN(Y:Ev K mg):FnOk P w K mg base CX0 1 Y.a__law_comings Y.d__law_comings zaJ zjz:=by
 refine Y._law_comings.fn.okQ c__law_comings (λvs H Q E h=>?_) (λcdv A outer s H vs Q E hr h=>?_)
 ·obtain ⟨v,sr,hs,rfl,_⟩:=h;rfl
 ·obtain ⟨v,sr,hs,rfl,hv,S,hn,q⟩:=h
  obtain⟨st,us,rfl,hst,rus,_⟩:=hv.ofT
  have hul:us.length=sr.length:=by rw[rus.1,ζa]
  have sl:=S.len
  refine⟨_,(zg (zO 1 c__law_comings.nd (zcO zd))
   (zg (zbO PassesOwn.never rfl (zbD (qv 0)) (zdx 4 rfl (zu (zcG 2 c__law_comings.nd) (zu (zcG 3 c__law_comings.nd) (zu (zr 4 c__law_comings.nd) (zu (zr 5 c__law_comings.nd) zbe))))) (zm (zbK (zdS PySem.F.plainAttrs_list PySem.F.slot_list_extend PySem.F.type_list_extend zgB (qv 1) (za (zb6 (src:=[none,some 2,some 3]) o__law_comings_1 rfl rfl (zbY Y.range (za (zE zae Y.len zbL (za (qv 5) zd)) zd)) (λ_ _ _ _ _=>(zr 0 o__law_comings_1.nd)) (λ_ _ _ _ _=>zdN) (λ_ _ _ _ _=>(zD (za (qc 1) (za (qc 2) (za (qv 0) zd)))))) zd)))))
   (zm (zz (qv 1))))),?_⟩
  refine⟨few rfl,λlf hlf=>?_⟩
  have S0:=Same.new (o:= .lst []) hlf
  refine vr rfl ⟨st,rfl,⟨_, .inl (.inl (S0 _ _ hst))⟩,?_⟩
  have nst:st≠lf:=ze hst hlf
  refine zaU (zaI (K:=K) (xs:=us)) (λi σ' H'=>(∃o2 o3 o4 o5,σ'=[some (.ref st),some (.ref lf),o2,o3,o4,o5])/\(∃zs,H' lf=some (.lst zs)/\RepL H' zs (zeD (sr.take i)))/\(∀c o,H c=some o->H' c=some o)) ?_ ?_ ?_ ?_
  ·exact ⟨(ex4 _ _ _ _ rfl),⟨[],zb, .nil⟩,S0⟩
  ·exact λi σ' H' z=> .inl (.inl (z.2.2 _ _ hst))
  ·rintro i y σ' H1 hi hy ⟨⟨o2,o3,o4,o5,rfl⟩,⟨zs,hz,rz⟩,s1⟩
   obtain⟨r,er,rd⟩:=zjh rus hy
   have rok:=S.row r (ζk er)
   obtain⟨b,u,qq,ws,rfl,hb,tu,hq,rws⟩:=zg5 (rd.same s1)
   have lw:ws.length=r.2.2.2.length:=by rw[rws.1,ζa]
   have l3:=rok.len
   have lc:=zhg (hs:=hs) (s:=sr.take i) λr hr=>S.row r (ξu hr)
   rw[ζl] at lc
   have lz:=rz.1
   refine ex2 b _ ⟨rfl, .inl (.inl hb),rfl,ex2 _ _ ⟨rfl,ex2 _ _ ⟨rfl,ex2 _ _ ⟨rfl,ex2 _ _ ⟨rfl,rfl,?_⟩⟩⟩⟩⟩
   refine vr rfl ⟨.inl ⟨rfl,_,SqL.of hz⟩,?_⟩
   refine vr rfl (.inl (ex2 qq _ ⟨rfl, .inr (.inl (.inl hq)),ws.length,rfl,by omega,by omega,?_⟩))
   rw[Int.toNat_natCast]
   refine zaR zbZ (λlc j ys σ' H'=>(∃o,σ'=[o,some (.str r.1),some (.str r.2.1)])/\RepL H' ys ((List.range j).map λ(k:Nat)=>D.tup [.str r.1, .str r.2.1, .int k])/\Same H1 H') ?_ (λ_ _ _ _ _ _ _=>trivial) ?_ ?_
   ·exact λlc hlc=>⟨⟨_,rfl⟩, .nil,Same.new hlc⟩
   ·rintro lc j y ys σ' H2 hlc hj rfl ⟨⟨o,rfl⟩,ry,s2⟩ hlc'
    have e0j:(0:Int)+(j:Int)=(j:Int):=by omega
    rw[e0j]
    refine vr rfl (vr rfl (vr rfl ⟨few rfl,λb3 hb3=>?_⟩))
    have S3:=Same.new (o:= .tup [V.str r.1,V.str r.2.1,V.int (j:Int)]) hb3
    have hlc3:=S3 _ _ hlc'
    have hyl:=ry.1
    rw[ζa,List.length_range] at hyl
    refine⟨hlc3,zj (by omega),⟨_,rfl⟩,?_,λc o e=>by rw[zi (ze e hlc)];exact S3 _ _ (s2 c o e)⟩
    rw[List.range_succ,ξb]
    exact RepL.mono (.append (ry.mono (.of S3)) (.cons (zrP zb (hn _ rok.a) (hn _ rok.b)) .nil)) (.lset hlc3)
   ·rintro lc ys σ' H2 hlc ⟨⟨o,rfl⟩,ry,s2⟩ hlc'
    have hz2:=s2 _ _ hz
    have hyl:=ry.1
    rw[ζa,List.length_range] at hyl
    refine ex4 lf lc _ _ ⟨rfl,rfl,hz2,hlc',ξg (zj (by omega)),(ex4 _ _ _ _ rfl),⟨_,zb,?_⟩,λc o e=>by rw[zi (ze e hlf)];exact s2 _ _ (s1 c o e)⟩
    rw[zhD er,←lw]
    exact RepL.mono (.append (rz.mono (.of s2)) ry) (.lset hz2)
  ·rintro σ' H1 ⟨⟨o2,o3,o4,o5,rfl⟩,⟨zs,hz,rz⟩,s1⟩
   rw[hul,ξv] at rz
   exact vr rfl (q lf zs H1 hlf hz rz s1)
noncomputable def zT(sr:List zaH)(x:Str):List Wy:=(sr.filter λr=>decide (r.2.1=x)).map λr=>r.2.2.1
noncomputable def zj1:Sp:=λvs H Q _=>∃(st:Addr) (sr:List zaH) (x:Str) (hs:List Str),vs=[.ref st, .str x]/\zog H st sr/\StOk hs sr/\(∀x∈hs,zh x=true)/\hs.length<=10/\∀(l:Addr) (us:List V) (H':Hp),H l=none->H' l=some (.lst us)->RepL H' us ((zT sr x).map zcR)->Same H H'->Q (.ref l) H'
end
section
variable{P:Program}{w:World}{K:ξk}{mg:Str->Option Value}{base:Heap}
theorem ziQ(Y:Ev K mg):FnOk P w K mg base CX0 1 Y.a_comings Y.d_comings zch zjz:=by
 refine Y.comings.fn.okQ zlx (λvs H Q E h=>?_) (λcdv A outer s H vs Q E hr h=>?_)
 ·obtain ⟨v,sr,hs,rfl,_⟩:=h;rfl
 ·obtain ⟨v,sr,hs,rfl,hv,S,hn,q⟩:=h
  obtain⟨st,us,rfl,hst,rus,_⟩:=hv.ofT
  have hul:us.length=sr.length:=by rw[rus.1,ζa]
  have sl:=S.len
  refine⟨_,(zm (zz (zn7 (src:=[none,none,none,none,none]) o_comings_1 rfl rfl (zbD (qv 0)) (λ_ _ _ _ _=>(zfH (K:=K) 4 rfl rfl (zu (zr 0 o_comings_1.nd) (zu (zr 1 o_comings_1.nd) (zu (zr 2 o_comings_1.nd) (zu (zr 3 o_comings_1.nd) zbe)))))) (λ_ _ _ _ _=>zdN) (λ_ _ _ _ _=>(zbY Y.range (za (zE (zjm (K:=K) rfl) Y.len zbL (za (qv 3) zd)) zd))) (λ_ _ _ _ _=>(zr 4 o_comings_1.nd)) (λ_ _ _ _ _=>zdN) (λ_ _ _ _ _=>(zD (za (qv 0) (za (qv 1) (za (qv 4) zd)))))))),?_⟩
  refine vr rfl ⟨st,rfl,⟨_, .inl (.inl hst)⟩,?_⟩
  have wk:=zaI (K:=K) (a:=st) (xs:=us)
  refine zlw (n:=us.length) (λl' i ys σ' H'=>(∃o0 o1 o2 o3 o4,σ'=[o0,o1,o2,o3,o4])/\RepL H' ys (zeD (sr.take i))/\Same H H') ?_ ?_ ?_ ?_ ?_
  ·exact λl' hl'=>⟨(ex4 _ _ _ _ ⟨_,rfl⟩), .nil,Same.new hl'⟩
  ·exact λl' i ys σ' H' hl' hi z=>wk.go i H' (.inl (.inl (z.2.2 _ _ hst))) hi
  ·exact λl' ys σ' H' hl' z=>wk.stop _ H' (.inl (.inl (z.2.2 _ _ hst))) (ζt _)
  ·rintro l' i x ys σ' H1 H1' hl' hi ⟨⟨o0,o1,o2,o3,o4,rfl⟩,ry,s1⟩ hl1 yl
   obtain⟨rfl,hy⟩:=wk.yld i H1 x H1' (.inl (.inl (s1 _ _ hst))) hi yl
   obtain⟨r,er,rd⟩:=zjh rus hy
   have rok:=S.row r (ζk er)
   obtain⟨b,u,qq,ws,rfl,hb,tu,hq,rws⟩:=zg5 (rd.same s1)
   have lw:ws.length=r.2.2.2.length:=by rw[rws.1,ζa]
   have l3:=rok.len
   have lc:=zhg (hs:=hs) (s:=sr.take i) λr hr=>S.row r (ξu hr)
   rw[ζl] at lc
   have ly:=ry.1
   refine ex2 b _ ⟨rfl, .inl (.inl hb),rfl,ex2 _ _ ⟨rfl,ex2 _ _ ⟨rfl,ex2 _ _ ⟨rfl,ex2 _ _ ⟨rfl,rfl,?_⟩⟩⟩⟩⟩
   refine vr rfl (.inl (ex2 qq _ ⟨rfl, .inr (.inl (.inl hq)),ws.length,rfl,by omega,by omega,hl1,?_⟩))
   rw[Int.toNat_natCast]
   refine zrI zbZ (λj ys σ' H'=>(∃o4,σ'=[some (.str r.1),some (.str r.2.1),some u,some (.ref qq),o4])/\RepL H' ys (zeD (sr.take i)++(List.range j).map λ(k:Nat)=>D.tup [.str r.1, .str r.2.1, .int k])/\Same H H') ⟨⟨_,rfl⟩,by rw[List.range_zero,List.map_nil,ξw];exact ry,s1⟩ (λ_ _ _ _ _=>trivial) ?_ ?_
   ·rintro j y ys σ' H2 hj rfl ⟨⟨o4,rfl⟩,ry2,s2⟩ hl2
    have e0j:(0:Int)+(j:Int)=(j:Int):=by omega
    rw[e0j]
    refine vr rfl (vr rfl (vr rfl ⟨few rfl,λb3 hb3=>?_⟩))
    have S3:=Same.new (o:= .tup [V.str r.1,V.str r.2.1,V.int (j:Int)]) hb3
    have hl3:=S3 _ _ hl2
    have hyl:=ry2.1
    rw[ζe,ζa,List.length_range] at hyl
    refine⟨hl3,zj (by omega),⟨_,rfl⟩,?_,λc o e=>by rw[zi (ze e hl')];exact S3 _ _ (s2 c o e)⟩
    rw[List.range_succ,ξb,←ξp]
    exact RepL.mono (.append (ry2.mono (.of S3)) (.cons (zrP zb (hn _ rok.a) (hn _ rok.b)) .nil)) (.lset hl3)
   ·rintro ys σ' H2 ⟨⟨o4,rfl⟩,ry2,s2⟩
    refine⟨(ex4 _ _ _ _ ⟨_,rfl⟩),?_,s2⟩
    rw[zhD er,←lw];exact ry2
  rintro l' ys σ' H1 hl' ⟨_,ry,s1⟩ hl1
  rw[hul,ξv] at ry
  exact q l' ys H1 hl' hl1 ry s1
end
section
variable{P:Program}{w:World}{K:ξk}{mg:Str->Option Value}{base:Heap}
theorem zgh(Y:Ev K mg):FnOk P w K mg base CX0 1 Y.a_ways_heard Y.d_ways_heard zbh zj1:=by
 refine Y.ways_heard.fn.okQ zha (λvs H Q E h=>?_) (λcdv A outer s H vs Q E hr h=>?_)
 ·obtain ⟨st,sr,x,hs,rfl,_⟩:=h;rfl
 ·obtain ⟨st,sr,x,hs,rfl,⟨us,hst,rus⟩,S,hn,h10,q⟩:=h
  have hul:us.length=sr.length:=by rw[rus.1,ζa]
  have sl:=S.len
  refine⟨_,(zm (zz (zb6 (src:=[none,none,none,none,some 1]) o_ways_heard_1 rfl rfl (zqT (qv 0)) (λ_ _ _ _ _=>(zfH (K:=K) 4 rfl rfl (zu (zr 0 o_ways_heard_1.nd) (zu (zr 1 o_ways_heard_1.nd) (zu (zr 2 o_ways_heard_1.nd) (zu (zr 3 o_ways_heard_1.nd) zbe)))))) (λ_ _ _ _ _=>(zd6 (zC z5 (qv 1) (qc 4)))) (λ_ _ _ _ _=>(qv 2))))),?_⟩
  refine zok rfl hst λJ ok wk hok=>?_
  refine zaR wk (λlc i ys σ' H'=>(∃o0 o1 o2 o3,σ'=[o0,o1,o2,o3,some (.str x)])/\RepL H' ys ((zT (sr.take i) x).map zcR)/\Same H H') ?_ ?_ ?_ ?_
  ·exact λlc hlc=>⟨(ex4 _ _ _ _ rfl), .nil,Same.new hlc⟩
  ·exact λlc i ys σ' H' hlc z=>hok _ z.2.2
  ·rintro lc i y ys σ' H1 hlc hi hy ⟨⟨o0,o1,o2,o3,rfl⟩,ry,s1⟩ hlc'
   obtain⟨r,er,rd⟩:=zjh rus hy
   have rok:=S.row r (ζk er)
   obtain⟨b,u,qq,ws,rfl,hb,tu,hq,rws⟩:=zg5 (rd.same s1)
   have ru:Rep H1 u (zcR r.2.2.1):=zh4 tu λw e=>by
    have o:=rok.hd
    rw[e] at o
    exact⟨ξa (WyOk.len o h10) (by decide),λx hx=>zA (hn x (o.2.1 x hx))⟩
   have tk:zT (sr.take (i+1)) x=zT (sr.take i) x ++(if r.2.1=x then [r.2.2.1] else []):=by
    unfold zT
    rw[ξs,er,List.filter_append,ξb]
    congr 1
    show((List.filter _ [r]).map _)=_
    rw[List.filter_cons,List.filter_nil]
    by_cases c:r.2.1=x
    ·rw[if_pos (ζf c),if_pos c];rfl
    ·rw[if_neg (by rw[ζn c];decide),if_neg c];rfl
   have ly:=ry.1
   have lh:(zT (sr.take i) x).length<=90:=by
    unfold zT
    rw[ζa]
    exact ξa (List.length_filter_le _ _) (by rw[ζl];omega)
   rw[ζa] at ly
   refine ex2 b _ ⟨rfl, .inl (.inl hb),rfl,ex2 _ _ ⟨rfl,ex2 _ _ ⟨rfl,ex2 _ _ ⟨rfl,ex2 _ _ ⟨rfl,rfl,?_⟩⟩⟩⟩⟩
   refine vr rfl (vr rfl ⟨rfl,vr rfl (zbi (λeb=>?_) (λeb=>?_))⟩)
   ·have eb:=V.str.inj (ζh eb)
    rw[if_pos eb] at tk
    refine vr rfl ⟨hlc',zj (by omega),(ex4 _ _ _ _ rfl),?_,λc o e=>by rw[zi (ze e hlc)];exact s1 c o e⟩
    rw[tk,ξb]
    exact RepL.mono (.append ry (.cons ru .nil)) (.lset hlc')
   ·rw[if_neg (λz=>eb (ζf (by rw[z]))),ξw] at tk
    exact⟨hlc',(ex4 _ _ _ _ rfl),by rw[tk];exact ry,s1⟩
  ·rintro lc ys σ' H1 hlc ⟨_,ry,s1⟩ hlc'
   rw[hul,ξv] at ry
   exact q lc ys H1 hlc hlc' ry s1
theorem zhH{H:Hp}{v:V}{o:Option (List Str)}(h:Told H v o)(hn:∀w,o=some w->∀y∈w,zh y=true):Tr H v (oD o):=by
 cases o with
 |none=>cases (show v= .non from h);exact .non
 |some w=>
  obtain⟨p,rfl,hp⟩:=h
  exact zeH hp λx hx=>zaZ (hn w rfl x hx)
theorem znv{o:Wy}:(oD o).depth<=60:=by
 cases o with
 |none=>decide
 |some w=>exact zde
end
section
variable{P:Program}{w:World}{K:ξk}{mg:Str->Option Value}{base:Heap}
noncomputable def lfl(v:V)(kd od:Addr):List (Str×V):=[("place",v),("known_keys", .ref kd),("known_offers", .ref od)]
theorem zc5{v:V}{kd od:Addr}:(lfl v kd od).lookup ("place":Str)=some v:=by rfl
theorem zht{v:V}{kd od:Addr}:(lfl v kd od).lookup ("known_keys":Str)=some (.ref kd):=by rfl
theorem zes{v:V}{kd od:Addr}:(lfl v kd od).lookup ("known_offers":Str)=some (.ref od):=by rfl
noncomputable def zfJ(C:Addr):Sp:=λvs H Q _=>∃(p dx:Addr) (v:V),vs=[.ref p,v]/\H p=some (.ins C dx [])/\∀(kd od:Addr) (H':Hp),H kd=none->H od=none->kd≠od->H' p=some (.ins C dx (lfl v kd od))->H' kd=some (.dT [])->H' od=some (.dK [])->Keep p H H'->Q .non H'
theorem zgJ(Y:Ev K mg):FnOk P w K mg base CX0 1 Y.a_Likings___init__ Y.d_Likings___init__ zR (zfJ Y.c_Likings):=by
 refine Y.Likings___init__.fn.okQ zdI (λvs H Q E h=>?_) (λcdv A outer s H vs Q E hr h=>?_)
 ·obtain ⟨p,dx,v,rfl,_⟩:=h;rfl
 ·obtain ⟨p,dx,v,rfl,hp,q⟩:=h
  refine⟨_,(zg (zmR (qv 0) (qv 1))
   (zg (zmR (qv 0) zoV)
   (zm (zmR (qv 0) zrp)))),?_⟩
  refine vr rfl (vr rfl (ex4 p _ dx [] ⟨rfl,hp,Y.k_Likings,Y.n_Likings_place,(by decide:0<1000),?_⟩))
  have s1:Keep p H (upd H p (.ins Y.c_Likings dx (zb0 "place" v []))):=Keep.upd _ _ _
  have p1:upd H p (.ins Y.c_Likings dx (zb0 "place" v [])) p=some (.ins Y.c_Likings dx [("place",v)]):=zb
  generalize upd H p (.ins Y.c_Likings dx (zb0 "place" v []))=H1 at *
  have none_of:∀{G:Hp} {b:Addr},H p=some (.ins Y.c_Likings dx [])->Keep p H G->G b=none->(∃o,G p=some o)->H b=none:=λ{G b} hp k e ⟨o,ho⟩=>by
   cases z:H b with
   |none=>rfl
   |some u=>
    have:b≠p:=λy=>by rw[y,ho] at e;cases e
    rw[k b u this z] at e;cases e
  refine λkd hkd=>(vr rfl (ex4 p _ dx _ ⟨rfl,Same.new hkd _ _ p1,Y.k_Likings,Y.n_Likings_known_keys,(by decide:1<1000),?_⟩))
  have h1:=none_of hp s1 hkd ⟨_,p1⟩
  have npd:kd≠p:=λz=>by rw[z,p1] at hkd;cases hkd
  have s3:Keep p H (upd (upd H1 kd (.dT [])) p (.ins Y.c_Likings dx (zb0 "known_keys" (.ref kd) [("place",v)]))):=(s1.trans (Keep.new hkd)).trans (Keep.upd _ _ _)
  have p3:upd (upd H1 kd (.dT [])) p (.ins Y.c_Likings dx (zb0 "known_keys" (.ref kd) [("place",v)])) p=some (.ins Y.c_Likings dx [("place",v),("known_keys", .ref kd)]):=zb
  have d3:upd (upd H1 kd (.dT [])) p (.ins Y.c_Likings dx (zb0 "known_keys" (.ref kd) [("place",v)])) kd=some (.dT []):=by rw[zi npd];exact zb
  generalize upd (upd H1 kd (.dT [])) p (.ins Y.c_Likings dx (zb0 "known_keys" (.ref kd) [("place",v)]))=H3 at *
  refine λod hod=>(vr rfl (ex4 p _ dx _ ⟨rfl,Same.new hod _ _ p3,Y.k_Likings,Y.n_Likings_known_offers,(by decide:2<1000),?_⟩))
  have h2:=none_of hp s3 hod ⟨_,p3⟩
  have npt:od≠p:=λz=>by rw[z,p3] at hod;cases hod
  refine q kd od _ h1 h2 (ze d3 hod) (by rw[zb];rfl) ?_ ?_ ?_
  ·rw[zi npd];exact Same.new hod _ _ d3
  ·rw[zi npt];exact zb
  ·exact (s3.trans (Keep.new hod)).trans (Keep.upd _ _ _)
section
variable(hs:List Str)(lks hds:List D)
noncomputable def zdW(w:List Str):Option Ky:=match w with
 |[]=>none
 |x::ws=>if x∈ws then none else(zI hs lks hds (x::ws)).map λm=>kE (zK hs lks x) (x::ws,m)
def zgZ(H:Hp)(v:V):Option Ky->Prop
 |none=>v= .non
 |some k=>∃b,v= .ref b/\KeyO H b k
def KnK(H:Hp)(kvs:List (List Key×V)):Prop:=∀kv∈kvs,∃w:List Str,kv.1=w.map Sum.inr/\zgZ H kv.2 (zdW hs lks hds w)
end
theorem zaf{H H':Hp}{v:V}{o:Option Ky}(h:zgZ H v o)(m:∀c xs,H c=some (.tup xs)->H' c=some (.tup xs)):zgZ H' v o:=by
 cases o with
 |none=>exact h
 |some k=>obtain ⟨b,e,p,h1,h2,h3⟩:=h;exact⟨b,e,p,m _ _ h1,m _ _ h2,h3⟩
theorem zon{w w':List Str}(h:w.map (Sum.inr:Str->Key)=w'.map Sum.inr):w=w':=by
 induction w generalizing w' with
 |nil=>cases w' with
  |nil=>rfl
  |cons _ _=>cases h
 |cons x w ih=>cases w' with
  |nil=>cases h
  |cons y w'=>injection h with h1 h2;rw[Sum.inr.inj h1,ih h2]
structure LkAt(C:Addr)(hs:List Str)(lks hds:List D)(H:Hp)(p dx:Addr)(v:V)(kd od:Addr)(kvs:List (List Key×V)):Prop where
 hp:H p=some (.ins C dx (lfl v kd od))
 hk:H kd=some (.dT kvs)
 kn:KnK hs lks hds H kvs
theorem kT{H H':Hp}{kd:Addr}{kvs:List (List Key×V)}(h:H kd=some (.dT kvs))(k:Keep kd H H'):∀c xs,H c=some (.tup xs)->H' c=some (.tup xs):=λc xs e=>k _ _ (λz=>by rw[z,h] at e;cases e) e
noncomputable def zkA(C:Addr):Sp:=λvs H Q _=>∃(p dx kd od pw:Addr) (v:V) (kvs:List (List Key×V)) (x a:Str) (wy:List Str) (g:Str) (hs:List Str) (ps:List (Str×Str)) (lks hds:List D) (O:List Str),vs=[.ref p, .ref pw]/\LkAt C hs lks hds H p dx v kd od kvs/\kvs.length<=5000/\Rep H v (zaT g hs ps lks hds)/\TownOk g hs ps lks hds/\Pool hs lks hds O/\x∈hs/\WyOk hs a (some wy)/\H pw=some (.tup ((x::wy).map V.str))/\∀(u:V) (kvs':List (List Key×V)) (H':Hp),zgZ H' u (zdW hs lks hds (x::wy))->LkAt C hs lks hds H' p dx v kd od kvs'->kvs'.length<=kvs.length+1->Keep kd H H'->Q u H'
theorem zk3(Y:Ev K mg):FnOk P w K mg base CX0 8 Y.a_Likings_key_of Y.d_Likings_key_of zap (zkA Y.c_Likings):=by
 have G_marks_of:FnOk P w K mg base CX0 7 Y.a_marks_of Y.d_marks_of zbt zez:=zeW Y
 have G_liking_key:FnOk P w K mg base CX0 6 Y.a_liking_key Y.d_liking_key zbg zpJ:=zf2 Y
 refine Y.Likings_key_of.fn.okQ c_Likings_key_of (λvs H Q E h=>?_) (λcdv A outer s H vs Q E hr h=>?_)
 ·obtain ⟨p,dx,kd,od,pw,v,kvs,x,a,wy,g,hs,ps,lks,hds,O,rfl,_⟩:=h;rfl
 ·obtain ⟨p,dx,kd,od,pw,v,kvs,x,a,wy,g,hs,ps,lks,hds,O,rfl,⟨hp,hk,kn⟩,l500,hv,T,PO,hx,ok,hpw,q⟩:=h
  have l10:=WyOk.len ok T.ten
  obtain⟨⟨wt,ewt⟩,win,wnd⟩:=id ok
  have hin:∀z∈x::wy,z∈hs:=λz hz=>(List.mem_cons.mp hz).elim (λz=>z▸hx) (win z)
  have ek:∀{H':Hp},H' pw=some (.tup ((x::wy).map V.str))->H' pw=some (.tup (((x::wy).map (Sum.inr:Str->Key)).map kV)):=λ{H'} h=>by rw[h,List.map_map];rfl
  have npk:p≠kd:=zca hp hk (λz=>nomatch z)
  refine⟨_,(zgp (zaP (zC (zp9 (hu1 hr)) (qv 1) (zdf (qv 0))) (zg (zO 2 c_Likings_key_of.nd (zji (zC zcv (zN ix_tup (qv 1) zf) (zi2 zfg (qv 1) (zcV zf) zeF)) zaC (zn G_marks_of (hr.mono (by decide)) Y.marks_of.mg Y.marks_of.kp Y.marks_of.b .nil zq (za (zdf (qv 0)) (za (qv 1) zd)))))
   (zm (znf (hu1 hr) (zdf (qv 0)) (qv 1) (zji (zC zdB (qv 2) zaC) zaC (zn G_liking_key (hr.mono (by decide)) Y.liking_key.mg Y.liking_key.kp Y.liking_key.b .nil zq (za (zdf (qv 0)) (za (qv 1) (za (qv 2) zd)))))))) zab)
   (zm (zz (zqE (hu1 hr) (zdf (qv 0)) (qv 1))))),?_⟩
  refine⟨λσ' H'=>(∃o2 kvs' u,σ'=[some (.ref p),some (.ref pw),o2]/\LkAt Y.c_Likings hs lks hds H' p dx v kd od kvs'/\zbm kvs' ((x::wy).map Sum.inr)=some u/\zgZ H' u (zdW hs lks hds (x::wy))/\kvs'.length<=kvs.length+1)/\Keep kd H H',?_,?_⟩
  ·refine ⟨_,rfl,_,rfl,p,_,dx,_,_,rfl,hp,Y.k_Likings,Y.n_Likings_known_keys,zht,kd,_,rfl,DGet.t (k:=(x::wy).map Sum.inr) hk (ek hpw),_,rfl,?_⟩
   cases ev:zbm kvs ((x::wy).map (Sum.inr:Str->Key))with
   |some u=>
    refine zbq rfl ⟨(ex3 _ kvs u ⟨rfl,⟨hp,hk,kn⟩,ev,?_,Nat.le_succ _⟩),Keep.refl _ _⟩
    have hm:((x::wy).map (Sum.inr:Str->Key),u)∈kvs:=by
     unfold zbm at ev
     cases e:kvs.find? λkv=>decide (kv.1=(x::wy).map Sum.inr)with
     |none=>rw[e] at ev;cases ev
     |some kv=>
      rw[e] at ev;cases ev
      have h1:=List.mem_of_find?_eq_some e
      have h2:kv.1=(x::wy).map Sum.inr:=by simpa using List.find?_some e
      rw[←h2];exact h1
    obtain⟨w',e',kv⟩:=kn _ hm
    rw[zon e'];exact kv
   |none=>
    refine zbP rfl ?_
    have fin:∀(o2:Option V) (u:V) (H1:Hp),zgZ H1 u (zdW hs lks hds (x::wy))->Same H H1->∃v0,[some (V.ref p),some (.ref pw),o2][0]?=some (some v0)/\∃(p0 C0 dx0:Addr) (fs:List (Str×V)) (w0:V),v0= .ref p0/\H1 p0=some (.ins C0 dx0 fs)/\Cls K C0/\PySem.W.findIn K (.ref C0) "known_keys"=some none/\fs.lookup ("known_keys":Str)=some w0/\∃v1,[some (V.ref p),some (.ref pw),o2][1]?=some (some v1)/\∃a0 H4,w0= .ref a0/\DPut H1 a0 v1 u H4/\(∃o2' kvs' u',[some (V.ref p),some (.ref pw),o2]=[some (.ref p),some (.ref pw),o2']/\LkAt Y.c_Likings hs lks hds H4 p dx v kd od kvs'/\zbm kvs' ((x::wy).map Sum.inr)=some u'/\zgZ H4 u' (zdW hs lks hds (x::wy))/\kvs'.length<=kvs.length+1)/\Keep kd H H4:=by
     intro o2 u H1 ku s1
     have hk1:=s1 _ _ hk
     refine⟨_,rfl,p,_,dx,_,_,rfl,s1 _ _ hp,Y.k_Likings,Y.n_Likings_known_keys,zht,_,rfl,kd,_,rfl,DPut.t (k:=(x::wy).map Sum.inr) hk1 (ek (s1 _ _ hpw)) (ξf (show kvs.length<1000000 by omega) (by decide)),?_⟩
     rw[zij u ev]
     have up:∀c xs,H1 c=some (.tup xs)->upd H1 kd (.dT (kvs ++ [((x::wy).map Sum.inr,u)])) c=some (.tup xs):=λc xs e=>by rw[zi (zca e hk1 (λz=>nomatch z))];exact e
     refine⟨(ex3 _ _ u ⟨rfl,⟨by rw[zi npk];exact s1 _ _ hp,zb,λkv hkv=>?_⟩,?_,zaf ku up,by rw[ζe];exact ζt _⟩),(Keep.of s1).trans (Keep.upd _ _ _)⟩
     ·rcases List.mem_append.mp hkv with hkv|hkv
      ·obtain ⟨w',e',kv'⟩:=kn kv hkv
       exact⟨w',e',zaf kv' λc xs e=>up _ _ (s1 _ _ e)⟩
      ·rw[List.mem_singleton.mp hkv];exact⟨x::wy,rfl,zaf ku up⟩
     ·rw[zgN _ _ _ _ ev,if_pos rfl]
    have eK:zdW hs lks hds (x::wy)=if x∈wy then none else(zI hs lks hds (x::wy)).map λm=>kE (zK hs lks x) (x::wy,m):=rfl
    refine vr rfl (ixT hpw at0 (vr rfl (vr rfl ?_)))
    dsimp only[zhf]
    refine zlD hpw λp2 H2 hp2 s2=>?_
    have ec:zbB ((x::wy).map V.str) (some 1) none=wy.map V.str:=zfm (xs:=(x::wy).map V.str) (m:=1)
    rw[ec] at hp2
    refine⟨p2,_,rfl, .inr (.inl (.inl hp2)),rfl,zck,_,rfl,?_⟩
    have hany:(wy.any λz=>decide (z=x))=decide (x∈wy):=by
     rw[ξd,ζg,List.any_eq_true]
     exact⟨λ⟨y,hy,e⟩=>by rw[←ζh e];exact hy,λh=>⟨_,h,ζf rfl⟩⟩
    rw[zeg,hany]
    by_cases nx:x∈wy
    ·rw[ζf nx]
     rw[if_pos nx] at eK
     refine zbP rfl ?_
     refine vr rfl ⟨rfl,vr rfl (zbP rfl ?_)⟩
     exact fin _ _ _ (by rw[eK];rfl) s2
    rw[ζn nx]
    rw[if_neg nx] at eK
    refine zbq rfl ?_
    refine⟨_,rfl,p,_,dx,_,_,rfl,s2 _ _ hp,Y.k_Likings,Y.n_Likings_place,zc5,_,rfl,v,pw,x::wy,g,hs,ps,lks,hds,O,rfl,hv.same s2,T,PO,hin,s2 _ _ hpw,by simp,by rw[ζv];omega,λum H3 tm s3=>?_⟩
    have s03:=s2.trans s3
    cases hm:zI hs lks hds (x::wy)with
    |none=>
     rw[hm] at tm eK
     cases(show um= .non from tm)
     refine vr rfl ⟨rfl,vr rfl (zbP rfl ?_)⟩
     exact fin _ _ _ (by rw[eK];rfl) s03
    |some m=>
     rw[hm] at tm eK
     obtain⟨pm,rfl,hpm⟩:=tm
     have eo:=zqF T PO hx ok nx hm
     obtain⟨j,rs,hj,hlj,er,_⟩:=znE T hx
     have wt:=eo.wt
     rw[er] at eK wt
     refine vr rfl ⟨rfl,vr rfl (zbq rfl ?_)⟩
     refine⟨_,rfl,p,_,dx,_,_,rfl,s03 _ _ hp,Y.k_Likings,Y.n_Likings_place,zc5,_,rfl,_,rfl,v,pw,pm,x,wy,m,g,hs,ps,lks,hds,j,rs,_,rfl,hv.same s03,T,hj,hlj,s03 _ _ hpw,hpm,eo.nw,eo.nm,by omega,eo.lm,wt,λuk H4 hk4 s4=>?_⟩
     obtain⟨b,pp,rfl,k1,k2,k3⟩:=hk4
     exact fin _ _ _ (by rw[eK];exact⟨b,rfl,pp,k1,k2,k3⟩) (s03.trans s4)
  ·rintro σ' H1 ⟨⟨o2,kvs',u,rfl,L,ev,ku,l1⟩,k1⟩
   have hpw1:=kT hk k1 _ _ hpw
   exact⟨_,rfl,p,_,dx,_,_,rfl,L.hp,Y.k_Likings,Y.n_Likings_known_keys,zht,_,rfl,kd,u,rfl,by rw[←ev];exact DGet.t (k:=(x::wy).map Sum.inr) L.hk (ek hpw1),q u kvs' H1 ku L l1 k1⟩
end
section
variable{P:Program}{w:World}{K:ξk}{mg:Str->Option Value}{base:Heap}
def zfp(H:Hp)(ys:List V)(os:List (Option Ky)):Prop:=ys.length=os.length/\∀(i:Nat) (v:V) (o:Option Ky),ys[i]?=some v->os[i]?=some o->zgZ H v o
theorem znh{H H':Hp}{ys:List V}{os:List (Option Ky)}(h:zfp H ys os)(m:∀c xs,H c=some (.tup xs)->H' c=some (.tup xs)):zfp H' ys os:=⟨h.1,λi v o e1 e2=>zaf (h.2 i v o e1 e2) m⟩
theorem zmy{H:Hp}{ys:List V}{os:List (Option Ky)}{v:V}{o:Option Ky}(h:zfp H ys os)(hv:zgZ H v o):zfp H (ys ++ [v]) (os ++ [o]):=by
 refine⟨by rw[ζe,ζe,h.1];rfl,λi v' o' e1 e2=>?_⟩
 rcases ζw i ys.length with z|z
 ·rw[ψa z] at e1
  rw[ψa (by rw[←h.1];exact z)] at e2
  exact h.2 i v' o' e1 e2
 ·rw[ξm z] at e1
  rw[ξm (by rw[←h.1];exact z),←h.1] at e2
  cases hk:i -ys.length with
  |zero=>rw[hk] at e1 e2;cases e1;cases e2;exact hv
  |succ n=>rw[hk] at e1;cases e1
def AtO(H:Hp)(ys:List V)(ks:List Ky):Prop:=∃bs:List Addr,ys=bs.map V.ref/\bs.length=ks.length/\∀(i:Nat) (b:Addr) (k:Ky),bs[i]?=some b->ks[i]?=some k->KeyO H b k
theorem zmz{H H':Hp}{ys:List V}{ks:List Ky}{b:Addr}{k:Ky}(h:AtO H ys ks)(m:∀c xs,H c=some (.tup xs)->H' c=some (.tup xs))(hb:KeyO H' b k):AtO H' (ys ++ [.ref b]) (ks ++ [k]):=by
 obtain⟨bs,rfl,hl,h⟩:=h
 refine⟨bs ++ [b],by rw[ξb];rfl,by rw[ζe,ζe,hl];rfl,λi b' k' e1 e2=>?_⟩
 rcases ζw i bs.length with z|z
 ·rw[ψa z] at e1
  rw[ψa (by rw[←hl];exact z)] at e2
  obtain⟨p,h1,h2,h3⟩:=h i b' k' e1 e2
  exact⟨p,m _ _ h1,m _ _ h2,h3⟩
 ·rw[ξm z] at e1
  rw[ξm (by rw[←hl];exact z),←hl] at e2
  cases hk:i -bs.length with
  |zero=>rw[hk] at e1 e2;cases e1;cases e2;exact hb
  |succ n=>rw[hk] at e1;cases e1
theorem zfX{hs:List Str}{lks hds:List D}{x:Str}:∀(sr:List zaH),(((zT sr x).filterMap id).map λw=>zdW hs lks hds (x::w)).filterMap id=(za1 hs lks hds x sr).map (kE (zK hs lks x))
 |[]=>rfl
 |r::sr=>by
  have ih:=zfX (hs:=hs) (lks:=lks) (hds:=hds) (x:=x) sr
  have e1:zT (r::sr) x=(if r.2.1=x then [r.2.2.1] else [])++zT sr x:=by
   unfold zT
   rw[List.filter_cons]
   by_cases c:r.2.1=x
   ·rw[if_pos (ζf c),if_pos c];rfl
   ·rw[if_neg (by rw[ζn c];decide),if_neg c];rfl
  have e2:za1 hs lks hds x (r::sr)=(zeQ hs lks hds x r).toList ++za1 hs lks hds x sr:=by
   unfold za1
   rw[List.filterMap_cons]
   cases zeQ hs lks hds x r<;>rfl
  rw[e1,e2,List.filterMap_append,ξb,List.filterMap_append,ξb,ih]
  congr 1
  unfold zeQ
  by_cases c:r.2.1=x
  ·rw[if_pos c,if_pos c]
   cases r.2.2.1 with
   |none=>rfl
   |some w=>
    show([zdW hs lks hds (x::w)].filterMap id)=_
    have eK:zdW hs lks hds (x::w)=if x∈w then none else(zI hs lks hds (x::w)).map λm=>kE (zK hs lks x) (x::w,m):=rfl
    rw[eK]
    by_cases d:x∈w
    ·dsimp only;rw[if_pos d,if_pos d];rfl
    ·dsimp only;rw[if_neg d,if_neg d]
     cases zI hs lks hds (x::w)<;>rfl
  ·rw[if_neg c,if_neg c];rfl
noncomputable def zjK(C:Addr):Sp:=λvs H Q _=>∃(p dx kd od lw:Addr) (v:V) (kvs:List (List Key×V)) (us:List V) (sr:List zaH) (x:Str) (g:Str) (hs:List Str) (ps:List (Str×Str)) (lks hds:List D) (O:List Str),vs=[.ref p, .str x, .ref lw]/\LkAt C hs lks hds H p dx v kd od kvs/\kvs.length<=4000/\Rep H v (zaT g hs ps lks hds)/\TownOk g hs ps lks hds/\Pool hs lks hds O/\x∈hs/\H lw=some (.lst us)/\RepL H us ((zT sr x).map zcR)/\StOk hs sr/\∀(u:V) (kvs':List (List Key×V)) (H':Hp),Told H' u ((zd8 g hs lks hds x sr).map (·.1))->LkAt C hs lks hds H' p dx v kd od kvs'->kvs'.length<=kvs.length+90->Keep kd H H'->Q u H'
theorem zng{hs:List Str}{sr:List zaH}(S:StOk hs sr){x:Str}{w:List Str}(h:some w∈zT sr x):∃a,WyOk hs a (some w):=by
 unfold zT at h
 obtain⟨r,hr,e⟩:=List.mem_map.mp h
 have o:=(S.row r (List.mem_filter.mp hr).1).hd
 rw[e] at o
 exact⟨_,o⟩
theorem zlI(Y:Ev K mg):FnOk P w K mg base CX0 9 Y.a_Likings_way_by Y.d_Likings_way_by zam (zjK Y.c_Likings):=by
 have G_Likings_key_of:FnOk P w K mg base CX0 8 Y.a_Likings_key_of Y.d_Likings_key_of zap (zkA Y.c_Likings):=zk3 Y
 refine Y.Likings_way_by.fn.okQ c_Likings_way_by (λvs H Q E h=>?_) (λcdv A outer s H vs Q E hr h=>?_)
 ·obtain ⟨p,dx,kd,od,lw,v,kvs,us,sr,x,g,hs,ps,lks,hds,O,rfl,_⟩:=h;rfl
 ·obtain ⟨p,dx,kd,od,lw,v,kvs,us,sr,x,g,hs,ps,lks,hds,O,rfl,L,l400,hv,T,PO,hx,hlw,rus,S,q⟩:=h
  obtain⟨tp,pr,pt,pl,pa,vt,vl,va,rfl,htp,hpr,hpt,rt,hpl,rl,hpa,ra⟩:=zbx hv
  have hp:=L.hp
  have hk:=L.hk
  have npk:p≠kd:=zca hp hk (λz=>nomatch z)
  have nlk:lw≠kd:=zca hlw hk (λz=>nomatch z)
  have hul:us.length=(zT sr x).length:=by rw[rus.1,ζa]
  have lh:(zT sr x).length<=90:=by
   unfold zT
   rw[ζa]
   exact ξa (List.length_filter_le _ _) S.len
  refine⟨_,(zg (zaP (zC z5 (qc 1) (zN ix_tup (zdf (qc 0)) zf)) (zm (zz (zD (za (qc 1) zd)))) zab)
   (zg (zdl 3 (src:=[none,some 1,some 0]) o_Likings_way_by_1 rfl rfl c_Likings_way_by.nd (zeo (qv 2)) (λ_ _ _ _ _=>(zr 0 o_Likings_way_by_1.nd)) (λ_ _ _ _ _=>(zd6 (zC zgX (qv 0) zaC))) (λ_ _ _ _ _=>(ziX (qc 2) Y.k_Likings Y.Likings_key_of.m G_Likings_key_of (hr.mono (by decide)) Y.Likings_key_of.b .nil zq (za (zS (zmr (K:=K) rfl) (zD (za (qc 1) zd)) (qv 0)) zd))))
   (zg (zdl 4 (src:=[none]) o_Likings_way_by_2 rfl rfl c_Likings_way_by.nd (zeo (qv 3)) (λ_ _ _ _ _=>(zr 0 o_Likings_way_by_2.nd)) (λ_ _ _ _ _=>(zd6 (zC zgX (qv 0) zaC))) (λ_ _ _ _ _=>(qv 0)))
   (zm (zz (zji (zoR (qv 4)) (zN ix_tup (zE (zjs rfl (zsl hr)) Y.min ziN (za (qv 4) zd)) (zma zfi zf)) zaC)))))),?_⟩
  refine⟨_,rfl,_,rfl,p,_,dx,_,_,rfl,hp,Y.k_Likings,Y.n_Likings_place,zc5,tp,_,0,_,rfl,rfl, .inl (.inl htp),at0,rfl,_,rfl,zbi (λeg=>?_) (λeg=>?_)⟩
  ·have eg:=V.str.inj (ζh eg)
   refine vr rfl ⟨few rfl,λb hb=>?_⟩
   have SB:=Same.new (o:= .tup [V.str x]) hb
   refine q _ kvs _ ?_ ⟨SB _ _ hp,SB _ _ hk,λkv hkv=>let ⟨w',e',k'⟩:=L.kn kv hkv;⟨w',e',zaf k' λc xs e=>SB _ _ e⟩⟩ (by omega) (Keep.of SB)
   unfold zd8
   rw[if_pos eg]
   exact⟨b,rfl,zb⟩
  have ng:x≠g:=λz=>eg (ζf (by rw[z]))
  have q:∀(u:V) (kvs':List (List Key×V)) (H':Hp),Told H' u ((zmq (zK hs lks x) (za1 hs lks hds x sr)).map (·.1))->LkAt Y.c_Likings hs lks hds H' p dx (.ref tp) kd od kvs'->kvs'.length<=kvs.length+90->Keep kd H H'->Q u H':=λu kvs' H' h=>q u kvs' H' (by unfold zd8;rw[if_neg ng];exact h)
  refine vr rfl ⟨lw,rfl,⟨_,SqL.of hlw⟩,?_⟩
  refine zaR (zdi (K:=K) (xs:=us)) (λlc i ys σ' H'=>(∃o,σ'=[o,some (.str x),some (.ref p)])/\(∃kvs',LkAt Y.c_Likings hs lks hds H' p dx (.ref tp) kd od kvs'/\kvs'.length<=kvs.length+i)/\zfp H' ys ((((zT sr x).take i).filterMap id).map λw=>zdW hs lks hds (x::w))/\Keep kd H H') ?_ ?_ ?_ ?_
  ·intro lc hlc
   have SN:=Same.new (o:= .lst ([]:List V)) hlc
   exact⟨⟨_,rfl⟩,⟨kvs,⟨SN _ _ hp,SN _ _ hk,λkv hkv=>let ⟨w',e',k'⟩:=L.kn kv hkv;⟨w',e',zaf k' λc xs e=>SN _ _ e⟩⟩,ζt _⟩,⟨rfl,λi v o e=>by cases e⟩,Keep.of SN⟩
  ·exact λlc i ys σ' H' hlc z=>SqL.of (z.2.2.2 _ _ nlk hlw)
  ·rintro lc i y ys σ' H1 hlc hi hy ⟨⟨o,rfl⟩,⟨kvs1,L1,l1⟩,ky,k1⟩ hlc'
   obtain⟨d,hd,rd⟩:=rus.get hy
   rw[ζp] at hd
   obtain⟨wo,ewo,rfl⟩:∃wo,(zT sr x)[i]?=some wo/\d=zcR wo:=by
    cases e:(zT sr x)[i]? with
    |none=>rw[e] at hd;cases hd
    |some wo=>rw[e] at hd;cases hd;exact⟨wo,rfl,rfl⟩
   have tw:=zh7 rd
   have tk:((zT sr x).take (i+1)).filterMap id=((zT sr x).take i).filterMap id ++wo.toList:=by
    rw[ξs,ewo,List.filterMap_append]
    cases wo<;>rfl
   have lk:(((zT sr x).take i).filterMap id).length<=90:=ξa (List.length_filterMap_le _ _) (by rw[ζl];omega)
   rw[tk]
   cases wo with
   |none=>
    cases(show y= .non from tw)
    refine vr rfl ⟨rfl,vr rfl (zbq rfl ⟨hlc',⟨_,rfl⟩,⟨kvs1,L1,by omega⟩,?_,k1⟩)⟩
    show zfp H1 ys ((((zT sr x).take i).filterMap id ++ []).map λw=>zdW hs lks hds (x::w))
    rw[ξw];exact ky
   |some wy=>
    obtain⟨pw,rfl,hpw⟩:=tw
    obtain⟨a,ok⟩:=zng S (ζk ewo)
    have l10:=WyOk.len ok T.ten
    have hpw1:=kT hk k1 _ _ hpw
    have hp1:=L1.hp
    refine vr rfl ⟨rfl,vr rfl (zbP rfl ?_)⟩
    refine vr rfl (ex3 p dx _ ⟨rfl,hp1,rfl,?_⟩)
    refine vr rfl ⟨few rfl,λb1 hb1=>(vr rfl ?_)⟩
    have B1:=Same.new (o:= .tup [V.str x]) hb1
    refine zfx (xs:=[V.str x]) (ys:=wy.map V.str) zb (B1 _ _ hpw1) (by rw[ζa];show 1+_<=_;omega) λb2 H2 hb2 s2=>?_
    have s12:=B1.trans s2
    have L2':LkAt Y.c_Likings hs lks hds H2 p dx (.ref tp) kd od kvs1:=⟨s12 _ _ L1.hp,s12 _ _ L1.hk,λkv hkv=>let ⟨w',e',k'⟩:=L1.kn kv hkv;⟨w',e',zaf k' λc xs e=>s12 _ _ e⟩⟩
    have hv2:Rep H2 (.ref tp) (zaT g hs ps lks hds):=by
     refine Rep.same (Rep.mono hv ⟨kT hk k1,λc xs e=>?_,λc xs e=>?_⟩) s12
     ·exact ⟨xs,k1 _ _ (λz=>by rw[z,hk] at e;cases e) e⟩
     ·exact ⟨xs,k1 _ _ (λz=>by rw[z,hk] at e;cases e) e⟩
    refine ex8 p dx kd od b2 (.ref tp) kvs1 x (ex8 a wy g hs ps lks hds O ⟨rfl,L2',by omega,hv2,T,PO,hx,ok,hb2,λu kvs3 H3 ku L3 l3 k3=>?_⟩)
    have nck:lc≠kd:=λz=>by rw[z,hk] at hlc;cases hlc
    have hlc3:=k3 _ _ nck (s12 _ _ hlc')
    have ly:=ky.1
    rw[ζa] at ly
    have up:∀c xs,H3 c=some (.tup xs)->upd H3 lc (.lst (ys ++ [u])) c=some (.tup xs):=λc xs e=>by rw[zi (zca e hlc3 (λz=>nomatch z))];exact e
    have npc:p≠lc:=ze hp hlc
    refine⟨hlc3,zj (by omega),⟨_,rfl⟩,⟨kvs3,⟨by rw[zi npc];exact L3.hp,by rw[zi (Ne.symm nck)];exact L3.hk,λkv hkv=>let ⟨w',e',k'⟩:=L3.kn kv hkv;⟨w',e',zaf k' up⟩⟩,by omega⟩,?_,λc o c1 e=>?_⟩
    ·show zfp _ _ ((((zT sr x).take i).filterMap id ++ [wy]).map λw=>zdW hs lks hds (x::w))
     rw[ξb]
     exact zmy (znh ky λc xs e=>up _ _ (kT L2'.hk k3 _ _ (s12 _ _ e))) (zaf ku up)
    ·rw[zi (ze e hlc)];exact k3 _ _ c1 (s12 _ _ (k1 _ _ c1 e))
  rintro lk ys σ' H1 hlk ⟨⟨o,rfl⟩,⟨kvs1,L1,l1⟩,ky,k1⟩ hlk'
  rw[hul,ξv] at ky
  rw[hul] at l1
  have ek:=zfX (hs:=hs) (lks:=lks) (hds:=hds) (x:=x) sr
  have lo:((((zT sr x).filterMap id).map λw=>zdW hs lks hds (x::w))).length<=90:=by rw[ζa];exact ξa (List.length_filterMap_le _ _) lh
  generalize (((zT sr x).filterMap id).map λw=>zdW hs lks hds (x::w))=os at *
  have nkk:lk≠kd:=λz=>by rw[z,hk] at hlk;cases hlk
  refine vr rfl ⟨lk,rfl,⟨_,SqL.of hlk'⟩,?_⟩
  refine zaR (zdi (K:=K) (xs:=ys)) (λlc i zs σ' H'=>(∃o,σ'=[o])/\AtO H' zs ((os.take i).filterMap id)/\Same H1 H') ?_ ?_ ?_ ?_
  ·exact λlc hlc=>⟨⟨_,rfl⟩,⟨[],rfl,rfl,λi b k e=>by cases e⟩,Same.new hlc⟩
  ·exact λlc i zs σ' H' hlc z=>SqL.of (z.2.2 _ _ hlk')
  ·rintro lc i y zs σ' H2 hlc hi hy ⟨⟨o,rfl⟩,ao,s2⟩ hlc'
   obtain⟨oo,eoo⟩:∃oo,os[i]?=some oo:=⟨_,ζd (by rw[←ky.1];exact hi)⟩
   have kv:=ky.2 i y oo hy eoo
   have tk:(os.take (i+1)).filterMap id=(os.take i).filterMap id ++oo.toList:=by
    rw[ξs,eoo,List.filterMap_append]
    cases oo<;>rfl
   rw[tk]
   have la:zs.length<=90:=by
    obtain⟨bs,rfl,hl,_⟩:=id ao
    rw[ζa,hl]
    exact ξa (List.length_filterMap_le _ _) (by rw[ζl];omega)
   cases oo with
   |none=>
    cases(show y= .non from kv)
    refine vr rfl ⟨rfl,vr rfl (zbq rfl ⟨hlc',⟨_,rfl⟩,?_,s2⟩)⟩
    show AtO H2 zs ((os.take i).filterMap id ++ [])
    rw[ξw];exact ao
   |some k=>
    obtain⟨b,rfl,ko⟩:=kv
    have up:∀c xs,H2 c=some (.tup xs)->upd H2 lc (.lst (zs ++ [.ref b])) c=some (.tup xs):=λc xs e=>by rw[zi (zca e hlc' (λz=>nomatch z))];exact e
    refine vr rfl ⟨rfl,vr rfl (zbP rfl (vr rfl ⟨hlc',zj (by omega),⟨_,rfl⟩,?_,λc o e=>by rw[zi (ze e hlc)];exact s2 c o e⟩))⟩
    obtain⟨pp,h1,h2,h3⟩:=ko
    exact zmz ao up ⟨pp,up _ _ (s2 _ _ h1),up _ _ (s2 _ _ h2),h3⟩
  rintro l2 zs σ' H2 hl2 ⟨⟨o,rfl⟩,ao,s2⟩ hl2'
  rw[ky.1,ξv,ek] at ao
  obtain⟨bs,rfl,hlb,hbs⟩:=ao
  have L2':LkAt Y.c_Likings hs lks hds H2 p dx (.ref tp) kd od kvs1:=⟨s2 _ _ L1.hp,s2 _ _ L1.hk,λkv hkv=>let ⟨w',e',k'⟩:=L1.kn kv hkv;⟨w',e',zaf k' λc xs e=>s2 _ _ e⟩⟩
  have k02:Keep kd H H2:=k1.trans (Keep.of s2)
  have nd:=znw (lks:=lks) (hds:=hds) (x:=x) S
  have uu:=zo5 (hs:=hs) (lks:=lks) (hds:=hds) (x:=x) (s:=sr)
  generalize za1 hs lks hds x sr=es at *
  rw[ζa] at hlb
  by_cases h0:es=[]
  ·subst h0
   have hb0:bs=[]:=List.eq_nil_of_length_eq_zero hlb
   subst hb0
   refine vr rfl ⟨false, .inl ⟨_,SqL.of hl2',rfl⟩,zbq rfl ?_⟩
   exact q _ kvs1 _ rfl L2' (by omega) k02
  have l0:0<es.length:=List.length_pos_iff.mpr h0
  refine vr rfl ⟨true, .inl ⟨_,SqL.of hl2',?_⟩,zbP rfl ?_⟩
  ·cases bs with
   |nil=>rw[List.length_nil] at hlb;omega
   |cons _ _=>rfl
  have ndk:(es.map (kE (zK hs lks x))).Nodup:=by
   refine List.pairwise_map.mpr ((List.pairwise_map.mp nd).imp λh z=>h ?_)
   exact congrArg (λk:Ky=>k.2.2) z
  refine vr rfl ⟨l2,bs,es.map (kE (zK hs lks x)),rfl,hl2',by rw[ζa];exact hlb,hbs,ndk,by rw[ζa];exact l0,λm b k e1 e2 best=>?_⟩
  have kb:=hbs m b k e1 e2
  rw[ζp] at e2
  cases e3:es[m]? with
  |none=>rw[e3] at e2;cases e2
  |some e=>
   rw[e3] at e2;cases e2
   obtain⟨pp,h1,h2,h3⟩:=kb
   refine⟨1,rfl,ixT h1 zlj ?_⟩
   refine q _ kvs1 _ ?_ L2' (by omega) k02
   have be:zeP (zK hs lks x) es (some e):=⟨ζk e3,λe' he' ne=>best _ (List.mem_map.mpr ⟨e',he',rfl⟩) ne⟩
   rw[←zls (λe=>Iff.rfl) uu be zqa]
   exact⟨pp,rfl,h2⟩
end
section
variable{P:Program}{w:World}{K:ξk}{mg:Str->Option Value}{base:Heap}
def OfK(hs:List Str)(lks hds:List D)(H:Hp)(xs:List (za7×Addr×Value)):Prop:=∀x∈xs,∃v m,RelV v x.2.2/\zI hs lks hds x.1.1=some m/\Told H v (zcU hs hds (some (x.1.1,m)) x.1.2)
theorem zdq{H H':Hp}{u:V}{o:Option (List Str)}(h:Told H u o)(t:∀c xs,H c=some (.tup xs)->H' c=some (.tup xs)):Told H' u o:=by
 cases o with
 |none=>exact h
 |some w=>obtain ⟨p,e,hp⟩:=h;exact⟨p,e,t _ _ hp⟩
structure OfAt(P:Program)(w:World)(hs:List Str)(lks hds:List D)(H:Hp)(od:Addr)(xs:List (za7×Addr×Value)):Prop where
 at_:H od=some (WkO P w od xs)\/(xs=[]/\H od=some (.dK []))
 keys:∀x∈xs,zgR H x.1 x.2.1
 kn:OfK hs lks hds H xs
theorem zeC{H H':Hp}{k:za7}{b:Addr}(h:zgR H k b)(t:∀c xs,H c=some (.tup xs)->H' c=some (.tup xs)):zgR H' k b:=let⟨c,h1,h2,h3⟩:=h;⟨c,t _ _ h1,t _ _ h2,h3⟩
theorem zhW{hs:List Str}{lks hds:List D}{H H':Hp}{xs:List (za7×Addr×Value)}(h:OfK hs lks hds H xs)(t:∀c ys,H c=some (.tup ys)->H' c=some (.tup ys)):OfK hs lks hds H' xs:=λx hx=>let ⟨v,m,h1,h2,h3⟩:=h x hx;⟨v,m,h1,h2,zdq h3 t⟩
theorem zbr{P:Program}{w:World}{hs:List Str}{lks hds:List D}{H H':Hp}{od:Addr}{xs:List (za7×Addr×Value)}(h:OfAt P w hs lks hds H od xs)(s:Same H H'):OfAt P w hs lks hds H' od xs:=⟨h.at_.imp (s _ _) (λz=>⟨z.1,s _ _ z.2⟩),λx hx=>zeC (h.keys x hx) λc ys e=>s _ _ e,zhW h.kn λc ys e=>s _ _ e⟩
theorem zr9{P:Program}{w:World}{hs:List Str}{lks hds:List D}{H:Hp}{od c:Addr}{xs:List (za7×Addr×Value)}{ys:List V}(h:OfAt P w hs lks hds H od xs)(e:H c=some (.tup ys)):c≠od:=λz=>by
 rw[z] at e
 rcases h.at_ with h|⟨_,h⟩<;>(rw[h] at e;cases e)
noncomputable def zkC(P:Program)(w:World)(C:Addr):Sp:=λvs H Q _=>∃(p dx kd od:Addr) (v vw:V) (fd:Option WM) (xs:List (za7×Addr×Value)) (a to:Str) (g:Str) (hs:List Str) (ps:List (Str×Str)) (lks hds:List D) (O:List Str),vs=[.ref p,vw, .str to]/\H p=some (.ins C dx (lfl v kd od))/\OfAt P w hs lks hds H od xs/\xs.length<=900/\Rep H v (zaT g hs ps lks hds)/\TownOk g hs ps lks hds/\Pool hs lks hds O/\to∈hs/\Told H vw (fd.map (·.1))/\(∀e,fd=some e->WyOk hs a (some e.1)/\zI hs lks hds e.1=some e.2)/\∀(u:V) (xs':List (za7×Addr×Value)) (H':Hp),Told H' u (zcU hs hds fd to)->OfAt P w hs lks hds H' od xs'->xs'.length<=xs.length+1->Keep od H H'->(∀c ys,H c=some (.tup ys)->H' c=some (.tup ys))->Q u H'
theorem zna(Y:Ev K mg):FnOk P w K mg base CX0 8 Y.a_Likings_offer_of Y.d_Likings_offer_of zac (zkC P w Y.c_Likings):=by
 have G_handed:FnOk P w K mg base CX0 5 Y.a_handed Y.d_handed zb1 zdO:=zgE Y
 have G_marks_of:FnOk P w K mg base CX0 7 Y.a_marks_of Y.d_marks_of zbt zez:=zeW Y
 refine Y.Likings_offer_of.fn.okQ c_Likings_offer_of (λvs H Q E h=>?_) (λcdv A outer s H vs Q E hr h=>?_)
 ·obtain ⟨p,dx,kd,od,v,vw,fd,xs,a,to,g,hs,ps,lks,hds,O,rfl,_⟩:=h;rfl
 ·obtain ⟨p,dx,kd,od,v,vw,fd,xs,a,to,g,hs,ps,lks,hds,O,rfl,hp,OA,l900,hv,T,PO,hto,tw,okf,q⟩:=h
  refine⟨_,(zg (zaP (zC zdB (qv 1) zaC) (zm (zz zaC)) zab)
   (zgp (zaP (zC (zqC (hu8 hr)) (zD (za (qv 1) (za (qv 2) zd))) (zdf (qv 0))) (zg (zO 3 c_Likings_offer_of.nd (zn G_handed (hr.mono (by decide)) Y.handed.mg Y.handed.kp Y.handed.b .nil zq (za (zdf (qv 0)) (za (qv 1) (za (zn G_marks_of (hr.mono (by decide)) Y.marks_of.mg Y.marks_of.kp Y.marks_of.b .nil zq (za (zdf (qv 0)) (za (qv 1) zd))) (za (qv 2) zd))))))
   (zm (zqh (hu8 hr) (zdf (qv 0)) (zD (za (qv 1) (za (qv 2) zd))) (zji (zC zdB (qv 3) zaC) zaC (qv 1))))) zab)
   (zm (zz (zp6 (hu8 hr) (zdf (qv 0)) (zD (za (qv 1) (za (qv 2) zd)))))))),?_⟩
  cases fd with
  |none=>
   cases(show vw= .non from tw)
   exact vr rfl ⟨rfl,vr rfl (zbP rfl (q _ xs H rfl OA (Nat.le_succ _) (Keep.refl _ _) λc ys e=>e))⟩
  |some e=>
  obtain⟨wy,m⟩:=e
  obtain⟨pw,rfl,hpw⟩:=tw
  obtain⟨okw,hm⟩:=okf _ rfl
  dsimp only at hpw hm okw
  have l10:=WyOk.len okw T.ten
  obtain⟨⟨wt,ewt⟩,win,wnd⟩:=id okw
  have hn:∀y∈wy,zh y=true:=λy hy=>T.names y (win y hy)
  have hwk:(wkD (wy,to)).canLay0=true:=zp1 (λx hx=>zaZ (hn x hx)) (zaZ (T.names _ hto))
  have Mm:=zdX T PO win hm
  have npo:p≠od:=λz=>by
   rw[z] at hp
   rcases OA.at_ with h|⟨_,h⟩<;>(rw[h] at hp;cases hp)
  refine vr rfl ⟨rfl,vr rfl (zbq rfl ?_)⟩
  refine⟨λσ' H'=>(∃o3 xs' b r v',σ'=[some (.ref p),some (.ref pw),some (.str to),o3]/\OfAt P w hs lks hds H' od xs'/\atKey xs' (wy,to)=some (b,r)/\RelV v' r/\Told H' v' (zcU hs hds (some (wy,m)) to)/\xs'.length<=xs.length+1)/\Keep od H H'/\(∀c ys,H c=some (.tup ys)->H' c=some (.tup ys)),?_,?_⟩
  ·refine vr rfl (vr rfl ⟨few rfl,λb1 hb1=>?_⟩)
   have B1:=Same.new (o:= .tup [V.ref pw,V.str to]) hb1
   have e1:upd H b1 (.tup [V.ref pw,V.str to]) b1=some (.tup [V.ref pw,V.str to]):=zb
   have hpw1:=B1 _ _ hpw
   have O1:=zbr OA B1
   generalize (upd H b1 (HO.tup [V.ref pw,V.str to]))=H1 at *
   refine vr rfl (ex4 p _ dx _ ⟨_,rfl,B1 _ _ hp,Y.k_Likings,Y.n_Likings_known_offers,zes,od,b1,(wy,to),xs,rfl,rfl,⟨O1.at_,O1.keys⟩,⟨pw,e1,hpw1,hwk⟩,vr rfl ?_⟩)
   cases ev:atKey xs (wy,to)with
   |some br=>
    refine zbq rfl ?_
    obtain⟨b,r⟩:=br
    obtain⟨v',m',h1,h2,h3⟩:=O1.kn _ (zkP ev)
    have h2:zI hs lks hds wy=some m':=h2
    rw[hm] at h2
    cases h2
    exact⟨(ex4 _ xs b r ⟨v',rfl,O1,ev,h1,h3,Nat.le_succ _⟩),Keep.of B1,λc ys e=>B1 _ _ e⟩
   |none=>
    refine zbP rfl ?_
    refine⟨_,rfl,p,_,dx,_,_,rfl,B1 _ _ hp,Y.k_Likings,Y.n_Likings_place,zc5,_,rfl,_,rfl,p,_,dx,_,_,rfl,B1 _ _ hp,Y.k_Likings,Y.n_Likings_place,zc5,_,rfl,v,pw,wy,g,hs,ps,lks,hds,O,rfl,hv.same B1,T,PO,win,hpw1,by rw[ewt];simp,by omega,λum H2 tm s2=>?_⟩
    rw[hm] at tm
    obtain⟨pm,rfl,hpm⟩:=tm
    have s02:=B1.trans s2
    subst ewt
    have ha:a∈hs:=win a ζo
    obtain⟨j,rs,hj,hdj,er,hk⟩:=zkw T PO ha
    refine vr rfl (ex8 v pw pm (.str to) a wt m (some to) (ex8 g hs ps lks hds j rs O ⟨rfl,hv.same s02,T,hj,hdj,hk,PO.few,PO.nm,Mm.toMk,s2 _ _ hpw1,hpm, .inr ⟨to,rfl,rfl,T.names _ hto⟩,hn,by rw[ζv] at l10;omega,λuh H3 th s3=>?_⟩))
    have s03:=s02.trans s3
    have eo:zcU hs hds (some (a::wt,m)) to=match zv (a::wt) (some to) rs m with|none=>none|some _=>some (a::wt):=by
     unfold zcU
     dsimp only
     rw[show(a::wt).headD ""=a from rfl,er]
     try (cases zv (a::wt) (some to) rs m<;>rfl)
    have fin:∀(vo:V),Told H3 vo (zcU hs hds (some (a::wt,m)) to)->∃v0,[some (V.ref p),some (.ref pw),some (.str to),some uh][0]?=some (some v0)/\∃(p0 C0 dx0:Addr) (fs:List (Str×V)) (w0:V),v0= .ref p0/\H3 p0=some (.ins C0 dx0 fs)/\Cls K C0/\PySem.W.findIn K (.ref C0) "known_offers"=some none/\fs.lookup ("known_offers":Str)=some w0/\∃v1,[some (V.ref p),some (.ref pw),some (.str to),some uh][1]?=some (some v1)/\∃v2,[some (V.ref p),some (.ref pw),some (.str to),some uh][2]?=some (some v2)/\ [v1,v2].length<=sizeLine/\∀pb,H3 pb=none->∃a0 b0 k0 xs0,w0= .ref a0/\V.ref pb= .ref b0/\zlR P w (upd H3 pb (.tup [v1,v2])) a0 xs0/\zgR (upd H3 pb (.tup [v1,v2])) k0 b0/\xs0.length<=1000/\∀r,RelV vo r->(∃o3 xs' b r' v',[some (V.ref p),some (.ref pw),some (.str to),some uh]=[some (.ref p),some (.ref pw),some (.str to),o3]/\OfAt P w hs lks hds (upd (upd H3 pb (.tup [v1,v2])) a0 (WkO P w a0 (storedH xs0 k0 b0 r))) od xs'/\atKey xs' (a::wt,to)=some (b,r')/\RelV v' r'/\Told (upd (upd H3 pb (.tup [v1,v2])) a0 (WkO P w a0 (storedH xs0 k0 b0 r))) v' (zcU hs hds (some (a::wt,m)) to)/\xs'.length<=xs.length+1)/\Keep od H (upd (upd H3 pb (.tup [v1,v2])) a0 (WkO P w a0 (storedH xs0 k0 b0 r)))/\(∀c ys,H c=some (.tup ys)->(upd (upd H3 pb (.tup [v1,v2])) a0 (WkO P w a0 (storedH xs0 k0 b0 r))) c=some (.tup ys)):=by
     intro vo tv
     refine⟨_,rfl,p,_,dx,_,_,rfl,s03 _ _ hp,Y.k_Likings,Y.n_Likings_known_offers,zes,_,rfl,_,rfl,few rfl,λpb hpb=>?_⟩
     have SB:=Same.new (o:= .tup [V.ref pw,V.str to]) hpb
     have O3:=zbr OA s03
     have O4:=zbr O3 SB
     have e4:upd H3 pb (.tup [V.ref pw,V.str to]) pb=some (.tup [V.ref pw,V.str to]):=zb
     have hpw4:=SB _ _ (s03 _ _ hpw)
     have tv4:=tv.same SB
     have s04:=s03.trans SB
     generalize (upd H3 pb (HO.tup [V.ref pw,V.str to]))=H4 at *
     refine⟨od,pb,(a::wt,to),xs,rfl,rfl,⟨O4.at_,O4.keys⟩,⟨pw,e4,hpw4,hwk⟩,by omega,λr hr=>?_⟩
     rw[storedH_new ev]
     have up:∀c ys,H4 c=some (.tup ys)->upd H4 od (WkO P w od (xs ++ [((a::wt,to),pb,r)])) c=some (.tup ys):=λc ys e=>by rw[zi (zr9 O4 e)];exact e
     refine⟨(ex4 _ _ pb r ⟨vo,rfl,⟨.inl zb,λx hx=>?_,λx hx=>?_⟩,zi1 ev,hr,zdq tv4 up,by rw[ζe];exact ζt _⟩),(Keep.of s04).trans (Keep.upd _ _ _),λc ys e=>up _ _ (s04 _ _ e)⟩
     ·rcases List.mem_append.mp hx with hx|hx
      ·exact zeC (O4.keys x hx) up
      ·rw[List.mem_singleton.mp hx];exact⟨pw,up _ _ e4,up _ _ hpw4,hwk⟩
     ·rcases List.mem_append.mp hx with hx|hx
      ·obtain ⟨v',m',h1,h2,h3⟩:=O4.kn x hx
       exact⟨v',m',h1,h2,zdq h3 up⟩
      ·rw[List.mem_singleton.mp hx];exact⟨vo,m,hr,hm,zdq tv4 up⟩
    rw[eo] at fin
    cases eh:zv (a::wt) (some to) rs m with
    |none=>
     rw[eh] at th fin
     cases(show uh= .non from th)
     refine vr rfl ⟨rfl,vr rfl (zbP rfl ?_)⟩
     rw[eo,eh]
     exact fin .non rfl
    |some t=>
     rw[eh] at th fin
     obtain⟨pt,rfl,hpt⟩:=th
     refine vr rfl ⟨rfl,vr rfl (zbq rfl (vr rfl ?_))⟩
     rw[eo,eh]
     exact fin (.ref pw) ⟨pw,rfl,s03 _ _ hpw⟩
  ·rintro σ' H1 ⟨⟨o3,xs',b,r,v',rfl,O1,ev,hr',tv,l1⟩,k1,t1⟩
   have hp1:=k1 _ _ npo hp
   refine⟨_,rfl,p,_,dx,_,_,rfl,hp1,Y.k_Likings,Y.n_Likings_known_offers,zes,_,rfl,_,rfl,few rfl,λpb hpb=>?_⟩
   have SB:=Same.new (o:= .tup [V.ref pw,V.str to]) hpb
   have O2:=zbr O1 SB
   refine⟨od,pb,(wy,to),xs',(b,r),v',rfl,rfl,⟨O2.at_,O2.keys⟩,⟨pw,zb,SB _ _ (t1 _ _ hpw),hwk⟩,ev,hr',?_⟩
   exact q v' xs' _ (tv.same SB) O2 l1 (k1.trans (Keep.of SB)) λc ys e=>SB _ _ (t1 _ _ e)
end
section
variable{P:Program}{w:World}{K:ξk}{mg:Str->Option Value}{base:Heap}
structure BgI(P:Program)(w:World)(hs:List Str)(lks hds:List D)(H1 H:Hp)(od lr:Addr)(zs:List V)(xs:List (za7×Addr×Value))(rows:List zaH)(n:Nat):Prop where
 hz:H lr=some (.lst zs)
 rz:RepL H zs (rows.map rwD)
 of_:OfAt P w hs lks hds H od xs
 lx:xs.length<=n
 k:∀c o,c≠lr->c≠od->H1 c=some o->H c=some o
noncomputable def zhS:Sp:=λvs H Q _=>∃(v:V) (g:Str) (hs:List Str) (ps:List (Str×Str)) (lks hds:List D) (O:List Str),vs=[v]/\Rep H v (zaT g hs ps lks hds)/\TownOk g hs ps lks hds/\Pool hs lks hds O/\∀(u:V) (H':Hp),Rep H' u (stD (zcn g hs ps hds))->Same H H'->Q u H'
theorem zkS(Y:Ev K mg):FnOk P w K mg base CX0 9 Y.a_begun Y.d_begun zd2 zhS:=by
 have G_Likings___init__:FnOk P w K mg base CX0 1 Y.a_Likings___init__ Y.d_Likings___init__ zR (zfJ Y.c_Likings):=zgJ Y
 have G_Likings_offer_of:FnOk P w K mg base CX0 8 Y.a_Likings_offer_of Y.d_Likings_offer_of zac (zkC P w Y.c_Likings):=zna Y
 have G_tied:FnOk P w K mg base CX0 1 Y.a_tied Y.d_tied zfz zm4:=zpd Y
 refine Y.begun.fn.okQ c_begun (λvs H Q E h=>?_) (λcdv A outer s H vs Q E hr h=>?_)
 ·obtain ⟨v,g,hs,ps,lks,hds,O,rfl,_⟩:=h;rfl
 ·obtain ⟨v,g,hs,ps,lks,hds,O,rfl,hv,T,PO,q⟩:=h
  obtain⟨tp,pr,pt,pl,pa,vt,vl,va,rfl,htp,hpr,hpt,rt,hpl,rl,hpa,ra⟩:=zbx hv
  have T10:=T.ten
  have hn:=T.names
  have l1000:ps.length<=1000:=ξa T.lp (by decide)
  have S:=zhi (hds:=hds) T
  have okR:∀q∈zcS hs ps,RowOk hs (za0 g hs hds q):=λq hq=>S.row _ (List.mem_map.mpr ⟨q,hq,rfl⟩)
  have okD':∀qs:List (Str×Str),(∀q∈qs,q∈zcS hs ps)->∀d∈(qs.map (za0 g hs hds)).map rwD,okD d=true:=λqs hq d hd=>by
   obtain⟨r,hr,rfl⟩:=List.mem_map.mp hd
   obtain⟨q,hq',rfl⟩:=List.mem_map.mp hr
   exact(zj9 hn T10 (okR q (hq q hq'))).1
  refine⟨_,(zg (zO 1 c_begun.nd (zms Y.mk_Likings G_Likings___init__ (hr.mono (by decide)) Y.m_Likings Y.Likings___init__.b .nil zq (za (qv 0) zd)))
   (zg (zO 2 c_begun.nd (zcO zd))
   (zg (zbO PassesOwn.never rfl (zbD (zN ix_tup (qv 0) zf)) (zr 3 c_begun.nd) (zm (zbO PassesOwn.never rfl (zeo (zn G_tied (hr.mono (by decide)) Y.tied.mg Y.tied.kp Y.tied.b .nil zq (za (qv 0) (za (qv 3) zd)))) (zr 4 c_begun.nd) (zgp (zO 5 c_begun.nd (zji (zC z5 (qv 3) (zN ix_tup (qv 0) zf)) (ziX (qv 1) Y.k_Likings Y.Likings_offer_of.m G_Likings_offer_of (hr.mono (by decide)) Y.Likings_offer_of.b .nil zq (za (zD (za (qv 3) zd)) (za (qv 4) zd))) zaC))
   (zm (zbK (zdS PySem.F.plainAttrs_list PySem.F.slot_list_append PySem.F.type_list_append zan (qv 2) (za (zD (za (qv 3) (za (qv 4) (za zaC (za (zji (zC zdB (qv 5) zaC) (zD zd) (zD (za (qv 5) zd))) zd))))) zd))))))))
   (zm (zz (zL zF Y.tuple zay (za (qv 2) zd))))))),?_⟩
  refine vr rfl (λp dx np ndx nex=>(ex3 p dx (.ref tp) ⟨rfl,zb,λkd od H1 f1 f2 nko hp1 hk1 ho1 k1=>⟨rfl,?_⟩⟩))
  have u01:Same H (upd (upd H dx (.own p)) p (.ins Y.c_Likings dx [])):=λc o e=>by rw[zi (ze e np),zi (ze e ndx)];exact e
  have s01:Same H H1:=λc o e=>k1 c o (ze e np) (u01 _ _ e)
  have od0:H od=none:=none_of u01 f2
  clear k1 f1 f2
  refine⟨few rfl,λlr hlr=>?_⟩
  have SL:=Same.new (o:= .lst []) hlr
  have s02:=s01.trans SL
  have lr0:H lr=none:=none_of s01 hlr
  have hp2:=SL _ _ hp1
  have ho2:=SL _ _ ho1
  have hz2:upd H1 lr (.lst []) lr=some (.lst []):=zb
  generalize (upd H1 lr (HO.lst []))=H2 at *
  have nlo:lr≠od:=λz=>by rw[z,ho2] at hz2;cases hz2
  have npl:p≠lr:=λz=>by rw[z,hz2] at hp2;cases hp2
  have npo:p≠od:=λz=>by rw[z,ho2] at hp2;cases hp2
  have nT:∀{c:Addr} {xs:List V},H2 c=some (.tup xs)->c≠lr/\c≠od:=λ{c xs} e=>⟨(λz=>by rw[z,hz2] at e;cases e),(λz=>by rw[z,ho2] at e;cases e)⟩
  have htp2:=s02 _ _ htp
  have hpr2:=s02 _ _ hpr
  have hv2:=hv.same s02
  refine vr rfl (ixT htp2 (zQ (j:=1) rfl) ⟨pr,rfl,⟨_, .inl (.inl hpr2)⟩,?_⟩)
  refine zaU (zaI (K:=K) (xs:=hs.map V.str)) (λj σ' H'=>(∃o3 o4 o5,σ'=[some (.ref tp),some (.ref p),some (.ref lr),o3,o4,o5])/\∃zs xs,BgI P w hs lks hds H2 H' od lr zs xs (((hs.take j).flatMap λx=>(due hs ps x).map λy=>(x,y)).map (za0 g hs hds)) (10*j)) ?_ ?_ ?_ ?_
  ·exact ⟨(ex3 _ _ _ rfl),[],[],hz2, .nil,⟨.inr ⟨rfl,ho2⟩,(λx hx=>nomatch hx),(λx hx=>nomatch hx)⟩,ξi _,λc o _ _ e=>e⟩
  ·rintro j σ' H' ⟨_,zs,xs,B⟩
   exact .inl (.inl (B.k _ _ (nT hpr2).1 (nT hpr2).2 hpr2))
  ·rintro j y σ' H3 hj hy ⟨⟨o3,o4,o5,rfl⟩,zs,xs,B⟩
   rw[ζa] at hj
   rw[ζp] at hy
   obtain⟨x,ex,rfl⟩:∃x,hs[j]?=some x/\y= .str x:=by
    cases e:hs[j]? with
    |none=>rw[e] at hy;cases hy
    |some x=>rw[e] at hy;cases hy;exact⟨x,rfl,rfl⟩
   have hx:=ζk ex
   have t3:∀c xs,H2 c=some (.tup xs)->H3 c=some (.tup xs):=λc xs e=>B.k _ _ (nT e).1 (nT e).2 e
   have hv3:=zcm hv2 t3 (zfK T l1000).1
   refine vr rfl (vr rfl (ex4 (.ref tp) x g hs (ex3 ps lks hds ⟨rfl,hv3,T,λl ts H4 hl0 hl hpm hso s4=>?_⟩)))
   have ets:=zqX T hpm hso
   subst ets
   refine⟨l,rfl,⟨_,SqL.of hl⟩,?_⟩
   have nll:l≠lr:=λz=>by rw[z,B.hz] at hl0;cases hl0
   have nlod:l≠od:=λz=>by
    rw[z] at hl0
    rcases B.of_.at_ with h|⟨_,h⟩<;>(rw[h] at hl0;cases hl0)
   have dl:=zhb T hx
   generalize epre:((hs.take j).flatMap λx=>(due hs ps x).map λy=>(x,y))=pre at B
   have hpre:∀q∈pre,q∈zcS hs ps:=λq hq=>by
    rw[←epre] at hq
    obtain⟨z,hz,hq⟩:=List.mem_flatMap.mp hq
    exact List.mem_flatMap.mpr ⟨z,ξu hz,hq⟩
   have hcur:∀k,∀q∈((due hs ps x).take k).map (λy=>(x,y)),q∈zcS hs ps:=λk q hq=>by
    obtain⟨y,hy,rfl⟩:=List.mem_map.mp hq
    exact List.mem_flatMap.mpr ⟨x,hx,List.mem_map.mpr ⟨y,ξu hy,rfl⟩⟩
   have lpre:pre.length<=90:=by
    have h1:pre.length<=(hs.take j).length*9:=by rw[←epre];exact ziG λz hz=>by rw[ζa];exact zhb T (ξu hz)
    rw[ζl] at h1
    have:min j hs.length<=10:=by omega
    omega
   have B4:BgI P w hs lks hds H2 H4 od lr zs xs (pre.map (za0 g hs hds)) (10*j):=⟨s4 _ _ B.hz,B.rz.mono (.of s4),zbr B.of_ s4,B.lx,λc o c1 c2 e=>s4 _ _ (B.k c o c1 c2 e)⟩
   refine zaU (zdi (K:=K) (xs:=(due hs ps x).map V.str)) (λk σ' H'=>(∃o4 o5,σ'=[some (.ref tp),some (.ref p),some (.ref lr),some (.str x),o4,o5])/\H' l=some (.lst ((due hs ps x).map V.str))/\∃zs xs,BgI P w hs lks hds H2 H' od lr zs xs ((pre ++((due hs ps x).take k).map λy=>(x,y)).map (za0 g hs hds)) (10*j+k)) ?_ ?_ ?_ ?_
   ·refine ⟨(ex2 _ _ rfl),hl,zs,xs,?_⟩
    rw[List.take_zero,List.map_nil,ξw]
    exact B4
   ·exact λk σ' H' z=>SqL.of z.2.1
   ·rintro k y' σ' H5 hk hy' ⟨⟨o4,o5,rfl⟩,hl5,zs5,xs5,B5⟩
    rw[ζa] at hk
    rw[ζp] at hy'
    obtain⟨y,ey,rfl⟩:∃y,(due hs ps x)[k]?=some y/\y'= .str y:=by
     cases e:(due hs ps x)[k]? with
     |none=>rw[e] at hy';cases hy'
     |some z=>rw[e] at hy';cases hy';exact⟨z,rfl,rfl⟩
    have hyd:=ζk ey
    have hy:y∈hs:=(List.mem_filter.mp hyd).1
    have t5:∀c xs,H2 c=some (.tup xs)->H5 c=some (.tup xs):=λc xs e=>B5.k _ _ (nT e).1 (nT e).2 e
    have hp5:=B5.k _ _ npl npo hp2
    have hxy:(x,y)∈zcS hs ps:=List.mem_flatMap.mpr ⟨x,hx,List.mem_map.mpr ⟨y,hyd,rfl⟩⟩
    have okq:∀d∈((pre ++((due hs ps x).take k).map λy=>(x,y)).map (za0 g hs hds)).map rwD,okD d=true:=okD' _ λq hq=>(List.mem_append.mp hq).elim (hpre q) (hcur k q)
    have lz5:zs5.length<=99:=by
     rw[B5.rz.1,ζa,ζa,ζe,ζa,ζl];omega
    have htp5:=t5 _ _ htp2
    refine⟨λσ' H'=>(∃vo,σ'=[some (.ref tp),some (.ref p),some (.ref lr),some (.str x),some (.str y),some vo]/\Told H' vo (if x=g then zcU hs hds (some ([g],[])) y else none))/\H' l=some (.lst ((due hs ps x).map V.str))/\∃xs',BgI P w hs lks hds H2 H' od lr zs5 xs' ((pre ++((due hs ps x).take k).map λy=>(x,y)).map (za0 g hs hds)) (10*j+(k+1)),?_,?_⟩
    ·refine vr rfl (vr rfl (ixT htp5 at0 ⟨rfl,vr rfl (zbi (λeg=>?_) (λeg=>?_))⟩))
     ·have eg:x=g:=V.str.inj (ζh eg)
      refine vr rfl (ex3 p dx _ ⟨rfl,hp5,rfl,vr rfl ⟨few rfl,λb1 hb1=>(vr rfl ?_)⟩⟩)
      have SB:=Same.new (o:= .tup [V.str x]) hb1
      refine⟨p,dx,kd,od, .ref tp, .ref b1,some ([x],[]),ex8 xs5 x y g hs ps lks hds ⟨O,rfl,SB _ _ hp5,zbr B5.of_ SB,by have:=B5.lx;omega,(zcm hv2 t5 (zfK T l1000).1).same SB,T,PO,hy,⟨b1,rfl,zb⟩,λe he=>?_,λu xs6 H6 tu O6 l6 k6 t6=>?_⟩⟩
      ·cases he
       exact⟨⟨⟨[],rfl⟩,λz hz=>by rw[List.mem_singleton.mp hz];exact hx,by simp⟩,by show zI hs lks hds [x]=some [];rw[zI]⟩
      refine⟨⟨u,rfl,?_⟩,k6 _ _ nlod (SB _ _ hl5),xs6,k6 _ _ nlo (SB _ _ B5.hz),zjp (B5.rz.mono (.of SB)) t6 okq,O6,by have:=B5.lx;omega,λc o c1 c2 e=>k6 _ _ c2 (SB _ _ (B5.k c o c1 c2 e))⟩
      rw[if_pos eg,←eg];exact tu
     ·refine ⟨(vr rfl ?_),hl5,xs5,B5.hz,B5.rz,B5.of_,by have:=B5.lx;omega,B5.k⟩
      rw[if_neg (λz=>by rw[z] at eg;simp at eg)];rfl
    ·rintro σ' H6 ⟨⟨vo,rfl,tvo⟩,hl6,xs6,B6⟩
     refine vr rfl ⟨.inl ⟨rfl,_,SqL.of B6.hz⟩,vr rfl (vr rfl ?_)⟩
     have fin:∀(q4:Addr) (ws:List V) (H7:Hp),H7 q4=some (.tup ws)->RepL H7 ws ((za0 g hs hds (x,y)).2.2.2.map zcR)->Same H6 H7->∀p6,H7 p6=none->∃(l':Addr) (ys:List V) (y':V),V.ref lr= .ref l'/\ [V.ref p6]=[y']/\upd H7 p6 (.tup [.str x, .str y, .non, .ref q4]) l'=some (.lst ys)/\ys.length<sizeLine/\(∃o4 o5,[some (V.ref tp),some (.ref p),some (.ref lr),some (.str x),some (.str y),some vo]=[some (V.ref tp),some (.ref p),some (.ref lr),some (.str x),o4,o5])/\upd (upd H7 p6 (.tup [.str x, .str y, .non, .ref q4])) l' (.lst (ys ++ [y'])) l=some (.lst ((due hs ps x).map V.str))/\∃zs xs,BgI P w hs lks hds H2 (upd (upd H7 p6 (.tup [.str x, .str y, .non, .ref q4])) l' (.lst (ys ++ [y']))) od lr zs xs ((pre ++((due hs ps x).take (k+1)).map λy=>(x,y)).map (za0 g hs hds)) (10*j+(k+1)):=by
      intro q4 ws H7 h4 rw4 s67 p6 hp6
      have S8:=Same.new (o:= .tup [.str x, .str y, .non, .ref q4]) hp6
      have s68:=s67.trans S8
      have hz8:=s68 _ _ B6.hz
      have rr:Rep (upd H7 p6 (.tup [.str x, .str y, .non, .ref q4])) (.ref p6) (rwD (za0 g hs hds (x,y))):=zjT (r:=za0 g hs hds (x,y)) zb (zA (hn x hx)) (zA (hn y hy)) .non (S8 _ _ h4) (rw4.mono (.of S8)) (ξa zhq (by decide))
      have O8:=zbr B6.of_ s68
      have up:∀c zs,upd H7 p6 (.tup [.str x, .str y, .non, .ref q4]) c=some (.tup zs)->upd (upd H7 p6 (.tup [.str x, .str y, .non, .ref q4])) lr (.lst (zs5 ++ [.ref p6])) c=some (.tup zs):=λc zs e=>by rw[zi (zca e hz8 (λz=>nomatch z))];exact e
      refine ex3 lr zs5 _ ⟨rfl,rfl,hz8,zj (by omega),(ex2 _ _ rfl),by rw[zi nll];exact s68 _ _ hl6,_,xs6,zb,?_,⟨?_,λz hz=>zeC (O8.keys z hz) up,zhW O8.kn up⟩,B6.lx,λc o c1 c2 e=>?_⟩
      ·rw[ξs,ey,show pre ++((due hs ps x).take k ++(some y).toList).map (λy=>(x,y))=(pre ++((due hs ps x).take k).map λy=>(x,y))++ [(x,y)] by simp,ξb,ξb]
       exact RepL.mono (.append (B6.rz.mono (.of s68)) (.cons rr .nil)) (.lset hz8)
      ·rw[zi (Ne.symm nlo)];exact O8.at_
      ·rw[zi c1];exact s68 _ _ (B6.k c o c1 c2 e)
     have hb:(za0 g hs hds (x,y)).2.2.2=match(if x=g then zcU hs hds (some ([g],[])) y else none)with|none=> []|some w=> [some w]:=by
      unfold za0
      dsimp only
      by_cases c:x=g
      ·rw[if_pos c,if_pos c];try (cases zcU hs hds (some ([g],[])) y<;>rfl)
      ·rw[if_neg c,if_neg c]
     have hwo:∀wy,(if x=g then zcU hs hds (some ([g],[])) y else none)=some wy->wy=[x]:=λwy e=>by
      by_cases c:x=g
      ·rw[if_pos c] at e;rw[zjM e,c]
      ·rw[if_neg c] at e;cases e
     cases ho:(if x=g then zcU hs hds (some ([g],[])) y else none)with
     |none=>
      rw[ho] at tvo hb
      cases(show vo= .non from tvo)
      refine vr rfl ⟨rfl,vr rfl (zbP rfl ⟨few rfl,λq4 hq4=>⟨few rfl,λp6 hp6=>?_⟩⟩)⟩
      exact fin q4 [] _ zb (by rw[hb];exact .nil) (Same.new hq4) p6 hp6
     |some wy=>
      rw[ho] at tvo hb
      obtain⟨pw,rfl,hpw⟩:=tvo
      have ew:=hwo wy ho
      refine vr rfl ⟨rfl,vr rfl (zbq rfl (vr rfl ⟨few rfl,λq4 hq4=>⟨few rfl,λp6 hp6=>?_⟩⟩))⟩
      refine fin q4 [.ref pw] _ zb (by
       rw[hb]
       refine .cons (zh4 (o:=some wy) ⟨pw,rfl,Same.new hq4 _ _ hpw⟩ λw' e=>?_) .nil
       cases e
       rw[ew]
       exact⟨Nat.le_of_ble_eq_true rfl,λz hz=>by rw[List.mem_singleton.mp hz];exact zA (hn x hx)⟩) (Same.new hq4) p6 hp6
   ·rintro σ' H5 ⟨⟨o4,o5,rfl⟩,_,zs5,xs5,B5⟩
    rw[ζa,ξv] at B5
    refine⟨(ex3 _ _ _ rfl),zs5,xs5,B5.hz,?_,B5.of_,by have:=B5.lx;omega,B5.k⟩
    rw[ξs,ex,List.flatMap_append,epre]
    have:=B5.rz
    simpa using this
  ·rintro σ' H3 ⟨⟨o3,o4,o5,rfl⟩,zs,xs,B⟩
   rw[ζa,ξv] at B
   refine vr rfl (ex2 lr zs ⟨rfl, .inl ⟨SqL.of B.hz,λp6 hp6=>?_⟩⟩)
   refine q _ _ (.mkL zb (by rw[ζa];have:=S.len;omega) (RepL.mono (ds:=(zcn g hs ps hds).map rwD) B.rz (.new hp6))) λc o e=>?_
   exact Same.new hp6 _ _ (B.k _ _ (ze e lr0) (ze e od0) (s02 _ _ e))
end
section
variable{P:Program}{w:World}{K:ξk}{mg:Str->Option Value}{base:Heap}
theorem zso{k:Nat}{A:Around}(r:Room k A):A.units+66<cLine:=by have:=r.un;omega
theorem ze9{H H':Hp}{kvs:List (Key×V)}{cs:List (Str×Option (List Str))}(h:ChAt H kvs cs)(m:∀c xs,H c=some (.tup xs)->H' c=some (.tup xs)):ChAt H' kvs cs:=by
 induction h with
 |nil=>exact .nil
 | @cons x v o kvs cs t _ ih=>
   refine .cons ?_ ih
   cases o with
   |none=>exact t
   |some w=>obtain ⟨p,e,hp⟩:=t;exact⟨p,e,m _ _ hp⟩
theorem zo8{H:Hp}{kvs:List (Key×V)}{cs:List (Str×Option (List Str))}{x:Str}{v:V}{o:Option (List Str)}(h:ChAt H kvs cs)(t:Told H v o):ChAt H (kvs ++ [(Sum.inr x,v)]) (cs ++ [(x,o)]):=by
 induction h with
 |nil=>exact .cons t .nil
 |cons t' _ ih=>exact .cons t' ih
theorem zoJ{H:Hp}{kvs:List (Key×V)}{cs:List (Str×Option (List Str))}{x:Str}(h:ChAt H kvs cs)(nx:x∉cs.map (·.1)):zbm kvs (Sum.inr x)=none:=by
 induction h with
 |nil=>rfl
 | @cons y v o kvs cs t _ ih=>
   rw[ξt,List.mem_cons,not_or] at nx
   rw[zbC λz=>nx.1 (Sum.inr.inj z).symm]
   exact ih nx.2
theorem zp7{H:Hp}{kvs:List (Key×V)}{cs:List (Str×Option (List Str))}(h:ChAt H kvs cs):kvs.length=cs.length:=by
 induction h with
 |nil=>rfl
 |cons _ _ ih=>rw[ζv,ζv,ih]
theorem zqI{H:Hp}{cs:List (Str×Option (List Str))}(hn:∀c∈cs,∀w,c.2=some w->∀y∈w,zh y=true):∀{kvs kvs':List (Key×V)},ChAt H kvs cs->ChAt H kvs' cs->Alk H kvs kvs':=by
 induction cs with
 |nil=>intro kvs kvs' h h';cases h;cases h';exact .nil
 |cons c cs ih=>
  intro kvs kvs' h h'
  cases h with
  |cons t h=>
   cases h' with
   |cons t' h'=>
    exact .cons (zhH t (hn _ ζo)) (zhH t' (hn _ ζo)) znv (ih (λc hc=>hn c (ξc _ hc)) h h')
noncomputable def chS(g:Str)(hs:List Str)(lks hds:List D)(sr:List zaH)(x:Str):Str×Option (List Str):=(x,(zd8 g hs lks hds x sr).map (·.1))
theorem zmU{g:Str}{hs xs:List Str}{lks hds:List D}{sr:List zaH}:(xs.map (chS g hs lks hds sr)).map (·.1)=xs:=by rw[List.map_map];exact(List.map_congr_left λx _=>rfl).trans (List.map_id _)
theorem zmK{xs:List Str}{i:Nat}{x:Str}(nd:xs.Nodup)(h:xs[i]?=some x):x∉xs.take i:=λhm=>by
 obtain⟨j,hj,e⟩:=List.getElem_of_mem hm
 rw[ζl] at hj
 rw[List.getElem_take] at e
 have:xs[j]?=xs[i]?:=by rw[h,ζd (by omega),e]
 have:=(List.getElem?_inj (by omega) nd).mp this
 omega
noncomputable def zhP:Sp:=λvs H Q _=>∃(v:V) (st:Addr) (sr:List zaH) (g:Str) (hs:List Str) (ps:List (Str×Str)) (lks hds:List D) (O:List Str),vs=[v, .ref st]/\Rep H v (zaT g hs ps lks hds)/\TownOk g hs ps lks hds/\Pool hs lks hds O/\Rep H (.ref st) (stD sr)/\StOk hs sr/\∀(l:Addr) (kvs:List (Key×V)) (H':Hp),H l=none->H' l=some (.dK kvs)->ChAt H' kvs (hs.map (chS g hs lks hds sr))->Same H H'->Q (.ref l) H'
theorem zkR(Y:Ev K mg):FnOk P w K mg base CX0 10 Y.a_choice_of Y.d_choice_of zbJ zhP:=by
 have G_Likings___init__:FnOk P w K mg base CX0 1 Y.a_Likings___init__ Y.d_Likings___init__ zR (zfJ Y.c_Likings):=zgJ Y
 have G_Likings_way_by:FnOk P w K mg base CX0 9 Y.a_Likings_way_by Y.d_Likings_way_by zam (zjK Y.c_Likings):=zlI Y
 have G_ways_heard:FnOk P w K mg base CX0 1 Y.a_ways_heard Y.d_ways_heard zbh zj1:=zgh Y
 refine Y.choice_of.fn.okQ c_choice_of (λvs H Q E h=>?_) (λcdv A outer s H vs Q E hr h=>?_)
 ·obtain ⟨v,st,sr,g,hs,ps,lks,hds,O,rfl,_⟩:=h;rfl
 ·obtain ⟨v,st,sr,g,hs,ps,lks,hds,O,rfl,hv,T,PO,hst,S,q⟩:=h
  obtain⟨tp,pr,pt,pl,pa,vt,vl,va,rfl,htp,hpr,hpt,rt,hpl,rl,hpa,ra⟩:=zbx hv
  obtain⟨st',us,est,hst',rus,_⟩:=hst.ofT
  cases est
  have T10:=T.ten
  refine⟨_,(zg (zdG 2 c_choice_of.nd (zms Y.mk_Likings G_Likings___init__ (hr.mono (by decide)) Y.m_Likings Y.Likings___init__.b .nil zq (za (qv 0) zd)))
   (zm (zz (zmS (src:=[none,some 2,some 1]) o_choice_of_1 rfl rfl (zbD (zN ix_tup (qv 0) zf)) (λ_ _ _ _ _=>(zr 0 o_choice_of_1.nd)) (λ_ _ _ _ _=>zdN) (λ_ _ _ _ _=>(qv 0)) (λ_ _ _ _ _=>(ziX (qc 1) Y.k_Likings Y.Likings_way_by.m G_Likings_way_by (hr.mono (by decide)) Y.Likings_way_by.b .nil zq (za (qv 0) (za (zn G_ways_heard (hr.mono (by decide)) Y.ways_heard.mg Y.ways_heard.kp Y.ways_heard.b .nil zq (za (qc 2) (za (qv 0) zd))) zd)))))))),?_⟩
  refine vr rfl (λp dx np ndx nex=>(ex3 p dx (.ref tp) ⟨rfl,zb,λkd od H1 f1 f2 nko hp1 hk1 ho1 k1=>⟨rfl,?_⟩⟩))
  have u01:Same H (upd (upd H dx (.own p)) p (.ins Y.c_Likings dx [])):=λc o e=>by rw[zi (ze e np),zi (ze e ndx)];exact e
  have s01:Same H H1:=λc o e=>k1 c o (ze e np) (u01 _ _ e)
  have kd0:H kd=none:=none_of u01 f1
  clear k1 f1 f2
  refine vr rfl (ixT (s01 _ _ htp) (zQ (j:=1) rfl) ⟨pr,rfl,⟨_, .inl (.inl (s01 _ _ hpr))⟩,?_⟩)
  refine zlq (zaI (K:=K) (xs:=hs.map V.str)) (λlc i ys σ' H'=>(∃o,σ'=[o,some (.ref p),some (.ref st)])/\ChAt H' ys ((hs.take i).map (chS g hs lks hds sr))/\(∃kvs,LkAt Y.c_Likings hs lks hds H' p dx (.ref tp) kd od kvs/\kvs.length<=90*i)/\Same H H') ?_ ?_ ?_ ?_
  ·intro lc hlc
   have SN:=Same.new (o:= .dK []) hlc
   exact⟨⟨_,rfl⟩, .nil,⟨[],⟨SN _ _ hp1,SN _ _ hk1,λkv hkv=>nomatch hkv⟩,ξi _⟩,s01.trans SN⟩
  ·exact λlc i ys σ' H' hlc z=> .inl (.inl (z.2.2.2 _ _ hpr))
  ·rintro lc i y ys σ' H2 hlc hi hy ⟨⟨o,rfl⟩,ch,⟨kvs,L,lk⟩,s2⟩ hlc'
   rw[ζa] at hi
   rw[ζp] at hy
   obtain⟨x,ex,rfl⟩:∃x,hs[i]?=some x/\y= .str x:=by
    cases e:hs[i]? with
    |none=>rw[e] at hy;cases hy
    |some x=>rw[e] at hy;cases hy;exact⟨x,rfl,rfl⟩
   have hx:=ζk ex
   have hp2:=L.hp
   refine vr rfl (vr rfl (ex3 p dx _ ⟨rfl,hp2,rfl,vr rfl (vr rfl (vr rfl ?_))⟩))
   refine ex4 st sr x hs ⟨rfl,⟨us, .inl (s2 _ _ hst'),rus.mono (.of s2)⟩,S,T.names,T10,λlw uw H3 hlw0 hlw rw3 s3=>?_⟩
   have L3:LkAt Y.c_Likings hs lks hds H3 p dx (.ref tp) kd od kvs:=⟨s3 _ _ L.hp,s3 _ _ L.hk,λkv hkv=>let ⟨w',e',k'⟩:=L.kn kv hkv;⟨w',e',zaf k' λc xs e=>s3 _ _ e⟩⟩
   refine ex8 p dx kd od lw (.ref tp) kvs uw (ex8 sr x g hs ps lks hds O ⟨rfl,L3,by omega,hv.same (s2.trans s3),T,PO,hx,hlw,rw3,S,λu kvs4 H4 tu L4 l4 k4=>?_⟩)
   have nck:lc≠kd:=λz=>by rw[z,L.hk] at hlc';cases hlc'
   have hlc4:=k4 _ _ nck (s3 _ _ hlc')
   have m24:∀c xs,H2 c=some (.tup xs)->H4 c=some (.tup xs):=λc xs e=>kT L3.hk k4 _ _ (s3 _ _ e)
   have nx:x∉((hs.take i).map (chS g hs lks hds sr)).map (·.1):=by rw[zmU];exact zmK T.hs_nd ex
   have cl:=zp7 ch
   rw[ζa,ζl] at cl
   have npc:p≠lc:=λz=>by rw[z,hlc'] at hp2;cases hp2
   refine⟨Sum.inr x,rfl,hlc4,zj (by omega),⟨_,rfl⟩,?_⟩
   rw[zij u (zoJ ch nx)]
   have up:∀c xs,H4 c=some (.tup xs)->upd H4 lc (.dK (ys ++ [(Sum.inr x,u)])) c=some (.tup xs):=λc xs e=>by rw[zi (zca e hlc4 (λz=>nomatch z))];exact e
   refine⟨?_,⟨kvs4,⟨by rw[zi npc];exact L4.hp,by rw[zi (Ne.symm nck)];exact L4.hk,λkv hkv=>let ⟨w',e',k'⟩:=L4.kn kv hkv;⟨w',e',zaf k' up⟩⟩,by omega⟩,λc o e=>?_⟩
   ·rw[ξs,ex,ξb]
    refine zo8 (ze9 ch λc xs e=>up _ _ (m24 _ _ e)) ?_
    show Told _ u ((zd8 g hs lks hds x sr).map (·.1))
    cases hg:zd8 g hs lks hds x sr with
    |none=>rw[hg] at tu;exact tu
    |some e=>rw[hg] at tu;obtain⟨b,e1,e2⟩:=tu;exact⟨b,e1,up _ _ e2⟩
   ·have nlc:c≠lc:=ze (s01 _ _ e) hlc
    rw[zi nlc]
    exact k4 _ _ (ze e kd0) (s3 _ _ (s2 _ _ e))
  ·rintro lc ys σ' H2 hlc ⟨_,ch,_,s2⟩ hlc'
   rw[ζa,ξv] at ch
   exact q lc ys H2 (none_of s01 hlc) hlc' ch s2
end
section
variable{P:Program}{w:World}{K:ξk}{mg:Str->Option Value}{base:Heap}
theorem zns{H:Hp}{g:Str}{pg:Addr}(hg:H pg=some (.tup [V.str g])):∀hs:List Str,ChAt H ((zce hs (List.replicate hs.length V.non)).map (λkv=>if kv.1=Sum.inr g then(kv.1,V.ref pg)else kv)) (hs.map λx=>(x,if x=g then some [g] else none))
 |[]=> .nil
 |x::hs=>by
  have ih:=zns hg hs
  have e0:zce (x::hs) (List.replicate (x::hs).length V.non)=(Sum.inr x,V.non)::zce hs (List.replicate hs.length V.non):=rfl
  rw[e0,ξt,ξt]
  by_cases c:x=g
  ·rw[if_pos (by rw[c]),if_pos c]
   exact .cons ⟨pg,rfl,hg⟩ ih
  ·rw[if_neg (λz=>c (Sum.inr.inj z)),if_neg c]
   exact .cons rfl ih
theorem zpn{g:Str}{hs:List Str}{v:V}(h:g∈hs):zb7 (zce hs (List.replicate hs.length V.non)) (Sum.inr g) v=(zce hs (List.replicate hs.length V.non)).map (λkv=>if kv.1=Sum.inr g then(kv.1,v)else kv):=by
 unfold zb7
 rw[if_pos]
 rw[List.any_eq_true]
 obtain⟨i,hi⟩:=List.mem_iff_getElem?.mp h
 have hl:=(List.getElem?_eq_some_iff.mp hi).1
 refine⟨(Sum.inr g,V.non),?_,by simp⟩
 unfold zce
 refine List.mem_map.mpr ⟨(g,V.non),?_,rfl⟩
 refine List.mem_iff_getElem?.mpr ⟨i,?_⟩
 rw[List.getElem?_zip_eq_some]
 exact⟨hi,by rw[List.getElem?_replicate,if_pos hl]⟩
noncomputable def zkb(K:ξk):Sp:=λvs H Q _=>∃(a:Addr) (ns:List Int),vs=[.ref a]/\SqL K H a (ns.map V.int)/\ns.length<=63/\∀H',Q (.bl true) H'
theorem zll(Y:Ev K mg){fl:Addr}{fdl:FuncData}(FL:Fun K "law" "law" zc9 fl fdl):FnOk P w K mg base CX0 12 fl fdl zkk (zkb K):=by
 have G__law_hand:FnOk P w K mg base CX0 1 Y.a__law_hand Y.d__law_hand zbz (zl3 K):=zop Y
 have G__law_town:FnOk P w K mg base CX0 6 Y.a__law_town Y.d__law_town zbE zj8:=zpm Y
 have G__law_begun:FnOk P w K mg base CX0 5 Y.a__law_begun Y.d__law_begun zbb zj6:=zla Y
 have G_begun:FnOk P w K mg base CX0 9 Y.a_begun Y.d_begun zd2 zhS:=zkS Y
 have G_choice_of:FnOk P w K mg base CX0 10 Y.a_choice_of Y.d_choice_of zbJ zhP:=zkR Y
 have G_comings:FnOk P w K mg base CX0 1 Y.a_comings Y.d_comings zch zjz:=ziQ Y
 have G__law_comings:FnOk P w K mg base CX0 1 Y.a__law_comings Y.d__law_comings zaJ zjz:=zhN Y
 refine FL.okQ c_law (λvs H Q E h=>?_) (λcdv A outer s H vs Q E hr h=>?_)
 ·obtain ⟨a,ns,rfl,_⟩:=h;rfl
 ·obtain ⟨b,ns,rfl,hS,hns,q⟩:=h
  refine⟨_,(zg (zbO PassesOwn.never rfl (zbY Y.range (za (zE (zk8 rfl) Y.max zqN (za zf (za (zE (zgL rfl) Y.min ziN (za (zE zae Y.len zbL (za (qv 0) zd)) (za zf zd))) zd))) zd)) (zr 1 c_law.nd) (zg (zO 2 c_law.nd (zn G__law_town (hr.mono (by decide)) Y._law_town.mg Y._law_town.kp Y._law_town.b .nil zq (za (zn G__law_hand (hr.mono (by decide)) Y._law_hand.mg Y._law_hand.kp Y._law_hand.b .nil zq (za (qv 0) (za (qv 1) zd))) (za (zey [V.int 1,V.int 2,V.int 3,V.int 3,V.int 4,V.int 4,V.int 5,V.int 10] (by decide +kernel)) zd))))
   (zg (zO 3 c_law.nd (zn G__law_begun (hr.mono (by decide)) Y._law_begun.mg Y._law_begun.kp Y._law_begun.b .nil zq (za (qv 2) zd)))
   (zg (zO 4 c_law.nd (zL (zju rfl) Y.dict L2.boot_dict (za (zb6 (src:=[none]) o_law_1 rfl rfl (zbD (zN ix_tup (qv 2) zf)) (λ_ _ _ _ _=>(zr 0 o_law_1.nd)) (λ_ _ _ _ _=>zdN) (λ_ _ _ _ _=>(zD (za (qv 0) (za zaC zd))))) zd)))
   (zg (znf (hu1 hr) (qv 4) (zN ix_tup (qv 2) zf) (zD (za (zN ix_tup (qv 2) zf) zd)))
   (zm (zbO PassesOwn.never rfl (zbY Y.range (za zf zd)) (zr 5 c_law.nd) (zg (zpR 6 7 c_law.nd (za (zn G_choice_of (hr.mono (by decide)) Y.choice_of.mg Y.choice_of.kp Y.choice_of.b .nil zq (za (qv 2) (za (qv 3) zd))) (za (zn G_comings (hr.mono (by decide)) Y.comings.mg Y.comings.kp Y.comings.b .nil zq (za (qv 3) zd)) zd)))
   (zg (zaP (t_w (znN (zC zgr (zE (zcN hr.gd (znn hr)) Y.repr zfc (za (zn G_begun (hr.mono (by decide)) Y.begun.mg Y.begun.kp Y.begun.b .nil zq (za (qv 2) zd)) zd)) (zE (zcN hr.gd (znn hr)) Y.repr zfc (za (qv 3) zd))) (zjA (zC zgr (zE (zcN hr.gd (znn hr)) Y.repr zfc (za (qv 7) zd)) (zE (zcN hr.gd (znn hr)) Y.repr zfc (za (zn G__law_comings (hr.mono (by decide)) Y._law_comings.mg Y._law_comings.kp Y._law_comings.b .nil zq (za (qv 3) zd)) zd)))))) (zm (zz ziY)) zab)
   (zg (zaP (t_w (znN (zmA (ziA (zE zl5 Y.isinstance zf5 (za (qv 6) (za (zsf Y.dict znU) zd))))) (zjA (zC (zre (zso hr)) (qv 6) (qv 4))))) (zm (zz ziY)) zab)
   (zg (zbK (zrt PySem.F.plainAttrs_dict PySem.F.slot_dict_clear PySem.F.type_dict_clear zkL (qv 6)))
   (zm (zbK (zdS PySem.F.plainAttrs_list PySem.F.slot_list_append PySem.F.type_list_append zan (qv 7) (za zf zd)))))))))))))))
   (zm (zz ziY))),?_⟩
  refine vr rfl (.inl (ex2 b _ ⟨rfl, .inl hS,ex2 _ _ ⟨rfl,ex2 _ _ ⟨rfl,vr rfl ⟨?_,?_,?_⟩⟩⟩⟩))
  ·split<;>(try split)<;>omega
  ·rw[ζa]
   split<;>(try split)<;>omega
  refine zaU zbZ (λi σ' H'=>(∃o1 o2 o3 o4 o5 o6 o7,σ'=[some (.ref b),o1,o2,o3,o4,o5,o6,o7])/\Same H H') ⟨(ex4 _ _ _ _ (ex3 _ _ _ rfl)),Same.refl H⟩ (λ_ _ _ _=>trivial) ?_ ?_
  ·rintro i y σ' H0 hi rfl ⟨⟨o1,o2,o3,o4,o5,o6,o7,rfl⟩,s0⟩
   have hi':i<1000:=by
    refine ξf hi ?_
    rw[ζa]
    split<;>(try split)<;>omega
   refine vr rfl (vr rfl (ex3 b ns _ ⟨rfl,s0.seq hS,by omega,by omega,λa H1 ha hH1 s1=>?_⟩))
   refine⟨by decide,λpz hpz=>?_⟩
   have SZ:=Same.new (o:= .lst [V.int 1,V.int 2,V.int 3,V.int 3,V.int 4,V.int 4,V.int 5,V.int 10]) hpz
   refine ex4 a pz 0 [1,2,3,3,4,4,5,10] ⟨10,rfl,hH1.same SZ,by decide,zb,hH1.ne hpz,by decide,by decide,by decide,by decide,λv g hs ps lks hds H2 hv T ⟨O,PO⟩ h7 lp _ _ hH2 k2=>?_⟩
   have sa2:Same H0 H2:=λc o e=>k2 c o (ze e ha) (SZ _ _ (s1 c o e))
   have T10:=T.ten
   have hn:=T.names
   have hg:g∈hs:=T.goal
   have S:=zhi (hds:=hds) T
   refine vr rfl (ex4 v g hs ps (ex3 lks hds O ⟨rfl,hv,T,PO,λus H3 rs s3=>?_⟩))
   have hv3:=hv.same s3
   have sa3:=sa2.trans s3
   obtain⟨tp,pr,pt,pl,pa,vt,vl,va,rfl,htp,hpr,hpt,rt,hpl,rl,hpa,ra⟩:=zbx hv3
   obtain⟨st,uss,rfl,hst,rus,_⟩:=id rs.ofT
   refine vr rfl (ixT htp at1 ⟨pr,rfl,⟨_, .inl (.inl hpr)⟩,?_⟩)
   refine zaR (zaI (K:=K) (xs:=hs.map V.str)) (λl i ys σ' H'=>(∃o,σ'=[o])/\∃ts,ys=ts.map V.ref/\TwosAt H' ts (hs.take i) (List.replicate (hs.take i).length V.non)/\Same H3 H') ?_ (λl i ys σ' H' hl ⟨_,_,_,_,s⟩=> .inl (.inl (s _ _ hpr))) ?_ ?_
   ·exact λl hl=>⟨⟨_,rfl⟩,[],rfl, .nil,Same.new hl⟩
   ·rintro l i y0 ys σ' H4 hl' hi hy ⟨⟨o,rfl⟩,ts,rfl,tw,s4⟩ hl4
    rw[ζa] at hi
    rw[ζp] at hy
    obtain⟨y,ey,rfl⟩:∃y,hs[i]?=some y/\y0= .str y:=by
     cases e:hs[i]? with
     |none=>rw[e] at hy;cases hy
     |some y=>rw[e] at hy;cases hy;exact⟨y,rfl,rfl⟩
    have tk:hs.take (i+1)=hs.take i ++ [y]:=by rw[ξs,ey];rfl
    refine vr rfl ⟨few rfl,λp3 hp3=>?_⟩
    have S3:=Same.new (o:= .tup [V.str y, .non]) hp3
    have hl5:=S3 _ _ hl4
    have lt:ts.length<=10:=by have h1:=tw.len.1;rw[ζl] at h1;omega
    have up:∀c us,upd H4 p3 (.tup [V.str y, .non]) c=some (.tup us)->upd (upd H4 p3 (.tup [V.str y, .non])) l (.lst (ts.map V.ref ++ [.ref p3])) c=some (.tup us):=λc us e=>by rw[zi (zca e hl5 (by intro z;cases z))];exact e
    refine⟨hl5,zj (by rw[ζa];omega),⟨_,rfl⟩,ts ++ [p3],by rw[ξb];rfl,?_,λc o e=>by rw[zi (ze e hl')];exact S3 _ _ (s4 c o e)⟩
    rw[tk,ζe,List.length_singleton,List.replicate_succ']
    exact(tw.mono λa xs e=>up _ _ (S3 _ _ e)).snoc (up _ _ zb)
   rintro l ys σ' H4 hl' ⟨_,ts,rfl,tw,s4⟩ hl4
   rw[ζa,ξv] at tw
   refine ex4 l ts hs _ ⟨rfl,hl4,tw,by omega,T.hs_nd,λdc hdc=>?_⟩
   have SD:=Same.new (o:= .dK (zce hs (List.replicate hs.length V.non))) hdc
   have e5:upd H4 dc (.dK (zce hs (List.replicate hs.length V.non))) dc=some (.dK (zce hs (List.replicate hs.length V.non))):=zb
   have s05:=(sa3.trans s4).trans SD
   have s35:=s4.trans SD
   have htp5:=s35 _ _ htp
   have hv5:=hv3.same s35
   have rs5:=rs.same s35
   generalize (upd H4 dc (HO.dK (zce hs (List.replicate hs.length V.non))))=H5 at *
   refine vr rfl (ixT htp5 at0 ⟨few rfl,λpg hpg=>?_⟩)
   have SG:=Same.new (o:= .tup [V.str g]) hpg
   have e6:=SG _ _ e5
   have s06:=s05.trans SG
   have htp6:=SG _ _ htp5
   have hv6:=hv5.same SG
   have rs6:=rs5.same SG
   have hpg6:upd H5 pg (.tup [V.str g]) pg=some (.tup [V.str g]):=zb
   generalize (upd H5 pg (HO.tup [V.str g]))=H6 at *
   have zl:(zce hs (List.replicate hs.length V.non)).length<=10:=by unfold zce;rw[ζa,List.length_zip];omega
   refine vr rfl (vr rfl (ixT htp6 at0 (ex2 dc _ ⟨rfl,DPut.k (k:=Sum.inr g) e6 (zj (by omega)),?_⟩)))
   rw[zpn hg]
   have ntd:∀{c xs},H6 c=some (.tup xs)->c≠dc:=λ{c xs} e z=>by rw[z,e6] at e;cases e
   have up:∀c xs,H6 c=some (.tup xs)->upd H6 dc (.dK ((zce hs (List.replicate hs.length V.non)).map (λkv=>if kv.1=Sum.inr g then(kv.1,V.ref pg)else kv))) c=some (.tup xs):=λc xs e=>by rw[zi (ntd e)];exact e
   have ch:=zns (up _ _ hpg6) hs
   have hkv:upd H6 dc (.dK ((zce hs (List.replicate hs.length V.non)).map (λkv=>if kv.1=Sum.inr g then(kv.1,V.ref pg)else kv))) dc=some (.dK ((zce hs (List.replicate hs.length V.non)).map (λkv=>if kv.1=Sum.inr g then(kv.1,V.ref pg)else kv))):=zb
   have l1000:ps.length<=1000:=ξa T.lp (by decide)
   have hv7:=zcm hv6 up (zfK T l1000).1
   have sh:=zq4 hn T10 S
   have rs7:=zcm rs6 up sh.1
   have s07:Same H0 (upd H6 dc (.dK ((zce hs (List.replicate hs.length V.non)).map (λkv=>if kv.1=Sum.inr g then(kv.1,V.ref pg)else kv)))):=λc o e=>by
    rw[zi (ze ((sa3.trans s4) _ _ e) hdc)];exact s06 _ _ e
   generalize (upd H6 dc (HO.dK ((zce hs (List.replicate hs.length V.non)).map (λkv=>if kv.1=Sum.inr g then(kv.1,V.ref pg)else kv))))=H7 at *
   generalize (zce hs (List.replicate hs.length V.non)).map (λkv=>if kv.1=Sum.inr g then(kv.1,V.ref pg)else kv)=kvs at *
   have ecs:hs.map (chS g hs lks hds (zcn g hs ps hds))=hs.map λx=>(x,if x=g then some [g] else none):=List.map_congr_left λx _=>by
    show(x,(zd8 g hs lks hds x (zcn g hs ps hds)).map (·.1))=_
    rw[zk0]
   have hn2:∀c∈hs.map (λx=>(x,if x=g then some [g] else none)),∀w,c.2=some w->∀y∈w,zh y=true:=λc hc w e y hy=>by
    obtain⟨x,hx,rfl⟩:=List.mem_map.mp hc
    dsimp only at e
    by_cases cx:x=g
    ·rw[if_pos cx] at e;cases e;rw[List.mem_singleton.mp hy];exact hn g hg
    ·rw[if_neg cx] at e;cases e
   have shw:=zo9 S.row hn
   have lc:=zhg (hs:=hs) (s:=zcn g hs ps hds) S.row
   have sl:=S.len
   obtain⟨c1,c2,c3⟩:=zpl (ds:=zeD (zcn g hs ps hds)) (c:=255) (k:=2) 270 (by omega) shw
   have okc:∀d∈zeD (zcn g hs ps hds),okD d=true:=λd hd=>(shw d hd).1
   obtain⟨dt,trT,shT,dep,big⟩:∃dt:PyData,(∀H' u',Rep H' u' (stD (zcn g hs ps hds))->Tr H' u' dt)/\dt.showable=true/\dt.depth<=60/\dt.shown.length<=sizeLine:=⟨pyD _,λH' u' r=>zpO r sh.1,sh.2.1,ξa sh.2.2.1 (by decide),ξa sh.2.2.2 (by decide)⟩
   have ne0:∀x:Str,(!decide (V.str x=V.str x))=false:=λx=>by rw[ζf rfl];rfl
   have isr:∀{H':Hp} {u':V},Rep H' u' (stD (zcn g hs ps hds))->∃p',u'= .ref p':=λh=>let ⟨p',_,e,_⟩:=h.ofT;⟨p',e⟩
   refine vr rfl ⟨by decide,by decide,?_⟩
   refine zaU zbZ (λj σ' H'=>(∃o1 o5 o6 o7,σ'=[some (.ref b),o1,some (.ref tp),some (.ref st),some (.ref dc),o5,o6,o7])/\Same H7 H') ⟨(ex4 _ _ _ _ rfl),Same.refl _⟩ (λ_ _ _ _=>trivial) ?_ ?_
   ·rintro j y σ' H8 hj rfl ⟨⟨o1,o5,o6,o7,rfl⟩,s8⟩
    refine vr rfl (vr rfl ⟨.ref tp,st,zcn g hs ps hds,ex4 g hs ps lks (ex2 hds O ⟨rfl,hv7.same s8,T,PO,rs7.same s8,S,λld kv9 H9 hld0 hld ch9 s9=>?_⟩)⟩)
    rw[ecs] at ch9
    refine vr rfl ⟨.ref st,zcn g hs ps hds,hs,rfl,rs7.same (s8.trans s9),S,hn,λlm um H10 hlm0 hlm rm s10=>(ex2 _ _ ⟨rfl,?_⟩)⟩
    have hld10:=s10 _ _ hld
    have s710:=(s8.trans s9).trans s10
    have ch10:=ze9 ch9 λc xs e=>s10 _ _ e
    refine vr rfl (ex4 (.ref tp) g hs ps (ex3 lks hds O ⟨rfl,hv7.same s710,T,PO,λu11 H11 r11 s11=>?_⟩))
    obtain⟨p11,rfl⟩:=isr r11
    have s711:=s710.trans s11
    refine .inl ⟨p11,_,rfl,trT _ _ r11,shT,dep,big,_,rfl, .inl ⟨st,_,rfl,trT _ _ (rs7.same s711),shT,dep,big,rfl,_,rfl,?_⟩⟩
    rw[ne0]
    refine zbq rfl ?_
    have hlm11:=s11 _ _ hlm
    have rm11:=rm.mono (.of s11)
    refine vr rfl (.inl (ex2 lm _ ⟨rfl,zku hlm11 rm11 okc,c1,ξa c2 (by decide),ξa c3 (by decide),?_⟩))
    refine vr rfl ⟨.ref st,zcn g hs ps hds,hs,rfl,rs7.same s711,S,hn,λln un H12 hln0 hln rn s12=>?_⟩
    refine .inl (ex2 ln _ ⟨rfl,zku hln rn okc,c1,ξa c2 (by decide),ξa c3 (by decide),rfl,vr rfl ?_⟩)
    rw[ne0]
    refine zbq rfl ?_
    have s712:=s711.trans s12
    have hld12:=s12 _ _ (s11 _ _ hld10)
    have hlm12:=s12 _ _ hlm11
    have ch12:=ze9 ch10 λc xs e=>s12 _ _ (s11 _ _ e)
    refine vr rfl (ex4 _ _ _ _ ⟨rfl, .dK hld12,rfl,vr rfl (zbq rfl ?_)⟩)
    refine vr rfl (vr rfl (ex4 ld dc _ _ ⟨rfl,rfl,hld12,s712 _ _ hkv,zqI hn2 ch12 (ze9 ch λc xs e=>s712 _ _ e),vr rfl (zbq rfl ?_)⟩))
    refine vr rfl ⟨.inr (.inr (.inl ⟨rfl, .inl ⟨_,hld12⟩⟩)),ex2 ld _ ⟨rfl,rfl,hld12,?_⟩⟩
    have hlm13:upd H12 ld (.dK []) lm=some (.lst um):=by rw[zi (zca hlm12 hld12 (λz=>nomatch z))];exact hlm12
    have lum:um.length<=270:=by rw[rm.1];omega
    refine vr rfl ⟨.inl ⟨rfl,_,SqL.of hlm13⟩,ex3 lm _ _ ⟨rfl,rfl,hlm13,zj (by omega),(ex4 _ _ _ _ rfl),λc o e=>?_⟩⟩
    have n1:c≠ld:=ze (s8 _ _ e) hld0
    have n2:c≠lm:=ze (s9 _ _ (s8 _ _ e)) hlm0
    rw[zi n2,zi n1]
    exact s712 _ _ e
   ·rintro σ' H8 ⟨⟨o1,o5,o6,o7,rfl⟩,s8⟩
    exact⟨(ex4 _ _ _ _ (ex3 _ _ _ rfl)),(s0.trans s07).trans s8⟩
  ·rintro σ' H0 ⟨_,_⟩
   exact q _
end
theorem walk{l:PySem.W.OpenLaw}{q:Program}{loose:List Str}{XP:(Str->Option Value)->Heap->Prop}{YP:World->Heap->Prop}{d:DefRec}{K:Params->ξk}(hn:l.most=some 63)(hdf:d.params.defaults=[])
 (hY:∀(w:World) (h:Heap),YP w h->(K w.params).In h)
 (F:∀(w:World) (mg:Str->Option Value) (fa:Addr) (h:Heap),(K w.params).In h->h.Ns mainGlobals mg->mg d.name=some (.ref fa)->
   ∃fd:FuncData,(∀(s:Shared) (u:Value),BindsTo s fd ⟨[u],[]⟩ [("_law_script",u)])/\∀base:Heap,(K w.params).In base->base.Ns mainGlobals mg->FnOk l.prog w (K w.params) mg base CX0 12 fa fd ["_law_script"] (zkb (K w.params))):
 PySem.W.WalkO q loose XP YP l.row.toRowW d [] (λf vs=>PySem.call f vs):=
 L2.walk_of (n:=63) (k:=12) (x:="_law_script") (CX:=λ_=>CX0) (sp:=λw=>zkb (K w.params)) hn (by decide) hdf ⟨rfl,by decide,by decide,rfl⟩ hY F (λ_ _ a ns hl _ hS=>⟨a,ns,rfl,hS,hl,λ_=>rfl⟩) λ_ _ _ _ _ z=>z
theorem all_mk{l:PySem.W.OpenLaw}{w:World}{K:ξk}{h:Heap}{mg:Str->Option Value}{fa:Addr}(X:K.In h)(G:h.Ns mainGlobals mg)(hfa:mg "law"=some (.ref fa))
 {C_Likings:Addr} (aC_Likings:PySem.W.nsIn K mainGlobals "Likings"=some (some (.ref C_Likings))) (pg_Likings:PySem.W.plainGet K C_Likings Str.empty=true) (hd_Likings:PySem.W.hasDictIn K C_Likings=true) (po_Likings:PySem.W.plainOver K C_Likings=true) (sa_Likings:PySem.W.findIn K (.ref C_Likings) "__setattr__"=some (some (.builtin "object.__setattr__"))) (mk_Likings:PySem.W.makesIn K C_Likings=true) (kc_Likings:PySem.W.keepIn K (.ref C_Likings)=true) (n_Likings_place:PySem.W.findIn K (.ref C_Likings) "place"=some none) (n_Likings_known_keys:PySem.W.findIn K (.ref C_Likings) "known_keys"=some none) (n_Likings_known_offers:PySem.W.findIn K (.ref C_Likings) "known_offers"=some none)
 {f1:Addr} {od1 an1:Option Addr} {sl1:Array (Option Value)} {oc1 kV1 dc1 pm1 cd1 ct1:Value}
 {dt1:Addr} {odd1:Option Addr} {nd1:Nat} {sld1:Array (Option Value)}
 (a1:PySem.W.nsIn K mainGlobals "holds"=some (some (.ref f1))) (l1:K.lookup f1=some ⟨oc1,od1, .func (PySem.W.fnOf "holds" "holds" (zp zdt) (zo zdt) (zc zdt) (.ref dt1) kV1 dc1 pm1 an1 cd1 ct1),sl1⟩) (c1:PySem.W.codeIn K cd1 "holds"=true) (k1:PySem.W.keepIn K (.ref f1)=true)
 (ld1:K.lookup dt1=some ⟨.type "tuple",odd1, .seq #[.none] nd1,sld1⟩)
 {f2:Addr} {od2 an2:Option Addr} {sl2:Array (Option Value)} {oc2 kV2 dc2 pm2 cd2 ct2:Value}
 {dt2:Addr} {odd2:Option Addr} {nd2:Nat} {sld2:Array (Option Value)}
 (a2:PySem.W.nsIn K mainGlobals "all_hold"=some (some (.ref f2))) (l2:K.lookup f2=some ⟨oc2,od2, .func (PySem.W.fnOf "all_hold" "all_hold" (zp zbn) (zo zbn) (zc zbn) (.ref dt2) kV2 dc2 pm2 an2 cd2 ct2),sl2⟩) (c2:PySem.W.codeIn K cd2 "all_hold"=true) (k2:PySem.W.keepIn K (.ref f2)=true)
 (ld2:K.lookup dt2=some ⟨.type "tuple",odd2, .seq #[.none] nd2,sld2⟩)
 {f3:Addr} {od3 an3:Option Addr} {sl3:Array (Option Value)} {oc3 kV3 dc3 pm3 cd3 ct3:Value}
 (a3:PySem.W.nsIn K mainGlobals "likings_of"=some (some (.ref f3))) (l3:K.lookup f3=some ⟨oc3,od3, .func (PySem.W.fnOf "likings_of" "likings_of" (zp zaL) (zo zaL) (zc zaL) .none kV3 dc3 pm3 an3 cd3 ct3),sl3⟩) (c3:PySem.W.codeIn K cd3 "likings_of"=true) (k3:PySem.W.keepIn K (.ref f3)=true)
 {f4:Addr} {od4 an4:Option Addr} {sl4:Array (Option Value)} {oc4 kV4 dc4 pm4 cd4 ct4:Value}
 (a4:PySem.W.nsIn K mainGlobals "hands_of"=some (some (.ref f4))) (l4:K.lookup f4=some ⟨oc4,od4, .func (PySem.W.fnOf "hands_of" "hands_of" (zp zbl) (zo zbl) (zc zbl) .none kV4 dc4 pm4 an4 cd4 ct4),sl4⟩) (c4:PySem.W.codeIn K cd4 "hands_of"=true) (k4:PySem.W.keepIn K (.ref f4)=true)
 {f5:Addr} {od5 an5:Option Addr} {sl5:Array (Option Value)} {oc5 kV5 dc5 pm5 cd5 ct5:Value}
 (a5:PySem.W.nsIn K mainGlobals "tied"=some (some (.ref f5))) (l5:K.lookup f5=some ⟨oc5,od5, .func (PySem.W.fnOf "tied" "tied" (zp zda) (zo zda) (zc zda) .none kV5 dc5 pm5 an5 cd5 ct5),sl5⟩) (c5:PySem.W.codeIn K cd5 "tied"=true) (k5:PySem.W.keepIn K (.ref f5)=true)
 {f6:Addr} {od6 an6:Option Addr} {sl6:Array (Option Value)} {oc6 kV6 dc6 pm6 cd6 ct6:Value}
 (a6:PySem.W.nsIn K mainGlobals "marks_behind"=some (some (.ref f6))) (l6:K.lookup f6=some ⟨oc6,od6, .func (PySem.W.fnOf "marks_behind" "marks_behind" (zp zad) (zo zad) (zc zad) .none kV6 dc6 pm6 an6 cd6 ct6),sl6⟩) (c6:PySem.W.codeIn K cd6 "marks_behind"=true) (k6:PySem.W.keepIn K (.ref f6)=true)
 {f7:Addr} {od7 an7:Option Addr} {sl7:Array (Option Value)} {oc7 kV7 dc7 pm7 cd7 ct7:Value}
 (a7:PySem.W.nsIn K mainGlobals "handed"=some (some (.ref f7))) (l7:K.lookup f7=some ⟨oc7,od7, .func (PySem.W.fnOf "handed" "handed" (zp zcj) (zo zcj) (zc zcj) .none kV7 dc7 pm7 an7 cd7 ct7),sl7⟩) (c7:PySem.W.codeIn K cd7 "handed"=true) (k7:PySem.W.keepIn K (.ref f7)=true)
 {f8:Addr} {od8 an8:Option Addr} {sl8:Array (Option Value)} {oc8 kV8 dc8 pm8 cd8 ct8:Value}
 (a8:PySem.W.nsIn K mainGlobals "worth"=some (some (.ref f8))) (l8:K.lookup f8=some ⟨oc8,od8, .func (PySem.W.fnOf "worth" "worth" (zp zdk) (zo zdk) (zc zdk) .none kV8 dc8 pm8 an8 cd8 ct8),sl8⟩) (c8:PySem.W.codeIn K cd8 "worth"=true) (k8:PySem.W.keepIn K (.ref f8)=true)
 {f9:Addr} {od9 an9:Option Addr} {sl9:Array (Option Value)} {oc9 kV9 dc9 pm9 cd9 ct9:Value}
 (a9:PySem.W.nsIn K mainGlobals "liking_key"=some (some (.ref f9))) (l9:K.lookup f9=some ⟨oc9,od9, .func (PySem.W.fnOf "liking_key" "liking_key" (zp zaS) (zo zaS) (zc zaS) .none kV9 dc9 pm9 an9 cd9 ct9),sl9⟩) (c9:PySem.W.codeIn K cd9 "liking_key"=true) (k9:PySem.W.keepIn K (.ref f9)=true)
 {f10:Addr} {od10 an10:Option Addr} {sl10:Array (Option Value)} {oc10 kV10 dc10 pm10 cd10 ct10:Value}
 (a10:PySem.W.nsIn K mainGlobals "marks_ahead"=some (some (.ref f10))) (l10:K.lookup f10=some ⟨oc10,od10, .func (PySem.W.fnOf "marks_ahead" "marks_ahead" (zp zaz) (zo zaz) (zc zaz) .none kV10 dc10 pm10 an10 cd10 ct10),sl10⟩) (c10:PySem.W.codeIn K cd10 "marks_ahead"=true) (k10:PySem.W.keepIn K (.ref f10)=true)
 {f11:Addr} {od11 an11:Option Addr} {sl11:Array (Option Value)} {oc11 kV11 dc11 pm11 cd11 ct11:Value}
 (a11:PySem.W.nsIn K mainGlobals "marks_of"=some (some (.ref f11))) (l11:K.lookup f11=some ⟨oc11,od11, .func (PySem.W.fnOf "marks_of" "marks_of" (zp zbv) (zo zbv) (zc zbv) .none kV11 dc11 pm11 an11 cd11 ct11),sl11⟩) (c11:PySem.W.codeIn K cd11 "marks_of"=true) (k11:PySem.W.keepIn K (.ref f11)=true)
 {f12:Addr} {od12 an12:Option Addr} {sl12:Array (Option Value)} {oc12 kV12 dc12 pm12 cd12 ct12:Value}
 (a12:PySem.W.findIn K (.ref C_Likings) "__init__"=some (some (.ref f12))) (i12:PySem.W.isFn K (.ref f12)=true) (l12:K.lookup f12=some ⟨oc12,od12, .func (PySem.W.fnOf "__init__" "Likings.__init__" (zp zU) (zo zU) (zc zU) .none kV12 dc12 pm12 an12 cd12 ct12),sl12⟩) (c12:PySem.W.codeIn K cd12 "Likings.__init__"=true) (k12:PySem.W.keepIn K (.ref f12)=true)
 {f13:Addr} {od13 an13:Option Addr} {sl13:Array (Option Value)} {oc13 kV13 dc13 pm13 cd13 ct13:Value}
 (a13:PySem.W.findIn K (.ref C_Likings) "key_of"=some (some (.ref f13))) (i13:PySem.W.isFn K (.ref f13)=true) (l13:K.lookup f13=some ⟨oc13,od13, .func (PySem.W.fnOf "key_of" "Likings.key_of" (zp z9) (zo z9) (zc z9) .none kV13 dc13 pm13 an13 cd13 ct13),sl13⟩) (c13:PySem.W.codeIn K cd13 "Likings.key_of"=true) (k13:PySem.W.keepIn K (.ref f13)=true)
 {f14:Addr} {od14 an14:Option Addr} {sl14:Array (Option Value)} {oc14 kV14 dc14 pm14 cd14 ct14:Value}
 (a14:PySem.W.findIn K (.ref C_Likings) "way_by"=some (some (.ref f14))) (i14:PySem.W.isFn K (.ref f14)=true) (l14:K.lookup f14=some ⟨oc14,od14, .func (PySem.W.fnOf "way_by" "Likings.way_by" (zp zM) (zo zM) (zc zM) .none kV14 dc14 pm14 an14 cd14 ct14),sl14⟩) (c14:PySem.W.codeIn K cd14 "Likings.way_by"=true) (k14:PySem.W.keepIn K (.ref f14)=true)
 {f15:Addr} {od15 an15:Option Addr} {sl15:Array (Option Value)} {oc15 kV15 dc15 pm15 cd15 ct15:Value}
 (a15:PySem.W.findIn K (.ref C_Likings) "offer_of"=some (some (.ref f15))) (i15:PySem.W.isFn K (.ref f15)=true) (l15:K.lookup f15=some ⟨oc15,od15, .func (PySem.W.fnOf "offer_of" "Likings.offer_of" (zp zV) (zo zV) (zc zV) .none kV15 dc15 pm15 an15 cd15 ct15),sl15⟩) (c15:PySem.W.codeIn K cd15 "Likings.offer_of"=true) (k15:PySem.W.keepIn K (.ref f15)=true)
 {f16:Addr} {od16 an16:Option Addr} {sl16:Array (Option Value)} {oc16 kV16 dc16 pm16 cd16 ct16:Value}
 (a16:PySem.W.nsIn K mainGlobals "begun"=some (some (.ref f16))) (l16:K.lookup f16=some ⟨oc16,od16, .func (PySem.W.fnOf "begun" "begun" (zp zdh) (zo zdh) (zc zdh) .none kV16 dc16 pm16 an16 cd16 ct16),sl16⟩) (c16:PySem.W.codeIn K cd16 "begun"=true) (k16:PySem.W.keepIn K (.ref f16)=true)
 {f17:Addr} {od17 an17:Option Addr} {sl17:Array (Option Value)} {oc17 kV17 dc17 pm17 cd17 ct17:Value}
 (a17:PySem.W.nsIn K mainGlobals "comings"=some (some (.ref f17))) (l17:K.lookup f17=some ⟨oc17,od17, .func (PySem.W.fnOf "comings" "comings" (zp zbk) (zo zbk) (zc zbk) .none kV17 dc17 pm17 an17 cd17 ct17),sl17⟩) (c17:PySem.W.codeIn K cd17 "comings"=true) (k17:PySem.W.keepIn K (.ref f17)=true)
 {f18:Addr} {od18 an18:Option Addr} {sl18:Array (Option Value)} {oc18 kV18 dc18 pm18 cd18 ct18:Value}
 (a18:PySem.W.nsIn K mainGlobals "ways_heard"=some (some (.ref f18))) (l18:K.lookup f18=some ⟨oc18,od18, .func (PySem.W.fnOf "ways_heard" "ways_heard" (zp zaw) (zo zaw) (zc zaw) .none kV18 dc18 pm18 an18 cd18 ct18),sl18⟩) (c18:PySem.W.codeIn K cd18 "ways_heard"=true) (k18:PySem.W.keepIn K (.ref f18)=true)
 {f19:Addr} {od19 an19:Option Addr} {sl19:Array (Option Value)} {oc19 kV19 dc19 pm19 cd19 ct19:Value}
 (a19:PySem.W.nsIn K mainGlobals "choice_of"=some (some (.ref f19))) (l19:K.lookup f19=some ⟨oc19,od19, .func (PySem.W.fnOf "choice_of" "choice_of" (zp zaK) (zo zaK) (zc zaK) .none kV19 dc19 pm19 an19 cd19 ct19),sl19⟩) (c19:PySem.W.codeIn K cd19 "choice_of"=true) (k19:PySem.W.keepIn K (.ref f19)=true)
 {f20:Addr} {od20 an20:Option Addr} {sl20:Array (Option Value)} {oc20 kV20 dc20 pm20 cd20 ct20:Value}
 (a20:PySem.W.nsIn K mainGlobals "_law_hand"=some (some (.ref f20))) (l20:K.lookup f20=some ⟨oc20,od20, .func (PySem.W.fnOf "_law_hand" "_law_hand" (zp za6) (zo za6) (zc za6) .none kV20 dc20 pm20 an20 cd20 ct20),sl20⟩) (c20:PySem.W.codeIn K cd20 "_law_hand"=true) (k20:PySem.W.keepIn K (.ref f20)=true)
 {f21:Addr} {od21 an21:Option Addr} {sl21:Array (Option Value)} {oc21 kV21 dc21 pm21 cd21 ct21:Value}
 (a21:PySem.W.nsIn K mainGlobals "_law_take"=some (some (.ref f21))) (l21:K.lookup f21=some ⟨oc21,od21, .func (PySem.W.fnOf "_law_take" "_law_take" (zp za3) (zo za3) (zc za3) .none kV21 dc21 pm21 an21 cd21 ct21),sl21⟩) (c21:PySem.W.codeIn K cd21 "_law_take"=true) (k21:PySem.W.keepIn K (.ref f21)=true)
 {f22:Addr} {od22 an22:Option Addr} {sl22:Array (Option Value)} {oc22 kV22 dc22 pm22 cd22 ct22:Value}
 (a22:PySem.W.nsIn K mainGlobals "_law_pick"=some (some (.ref f22))) (l22:K.lookup f22=some ⟨oc22,od22, .func (PySem.W.fnOf "_law_pick" "_law_pick" (zp za5) (zo za5) (zc za5) .none kV22 dc22 pm22 an22 cd22 ct22),sl22⟩) (c22:PySem.W.codeIn K cd22 "_law_pick"=true) (k22:PySem.W.keepIn K (.ref f22)=true)
 {f23:Addr} {od23 an23:Option Addr} {sl23:Array (Option Value)} {oc23 kV23 dc23 pm23 cd23 ct23:Value}
 (a23:PySem.W.nsIn K mainGlobals "_law_names"=some (some (.ref f23))) (l23:K.lookup f23=some ⟨oc23,od23, .func (PySem.W.fnOf "_law_names" "_law_names" (zp zau) (zo zau) (zc zau) .none kV23 dc23 pm23 an23 cd23 ct23),sl23⟩) (c23:PySem.W.codeIn K cd23 "_law_names"=true) (k23:PySem.W.keepIn K (.ref f23)=true)
 {f24:Addr} {od24 an24:Option Addr} {sl24:Array (Option Value)} {oc24 kV24 dc24 pm24 cd24 ct24:Value}
 (a24:PySem.W.nsIn K mainGlobals "_law_cond"=some (some (.ref f24))) (l24:K.lookup f24=some ⟨oc24,od24, .func (PySem.W.fnOf "_law_cond" "_law_cond" (zp za4) (zo za4) (zc za4) .none kV24 dc24 pm24 an24 cd24 ct24),sl24⟩) (c24:PySem.W.codeIn K cd24 "_law_cond"=true) (k24:PySem.W.keepIn K (.ref f24)=true)
 {f25:Addr} {od25 an25:Option Addr} {sl25:Array (Option Value)} {oc25 kV25 dc25 pm25 cd25 ct25:Value}
 (a25:PySem.W.nsIn K mainGlobals "_law_conds"=some (some (.ref f25))) (l25:K.lookup f25=some ⟨oc25,od25, .func (PySem.W.fnOf "_law_conds" "_law_conds" (zp zat) (zo zat) (zc zat) .none kV25 dc25 pm25 an25 cd25 ct25),sl25⟩) (c25:PySem.W.codeIn K cd25 "_law_conds"=true) (k25:PySem.W.keepIn K (.ref f25)=true)
 {f26:Addr} {od26 an26:Option Addr} {sl26:Array (Option Value)} {oc26 kV26 dc26 pm26 cd26 ct26:Value}
 (a26:PySem.W.nsIn K mainGlobals "_law_likings"=some (some (.ref f26))) (l26:K.lookup f26=some ⟨oc26,od26, .func (PySem.W.fnOf "_law_likings" "_law_likings" (zp zao) (zo zao) (zc zao) .none kV26 dc26 pm26 an26 cd26 ct26),sl26⟩) (c26:PySem.W.codeIn K cd26 "_law_likings"=true) (k26:PySem.W.keepIn K (.ref f26)=true)
 {f27:Addr} {od27 an27:Option Addr} {sl27:Array (Option Value)} {oc27 kV27 dc27 pm27 cd27 ct27:Value}
 (a27:PySem.W.nsIn K mainGlobals "_law_hands"=some (some (.ref f27))) (l27:K.lookup f27=some ⟨oc27,od27, .func (PySem.W.fnOf "_law_hands" "_law_hands" (zp zaQ) (zo zaQ) (zc zaQ) .none kV27 dc27 pm27 an27 cd27 ct27),sl27⟩) (c27:PySem.W.codeIn K cd27 "_law_hands"=true) (k27:PySem.W.keepIn K (.ref f27)=true)
 {f28:Addr} {od28 an28:Option Addr} {sl28:Array (Option Value)} {oc28 kV28 dc28 pm28 cd28 ct28:Value}
 (a28:PySem.W.nsIn K mainGlobals "_law_town"=some (some (.ref f28))) (l28:K.lookup f28=some ⟨oc28,od28, .func (PySem.W.fnOf "_law_town" "_law_town" (zp zas) (zo zas) (zc zas) .none kV28 dc28 pm28 an28 cd28 ct28),sl28⟩) (c28:PySem.W.codeIn K cd28 "_law_town"=true) (k28:PySem.W.keepIn K (.ref f28)=true)
 {f29:Addr} {od29 an29:Option Addr} {sl29:Array (Option Value)} {oc29 kV29 dc29 pm29 cd29 ct29:Value}
 (a29:PySem.W.nsIn K mainGlobals "_law_holds"=some (some (.ref f29))) (l29:K.lookup f29=some ⟨oc29,od29, .func (PySem.W.fnOf "_law_holds" "_law_holds" (zp zaM) (zo zaM) (zc zaM) .none kV29 dc29 pm29 an29 cd29 ct29),sl29⟩) (c29:PySem.W.codeIn K cd29 "_law_holds"=true) (k29:PySem.W.keepIn K (.ref f29)=true)
 {f30:Addr} {od30 an30:Option Addr} {sl30:Array (Option Value)} {oc30 kV30 dc30 pm30 cd30 ct30:Value}
 (a30:PySem.W.nsIn K mainGlobals "_law_handed"=some (some (.ref f30))) (l30:K.lookup f30=some ⟨oc30,od30, .func (PySem.W.fnOf "_law_handed" "_law_handed" (zp z7) (zo z7) (zc z7) .none kV30 dc30 pm30 an30 cd30 ct30),sl30⟩) (c30:PySem.W.codeIn K cd30 "_law_handed"=true) (k30:PySem.W.keepIn K (.ref f30)=true)
 {f31:Addr} {od31 an31:Option Addr} {sl31:Array (Option Value)} {oc31 kV31 dc31 pm31 cd31 ct31:Value}
 (a31:PySem.W.nsIn K mainGlobals "_law_pairs"=some (some (.ref f31))) (l31:K.lookup f31=some ⟨oc31,od31, .func (PySem.W.fnOf "_law_pairs" "_law_pairs" (zp zav) (zo zav) (zc zav) .none kV31 dc31 pm31 an31 cd31 ct31),sl31⟩) (c31:PySem.W.codeIn K cd31 "_law_pairs"=true) (k31:PySem.W.keepIn K (.ref f31)=true)
 {f32:Addr} {od32 an32:Option Addr} {sl32:Array (Option Value)} {oc32 kV32 dc32 pm32 cd32 ct32:Value}
 (a32:PySem.W.nsIn K mainGlobals "_law_begun"=some (some (.ref f32))) (l32:K.lookup f32=some ⟨oc32,od32, .func (PySem.W.fnOf "_law_begun" "_law_begun" (zp zaO) (zo zaO) (zc zaO) .none kV32 dc32 pm32 an32 cd32 ct32),sl32⟩) (c32:PySem.W.codeIn K cd32 "_law_begun"=true) (k32:PySem.W.keepIn K (.ref f32)=true)
 {f33:Addr} {od33 an33:Option Addr} {sl33:Array (Option Value)} {oc33 kV33 dc33 pm33 cd33 ct33:Value}
 (a33:PySem.W.nsIn K mainGlobals "_law_comings"=some (some (.ref f33))) (l33:K.lookup f33=some ⟨oc33,od33, .func (PySem.W.fnOf "_law_comings" "_law_comings" (zp zaa) (zo zaa) (zc zaa) .none kV33 dc33 pm33 an33 cd33 ct33),sl33⟩) (c33:PySem.W.codeIn K cd33 "_law_comings"=true) (k33:PySem.W.keepIn K (.ref f33)=true)
 {f34:Addr} {od34 an34:Option Addr} {sl34:Array (Option Value)} {oc34 kV34 dc34 pm34 cd34 ct34:Value}
 (a34:PySem.W.nsIn K mainGlobals "law"=some (some (.ref f34))) (l34:K.lookup f34=some ⟨oc34,od34, .func (PySem.W.fnOf "law" "law" (zp zc9) (zo zc9) (zc zc9) .none kV34 dc34 pm34 an34 cd34 ct34),sl34⟩) (c34:PySem.W.codeIn K cd34 "law"=true) (k34:PySem.W.keepIn K (.ref f34)=true)
 (z_isinstance:PySem.W.nsIn K mainGlobals "isinstance"=some none)
 (z_len:PySem.W.nsIn K mainGlobals "len"=some none)
 (z_int:PySem.W.nsIn K mainGlobals "int"=some none)
 (z_tuple:PySem.W.nsIn K mainGlobals "tuple"=some none)
 (z_range:PySem.W.nsIn K mainGlobals "range"=some none)
 (z_max:PySem.W.nsIn K mainGlobals "max"=some none)
 (z_min:PySem.W.nsIn K mainGlobals "min"=some none)
 (z_sorted:PySem.W.nsIn K mainGlobals "sorted"=some none)
 (z_all:PySem.W.nsIn K mainGlobals "all"=some none)
 (z_list:PySem.W.nsIn K mainGlobals "list"=some none)
 (z_reversed:PySem.W.nsIn K mainGlobals "reversed"=some none)
 (z_repr:PySem.W.nsIn K mainGlobals "repr"=some none)
 (z_dict:PySem.W.nsIn K mainGlobals "dict"=some none)
 :∃fd:FuncData,(∀(s:Shared) (v:Value),BindsTo s fd ⟨[v],[]⟩ [("_law_script",v)])/\∀base:Heap,K.In base->base.Ns mainGlobals mg->FnOk l.prog w K mg base CX0 12 fa fd ["_law_script"] (zkb K):=by
 have e:=hfa.symm.trans (PySem.W.mg_of X G a34)
 cases e
 have F1:=zjR (st:=zdt) l1 ld1 c1 k1
 have F2:=zjR (st:=zbn) l2 ld2 c2 k2
 have F3:=zJ (st:=zaL) l3 c3 k3
 have F4:=zJ (st:=zbl) l4 c4 k4
 have F5:=zJ (st:=zda) l5 c5 k5
 have F6:=zJ (st:=zad) l6 c6 k6
 have F7:=zJ (st:=zcj) l7 c7 k7
 have F8:=zJ (st:=zdk) l8 c8 k8
 have F9:=zJ (st:=zaS) l9 c9 k9
 have F10:=zJ (st:=zaz) l10 c10 k10
 have F11:=zJ (st:=zbv) l11 c11 k11
 have F12:=zJ (st:=zU) l12 c12 k12
 have F13:=zJ (st:=z9) l13 c13 k13
 have F14:=zJ (st:=zM) l14 c14 k14
 have F15:=zJ (st:=zV) l15 c15 k15
 have F16:=zJ (st:=zdh) l16 c16 k16
 have F17:=zJ (st:=zbk) l17 c17 k17
 have F18:=zJ (st:=zaw) l18 c18 k18
 have F19:=zJ (st:=zaK) l19 c19 k19
 have F20:=zJ (st:=za6) l20 c20 k20
 have F21:=zJ (st:=za3) l21 c21 k21
 have F22:=zJ (st:=za5) l22 c22 k22
 have F23:=zJ (st:=zau) l23 c23 k23
 have F24:=zJ (st:=za4) l24 c24 k24
 have F25:=zJ (st:=zat) l25 c25 k25
 have F26:=zJ (st:=zao) l26 c26 k26
 have F27:=zJ (st:=zaQ) l27 c27 k27
 have F28:=zJ (st:=zas) l28 c28 k28
 have F29:=zJ (st:=zaM) l29 c29 k29
 have F30:=zJ (st:=z7) l30 c30 k30
 have F31:=zJ (st:=zav) l31 c31 k31
 have F32:=zJ (st:=zaO) l32 c32 k32
 have F33:=zJ (st:=zaa) l33 c33 k33
 have F34:=zJ (st:=zc9) l34 c34 k34
 have b1:=F1.binds (ps:=zbQ) (ds:=[]) 4 rfl λ_ _ _ _ _ _ _=>of4 (λ_ _ _ _=>⟨_,rfl,rfl⟩)
 have e1:=F1.binds (ps:=zbQ) (ds:=[.none]) 3 rfl λ_ _ _ _ _ _ _=>of3 (λ_ _ _=>⟨_,rfl,rfl⟩)
 have b2:=F2.binds (ps:=zaY) (ds:=[]) 4 rfl λ_ _ _ _ _ _ _=>of4 (λ_ _ _ _=>⟨_,rfl,rfl⟩)
 have e2:=F2.binds (ps:=zaY) (ds:=[.none]) 3 rfl λ_ _ _ _ _ _ _=>of3 (λ_ _ _=>⟨_,rfl,rfl⟩)
 have b3:=F3.binds (ps:=zbc) λ_ _ _ _ _ _=>of2 (λ_ _=>rfl)
 have b4:=F4.binds (ps:=zbW) λ_ _ _ _ _ _=>of2 (λ_ _=>rfl)
 have b5:=F5.binds (ps:=zfz) λ_ _ _ _ _ _=>of2 (λ_ _=>rfl)
 have b6:=F6.binds (ps:=zaG) λ_ _ _ _ _ _=>of2 (λ_ _=>rfl)
 have b7:=F7.binds (ps:=zb1) λ_ _ _ _ _ _=>of4 (λ_ _ _ _=>rfl)
 have b8:=F8.binds (ps:=zdj) λ_ _ _ _ _ _=>of3 (λ_ _ _=>rfl)
 have b9:=F9.binds (ps:=zbg) λ_ _ _ _ _ _=>of3 (λ_ _ _=>rfl)
 have b10:=F10.binds (ps:=zaX) λ_ _ _ _ _ _=>of4 (λ_ _ _ _=>rfl)
 have b11:=F11.binds (ps:=zbt) λ_ _ _ _ _ _=>of2 (λ_ _=>rfl)
 have b12:=F12.binds (ps:=zR) λ_ _ _ _ _ _=>of2 (λ_ _=>rfl)
 have b13:=F13.binds (ps:=zap) λ_ _ _ _ _ _=>of2 (λ_ _=>rfl)
 have b14:=F14.binds (ps:=zam) λ_ _ _ _ _ _=>of3 (λ_ _ _=>rfl)
 have b15:=F15.binds (ps:=zac) λ_ _ _ _ _ _=>of3 (λ_ _ _=>rfl)
 have b16:=F16.binds (ps:=zd2) λ_ _ _ _ _ _=>of1 (λ_=>rfl)
 have b17:=F17.binds (ps:=zch) λ_ _ _ _ _ _=>of1 (λ_=>rfl)
 have b18:=F18.binds (ps:=zbh) λ_ _ _ _ _ _=>of2 (λ_ _=>rfl)
 have b19:=F19.binds (ps:=zbJ) λ_ _ _ _ _ _=>of2 (λ_ _=>rfl)
 have b20:=F20.binds (ps:=zbz) λ_ _ _ _ _ _=>of2 (λ_ _=>rfl)
 have b21:=F21.binds (ps:=z6) λ_ _ _ _ _ _=>of2 (λ_ _=>rfl)
 have b22:=F22.binds (ps:=z8) λ_ _ _ _ _ _=>of2 (λ_ _=>rfl)
 have b23:=F23.binds (ps:=zba) λ_ _ _ _ _ _=>of2 (λ_ _=>rfl)
 have b24:=F24.binds (ps:=zbF) λ_ _ _ _ _ _=>of4 (λ_ _ _ _=>rfl)
 have b25:=F25.binds (ps:=zaN) λ_ _ _ _ _ _=>of4 (λ_ _ _ _=>rfl)
 have b26:=F26.binds (ps:=zaE) λ_ _ _ _ _ _=>of4 (λ_ _ _ _=>rfl)
 have b27:=F27.binds (ps:=za9) λ_ _ _ _ _ _=>of4 (λ_ _ _ _=>rfl)
 have b28:=F28.binds (ps:=zbE) λ_ _ _ _ _ _=>of2 (λ_ _=>rfl)
 have b29:=F29.binds (ps:=zag) λ_ _ _ _ _ _=>of4 (λ_ _ _ _=>rfl)
 have b30:=F30.binds (ps:=zaW) λ_ _ _ _ _ _=>of4 (λ_ _ _ _=>rfl)
 have b31:=F31.binds (ps:=za8) λ_ _ _ _ _ _=>of1 (λ_=>rfl)
 have b32:=F32.binds (ps:=zbb) λ_ _ _ _ _ _=>of1 (λ_=>rfl)
 have b33:=F33.binds (ps:=zaJ) λ_ _ _ _ _ _=>of1 (λ_=>rfl)
 have b34:=F34.binds (ps:=zkk) λ_ _ _ _ _ _=>of1 (λ_=>rfl)
 have Y:Ev K mg:={
  c_Likings:=C_Likings,k_Likings:=⟨pg_Likings,hd_Likings,po_Likings,sa_Likings⟩,m_Likings:=PySem.W.mg_of X G aC_Likings,n_Likings_place:=n_Likings_place,n_Likings_known_keys:=n_Likings_known_keys,n_Likings_known_offers:=n_Likings_known_offers,
  mk_Likings:=⟨mk_Likings,a12,i12,kc_Likings⟩,
  a_holds:=f1,d_holds:=_,holds:=⟨F1,b1,e1,PySem.W.mg_of X G a1,k1⟩,
  a_all_hold:=f2,d_all_hold:=_,all_hold:=⟨F2,b2,e2,PySem.W.mg_of X G a2,k2⟩,
  a_likings_of:=f3,d_likings_of:=_,likings_of:=⟨F3,b3,PySem.W.mg_of X G a3,k3⟩,
  a_hands_of:=f4,d_hands_of:=_,hands_of:=⟨F4,b4,PySem.W.mg_of X G a4,k4⟩,
  a_tied:=f5,d_tied:=_,tied:=⟨F5,b5,PySem.W.mg_of X G a5,k5⟩,
  a_marks_behind:=f6,d_marks_behind:=_,marks_behind:=⟨F6,b6,PySem.W.mg_of X G a6,k6⟩,
  a_handed:=f7,d_handed:=_,handed:=⟨F7,b7,PySem.W.mg_of X G a7,k7⟩,
  a_worth:=f8,d_worth:=_,worth:=⟨F8,b8,PySem.W.mg_of X G a8,k8⟩,
  a_liking_key:=f9,d_liking_key:=_,liking_key:=⟨F9,b9,PySem.W.mg_of X G a9,k9⟩,
  a_marks_ahead:=f10,d_marks_ahead:=_,marks_ahead:=⟨F10,b10,PySem.W.mg_of X G a10,k10⟩,
  a_marks_of:=f11,d_marks_of:=_,marks_of:=⟨F11,b11,PySem.W.mg_of X G a11,k11⟩,
  a_Likings___init__:=f12,d_Likings___init__:=_,Likings___init__:=⟨F12,b12,⟨a12,i12,k12⟩⟩,
  a_Likings_key_of:=f13,d_Likings_key_of:=_,Likings_key_of:=⟨F13,b13,⟨a13,i13,k13⟩⟩,
  a_Likings_way_by:=f14,d_Likings_way_by:=_,Likings_way_by:=⟨F14,b14,⟨a14,i14,k14⟩⟩,
  a_Likings_offer_of:=f15,d_Likings_offer_of:=_,Likings_offer_of:=⟨F15,b15,⟨a15,i15,k15⟩⟩,
  a_begun:=f16,d_begun:=_,begun:=⟨F16,b16,PySem.W.mg_of X G a16,k16⟩,
  a_comings:=f17,d_comings:=_,comings:=⟨F17,b17,PySem.W.mg_of X G a17,k17⟩,
  a_ways_heard:=f18,d_ways_heard:=_,ways_heard:=⟨F18,b18,PySem.W.mg_of X G a18,k18⟩,
  a_choice_of:=f19,d_choice_of:=_,choice_of:=⟨F19,b19,PySem.W.mg_of X G a19,k19⟩,
  a__law_hand:=f20,d__law_hand:=_,_law_hand:=⟨F20,b20,PySem.W.mg_of X G a20,k20⟩,
  a__law_take:=f21,d__law_take:=_,_law_take:=⟨F21,b21,PySem.W.mg_of X G a21,k21⟩,
  a__law_pick:=f22,d__law_pick:=_,_law_pick:=⟨F22,b22,PySem.W.mg_of X G a22,k22⟩,
  a__law_names:=f23,d__law_names:=_,_law_names:=⟨F23,b23,PySem.W.mg_of X G a23,k23⟩,
  a__law_cond:=f24,d__law_cond:=_,_law_cond:=⟨F24,b24,PySem.W.mg_of X G a24,k24⟩,
  a__law_conds:=f25,d__law_conds:=_,_law_conds:=⟨F25,b25,PySem.W.mg_of X G a25,k25⟩,
  a__law_likings:=f26,d__law_likings:=_,_law_likings:=⟨F26,b26,PySem.W.mg_of X G a26,k26⟩,
  a__law_hands:=f27,d__law_hands:=_,_law_hands:=⟨F27,b27,PySem.W.mg_of X G a27,k27⟩,
  a__law_town:=f28,d__law_town:=_,_law_town:=⟨F28,b28,PySem.W.mg_of X G a28,k28⟩,
  a__law_holds:=f29,d__law_holds:=_,_law_holds:=⟨F29,b29,PySem.W.mg_of X G a29,k29⟩,
  a__law_handed:=f30,d__law_handed:=_,_law_handed:=⟨F30,b30,PySem.W.mg_of X G a30,k30⟩,
  a__law_pairs:=f31,d__law_pairs:=_,_law_pairs:=⟨F31,b31,PySem.W.mg_of X G a31,k31⟩,
  a__law_begun:=f32,d__law_begun:=_,_law_begun:=⟨F32,b32,PySem.W.mg_of X G a32,k32⟩,
  a__law_comings:=f33,d__law_comings:=_,_law_comings:=⟨F33,b33,PySem.W.mg_of X G a33,k33⟩,
  a_law:=fa,d_law:=_,law:=⟨F34,b34,PySem.W.mg_of X G a34,k34⟩,
  isinstance:=PySem.W.mg_none_of X G z_isinstance,
  len:=PySem.W.mg_none_of X G z_len,
  int:=PySem.W.mg_none_of X G z_int,
  tuple:=PySem.W.mg_none_of X G z_tuple,
  range:=PySem.W.mg_none_of X G z_range,
  max:=PySem.W.mg_none_of X G z_max,
  min:=PySem.W.mg_none_of X G z_min,
  sorted:=PySem.W.mg_none_of X G z_sorted,
  all:=PySem.W.mg_none_of X G z_all,
  list:=PySem.W.mg_none_of X G z_list,
  reversed:=PySem.W.mg_none_of X G z_reversed,
  repr:=PySem.W.mg_none_of X G z_repr,
  dict:=PySem.W.mg_none_of X G z_dict}
 exact⟨PySem.W.fnOf "law" "law" (zp zc9) (zo zc9) (zc zc9) .none kV34 dc34 pm34 an34 cd34 ct34,λs v=> .of_eq rfl,λbase _ _=>zll Y F34⟩
noncomputable def vw:Program:={PySem.Challenge.pw_restways_k52_first_states with main:={PySem.Challenge.pw_restways_k52_first_states.main with body:=([4,5,6,8,9,11,12,14,15,17,18,19,20,21,23,24,25,26,27,28,29,30,31,32,33,34,35,36,37]:List Nat).filterMap λi=>PySem.Challenge.pw_restways_k52_first_states.main.body[i]?}}
end K52
open PySem PySem.W PyProof.Rows
local macro_rules | `(tactic|o_head $H)=> `(tactic|(
 refine holds_open (N:=2696) (q:=K52.vw) (loose:=[(PySem.Str.ofString "holds"),(PySem.Str.ofString "all_hold")]) (YP:=Hook.says $H) (Ya:=Hook.val $H) (Yf:=Hook.obs $H) (XP:=XL K52.vw [])
  (Xt:=λz=>xlAt K52.vw [] z&&recOk [] z) (λw=>by kernel_rfl) (Hook.of $H) (Hook.keeps $H) (λz e=>xl_of z (Bool.and_eq_true_iff.mp e).1) XL.keeps
  (by rfl) (by rfl) (by rfl) (λz e=>recFacts_of (Bool.and_eq_true_iff.mp e).2) (by rfl) (by first|assumption|decide +kernel) (by decide +kernel)
  ⟨rfl,rfl,rfl,rfl,rfl,by decide +kernel⟩ ?hw ?hc))
set_option maxRecDepth 100000 in
set_option maxHeartbeats 0 in
theorem PySem.Challenge.cw_restways_k52_first_states_holds : PySem.Challenge.rw_restways_k52_first_states.Holds := by
 w_on;o_law;k_head;(case hw=>w_witness2)
 k_fill
 refine K52.walk (l:=PySem.Challenge.rw_restways_k52_first_states) rfl rfl (λw h Y=>PySem.W.kIn_of Y) ?F
 case F=>
  intro w mg fa h KX G hmg
  refine' K52.all_mk KX G hmg ?aC_Likings ?pg_Likings ?hd_Likings ?po_Likings ?sa_Likings ?mk_Likings ?kc_Likings ?n_Likings_place ?n_Likings_known_keys ?n_Likings_known_offers ?a1 ?l1 ?c1 ?k1 ?ld1 ?a2 ?l2 ?c2 ?k2 ?ld2 ?a3 ?l3 ?c3 ?k3 ?a4 ?l4 ?c4 ?k4 ?a5 ?l5 ?c5 ?k5 ?a6 ?l6 ?c6 ?k6 ?a7 ?l7 ?c7 ?k7 ?a8 ?l8 ?c8 ?k8 ?a9 ?l9 ?c9 ?k9 ?a10 ?l10 ?c10 ?k10 ?a11 ?l11 ?c11 ?k11 ?a12 ?i12 ?l12 ?c12 ?k12 ?a13 ?i13 ?l13 ?c13 ?k13 ?a14 ?i14 ?l14 ?c14 ?k14 ?a15 ?i15 ?l15 ?c15 ?k15 ?a16 ?l16 ?c16 ?k16 ?a17 ?l17 ?c17 ?k17 ?a18 ?l18 ?c18 ?k18 ?a19 ?l19 ?c19 ?k19 ?a20 ?l20 ?c20 ?k20 ?a21 ?l21 ?c21 ?k21 ?a22 ?l22 ?c22 ?k22 ?a23 ?l23 ?c23 ?k23 ?a24 ?l24 ?c24 ?k24 ?a25 ?l25 ?c25 ?k25 ?a26 ?l26 ?c26 ?k26 ?a27 ?l27 ?c27 ?k27 ?a28 ?l28 ?c28 ?k28 ?a29 ?l29 ?c29 ?k29 ?a30 ?l30 ?c30 ?k30 ?a31 ?l31 ?c31 ?k31 ?a32 ?l32 ?c32 ?k32 ?a33 ?l33 ?c33 ?k33 ?a34 ?l34 ?c34 ?k34 ?z_isinstance ?z_len ?z_int ?z_tuple ?z_range ?z_max ?z_min ?z_sorted ?z_all ?z_list ?z_reversed ?z_repr ?z_dict
  (case aC_Likings=>k_is)
  (case pg_Likings=>k_is)
  (case hd_Likings=>k_is)
  (case po_Likings=>k_is)
  (case sa_Likings=>k_is)
  (case mk_Likings=>k_is)
  (case kc_Likings=>k_is)
  (case n_Likings_place=>k_is)
  (case n_Likings_known_keys=>k_is)
  (case n_Likings_known_offers=>k_is)
  (case a1=>k_is)
  (case l1=>k_is)
  (case c1=>k_is)
  (case k1=>k_is)
  (case ld1=>k_is)
  (case a2=>k_is)
  (case l2=>k_is)
  (case c2=>k_is)
  (case k2=>k_is)
  (case ld2=>k_is)
  (case a3=>k_is)
  (case l3=>k_is)
  (case c3=>k_is)
  (case k3=>k_is)
  (case a4=>k_is)
  (case l4=>k_is)
  (case c4=>k_is)
  (case k4=>k_is)
  (case a5=>k_is)
  (case l5=>k_is)
  (case c5=>k_is)
  (case k5=>k_is)
  (case a6=>k_is)
  (case l6=>k_is)
  (case c6=>k_is)
  (case k6=>k_is)
  (case a7=>k_is)
  (case l7=>k_is)
  (case c7=>k_is)
  (case k7=>k_is)
  (case a8=>k_is)
  (case l8=>k_is)
  (case c8=>k_is)
  (case k8=>k_is)
  (case a9=>k_is)
  (case l9=>k_is)
  (case c9=>k_is)
  (case k9=>k_is)
  (case a10=>k_is)
  (case l10=>k_is)
  (case c10=>k_is)
  (case k10=>k_is)
  (case a11=>k_is)
  (case l11=>k_is)
  (case c11=>k_is)
  (case k11=>k_is)
  (case a12=>k_is)
  (case i12=>k_is)
  (case l12=>k_is)
  (case c12=>k_is)
  (case k12=>k_is)
  (case a13=>k_is)
  (case i13=>k_is)
  (case l13=>k_is)
  (case c13=>k_is)
  (case k13=>k_is)
  (case a14=>k_is)
  (case i14=>k_is)
  (case l14=>k_is)
  (case c14=>k_is)
  (case k14=>k_is)
  (case a15=>k_is)
  (case i15=>k_is)
  (case l15=>k_is)
  (case c15=>k_is)
  (case k15=>k_is)
  (case a16=>k_is)
  (case l16=>k_is)
  (case c16=>k_is)
  (case k16=>k_is)
  (case a17=>k_is)
  (case l17=>k_is)
  (case c17=>k_is)
  (case k17=>k_is)
  (case a18=>k_is)
  (case l18=>k_is)
  (case c18=>k_is)
  (case k18=>k_is)
  (case a19=>k_is)
  (case l19=>k_is)
  (case c19=>k_is)
  (case k19=>k_is)
  (case a20=>k_is)
  (case l20=>k_is)
  (case c20=>k_is)
  (case k20=>k_is)
  (case a21=>k_is)
  (case l21=>k_is)
  (case c21=>k_is)
  (case k21=>k_is)
  (case a22=>k_is)
  (case l22=>k_is)
  (case c22=>k_is)
  (case k22=>k_is)
  (case a23=>k_is)
  (case l23=>k_is)
  (case c23=>k_is)
  (case k23=>k_is)
  (case a24=>k_is)
  (case l24=>k_is)
  (case c24=>k_is)
  (case k24=>k_is)
  (case a25=>k_is)
  (case l25=>k_is)
  (case c25=>k_is)
  (case k25=>k_is)
  (case a26=>k_is)
  (case l26=>k_is)
  (case c26=>k_is)
  (case k26=>k_is)
  (case a27=>k_is)
  (case l27=>k_is)
  (case c27=>k_is)
  (case k27=>k_is)
  (case a28=>k_is)
  (case l28=>k_is)
  (case c28=>k_is)
  (case k28=>k_is)
  (case a29=>k_is)
  (case l29=>k_is)
  (case c29=>k_is)
  (case k29=>k_is)
  (case a30=>k_is)
  (case l30=>k_is)
  (case c30=>k_is)
  (case k30=>k_is)
  (case a31=>k_is)
  (case l31=>k_is)
  (case c31=>k_is)
  (case k31=>k_is)
  (case a32=>k_is)
  (case l32=>k_is)
  (case c32=>k_is)
  (case k32=>k_is)
  (case a33=>k_is)
  (case l33=>k_is)
  (case c33=>k_is)
  (case k33=>k_is)
  (case a34=>k_is)
  (case l34=>k_is)
  (case c34=>k_is)
  (case k34=>k_is)
  (case z_isinstance=>k_is)
  (case z_len=>k_is)
  (case z_int=>k_is)
  (case z_tuple=>k_is)
  (case z_range=>k_is)
  (case z_max=>k_is)
  (case z_min=>k_is)
  (case z_sorted=>k_is)
  (case z_all=>k_is)
  (case z_list=>k_is)
  (case z_reversed=>k_is)
  (case z_repr=>k_is)
  (case z_dict=>k_is)
